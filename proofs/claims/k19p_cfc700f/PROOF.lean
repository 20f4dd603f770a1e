import PyProof.Rows.All
import Wide.All
import OpenK.AllK
import Wide.FinOn
import Lean
import PyProof.EqAt
import PyProof.EqKinds
import PyProof.TupleCall
import PySem.Challenge.RW_grope_k19_whole_the_atlas_is_closed
set_option Elab.async false
set_option linter.all false
set_option maxRecDepth 100000
set_option maxHeartbeats 4000000
open Nat (ne_of_lt le_of_lt le_of_eq lt_trans le_of_not_lt lt_of_le_of_lt lt_or_ge mod_lt)
open List (mem_filter mem_filterMap any_eq_false replicate getElem?_take_of_lt length_nil pairwise_iff_getElem pairwise_lt_range append_assoc ext_getElem not_lt perm_ext_iff_of_nodup filter_append filter_congr filter_eq_nil_iff map_congr_left length_filter_le)
open Option (isSome_iff_exists map_some isSome_map isSome)

open Int (one_mul)
noncomputable section
def Ae:=@PySem.wpAny_bind
def AG:=@List.getElem?_eq_some_iff
def Ak:=@List.length_map
def AH:=@List.getElem?_eq_getElem
def An:=@PySem.wpAny_pure
def AU:=@PySem.Heap.get?_push_of_some
def Au:=@Nat.le_refl
def Am:=@if_neg
def AI:=@List.getElem?_map
def AR:=@decide_eq_true
def A4:=@of_decide_eq_true
def BF:=@List.take_succ_eq_append_getElem
def Bg:=@PySem.Heap.get?_push_size
def AK:=@PySem.sizeLine_eq
def AX:=@List.mem_singleton
def AY:=@List.length_append
def A6:=@List.mem_cons_of_mem
def As:=@if_pos
def A8:=@PySem.boot_len
def A1:=@PySem.Heap.lt_size
def Bs:=@Option.some.inj
def AL:=@List.mem_cons
def BE:=@Bool.false_ne_true
def Bj:=@List.mem_cons_self
def Bz:=@List.mem_of_getElem?
def Ba:=@List.map_append
def BC:=@decide_eq_false
def Cz:=@List.getD_eq_getElem?_getD
def Bu:=@List.length_take
def BS:=@PySem.PassesOwn.never
def Bq:=@List.nodup_cons
def A9:=@List.map_cons
def BB:=@List.size_toArray
def Cy:=@List.mem_map_of_mem
def Be:=@Nat.ne_of_lt
def A5:=@Nat.zero_le
def BK:=@List.mem_append
def BP:=@List.take_length
def Ep:=@Array.getElem?_eq_getElem
def CW:=@PySem.wpAny_newObj_type
def Bi:=@List.mem_map
def DZ:=@PySem.F.plainAttrs_list
def Dq:=@List.getElem?_append_left
def DG:=@List.take_append_drop
def CV:=@PySem.wpAny_call_entry
def BZ:=@Bool.and_eq_true
def BY:=@List.getElem_mem
def Do:=@PySem.F.called_set
def Co:=@Int.toNat_natCast
def CU:=@Nat.lt_of_lt_of_le
def DY:=@Array.length_toList
def BJ:=@congrArg
def Eo:=@PySem.Around.under_plainId
def ES:=@List.getElem?_append_right
def Cw:=@List.nodup_append
def By:=@List.map_map
def Cn:=@List.not_mem_nil
def Cv:=@Sum.inr.inj
def Fb:=@PySem.builtinLookup_eq_fast
def FD:=@PySem.wpAny_callSpecial?_slot
def DF:=@PySem.codeAny_builtin
def Cm:=@List.append_nil
def JG:=@PyProof.Rows.F.plain_set_update_loop
def ER:=@PySem.wpAny_setField_rec
def FC:=@Array.getElem?_toList
def CS:=@List.length_cons
def CQ:=@PySem.wpAny_of_eq
def De:=@List.append_assoc
def DE:=@PySem.wpAny_holding
def En:=@Int.toNat_of_nonneg
def EO:=@List.mem_append_right
def EM:=@List.mem_flatMap
def F8:=@List.Perm.append_left
def EL:=@PySem.wpAny_specialOf
def Ck:=@or_false
def GM:=@PySem.SeqAt.canLay_of_shaped
def F7:=@PySem.Heap.SameBut.update
def FB:=@List.take_of_length_le
def Dc:=@PySem.W.mg_none_of
def GJ:=@PySem.F.slot_dict_get
def DC:=@List.length_drop
def E9:=@PySem.typeLookup_type
def E8:=@List.length_set
def Ia:=@PySem.F.slot_list_append
def EK:=@Bool.false_eq_true
def EJ:=@PySem.plainId_quiet
def DW:=@PySem.wpAny_field
def F6:=@PySem.wpAny_truthy_bool
def GH:=@beq_eq_false_iff_ne
def DB:=@PySem.wpAny_mono
def HZ:=@PySem.Heap.get?_update_self
def F5:=@List.length_replicate
def N1:=@PyProof.Rows.F.entry_set_update_loop
def EI:=@List.length_range
def JF:=@PySem.F.type_list_append
def GG:=@List.Sublist.nodup
def FA:=@List.drop_zero
def Lu:=@PySem.F.slot_dict_keyiterator_next
def JE:=@PySem.F.plainAttrs_dict
def JD:=@PySem.F.slot_list_index
def Iq:=@PySem.F.slot_str_split
def DJ:=@List.mem_range
def LW:=@PyProof.Rows.callWith_type1
def Ip:=@List.length_reverse
def Io:=@List.length_pos_iff
def JX:=@List.getElem?_set_self
def JW:=@PySem.Calls.callWith_builtin
def JV:=@Array.getElem?_eq_none
def Im:=@List.mem_replicate
def Gg:=@PySem.isSubtype_type
def Fd:=@List.all_eq_true
def Ha:=@List.cons.injEq
def JU:=@List.getElem?_set_ne
def G9:=@List.getElem?_of_mem
def DH:=@List.map_take
def G8:=@List.mem_of_mem_take
def Il:=@List.flatten_cons
def Es:=@Nat.lt_irrefl
def OE:=@PySem.wpAny_typeNameOfWhole_keyiter
def LV:=@PySem.F.type_list_index
def JT:=@List.replicate_succ
def Ik:=@PySem.wpAny_isInstance
def Ec:=@if_false
def Eb:=@Nat.le_trans
def G7:=@PySem.Heap.size_push
def Ij:=@List.cons_append
def OD:=@PyProof.Rows.slot_tuple_getitem
def LS:=@PySem.Heap.get?_update_other
def LR:=@PySem.F.entry_dict_get
def LO:=@PySem.F.plainAttrs_str
def LN:=@List.Perm.append_right
def JS:=@PySem.Calls.spliced_cons
def Gf:=@List.take_sublist
def Ge:=@PySem.call_meetsIn
def Gc:=@Nat.sub_zero
def Ii:=@PySem.wpAny_passesOwn
def G6:=@PySem.Paired.length
def Er:=@Nat.ne_of_gt
def G5:=@Nat.lt_succ_of_lt
def OC:=@PySem.F.slot_tuple_iterator_next
def OB:=@Array.getElem?_eq_some_iff
def G4:=@PySem.wpAny_attempt
def Gb:=@List.getElem_inj
def RZ:=@List.set_eq_take_append_cons_drop
def Ea:=@Ne.symm
def C7:=@PySem.W.mg_of
def G3:=@Nat.lt_succ_self
def G2:=@PySem.codeAny_mono
def G1:=@PySem.wpAny_typeOf
def JR:=@List.cons_ne_nil
def JQ:=@List.perm_middle
def OA:=@PySem.AutoSeq1.wpAny_loadPart'
def Oz:=@PySem.wpAny_typeNameOf_keyiter
def G0:=@List.map_set
def LM:=@PySem.mem_of_lookup
def Oy:=@PySem.F.slot_dict_items
def Ga:=@PySem.wpAny_rule
def JP:=@Bool.eq_iff_iff
def JO:=@List.mem_append_left
def LL:=@PySem.wpAny_Call_Name_kw
def F9:=@List.find?_cons
def JN:=@Option.map_eq_some_iff
def GZ:=@List.lookup_cons
def Ox:=@PySem.F.type_str_split
def LK:=@PySem.wpAny_pyIter_list
def LJ:=@PySem.Calls.spliced_nil
def LI:=@PySem.wpAny_setState_of
def LH:=@PySem.wpAny_pyIter_slot
def JM:=@PySem.wpAny_seqItems
def RY:=@PySem.SeqAt.compareNe_shaped
def JL:=@Int.emod_lt_of_pos
def Ig:=@Int.zero_add
def Ow:=@List.perm_append_comm
def V5:=@PySem.wpAny_callSpecialIfBoundUnlessNone?_slot
def Ov:=@PySem.F.slot_NoneType_hash
def GY:=@beq_iff_eq
def GV:=@True.intro
def Ou:=@PySem.Calls.evalArgs_plain
def GU:=@PySem.call_meets
def LG:=@beq_self_eq_true
def LF:=@Array.toList_inj
def LD:=@PySem.wpAny_askSetting
def JK:=@List.all_cons
def RX:=@List.perm_append_singleton
def Fc:=@Nat.le_succ
def Ie:=@List.any_eq_true
def LC:=@PySem.codeAny_of_tree
def LB:=@Nat.min_eq_left
def RW:=@PySem.Calls.call_function_entry
def RV:=@List.getLast?_eq_none_iff
def LA:=@List.Perm.trans
def Ot:=@PySem.wpAny_pyIter_tuple
def RU:=@PySem.F.args_tuple_add_2
def GS:=@List.nodup_nil
def ET:=@Or.inr
def Os:=@PySem.Obj.data_mapFields
def RS:=@PySem.F.slot_list_getattribute
def GO:=@List.take_zero
def FF:=@if_true
def FE:=@List.map_nil
def Lz:=@List.Perm.refl
def V4:=@PySem.F.slot_dict_itemiterator_iter
def RQ:=@PySem.F.entry_tuple_add
def RP:=@PySem.F.args_dict_get_2
def Oq:=@PySem.F.slot_tuple_hash
def Oo:=@decide_eq_true_eq
def On:=@List.reverse_cons
def Om:=@PySem.F.plain_list_iadd
def Ol:=@PySem.wpAny_dictEntries
def RO:=@PySem.F.slot_tuple_add
def RN:=@PySem.F.slot_list_insert
def JJ:=@Int.emod_nonneg
def Oj:=@List.length_singleton
def RM:=@PySem.F.type_dict_get
def Oi:=@PySem.wpAny_execs_nil
def JI:=@List.foldl_cons
def Oh:=@List.nil_append
def Og:=@PySem.wpAny_updateSeq
def RL:=@PySem.F.args_object_init_2
def RK:=@List.mem_of_mem_drop
def RJ:=@List.replicate_succ'
def V3:=@List.Nodup.length_le_of_subset
def Of:=@List.map_const'
def RI:=@PySem.W.plainGet_of
def RH:=@PySem.wpAny_setEntries_of
def RG:=@PySem.F.plain_extend_loop
def RF:=@List.toList_toArray
def Ic:=@Nat.le_of_lt
def Oe:=@List.filterMap_cons
def Ib:=@Nat.lt_trans
def Od:=@PySem.wpAny_setField
def Oc:=@List.Perm.cons
def Ob:=@PySem.wpAny_runValue
def Oa:=@PySem.wpAny_fieldsOf
def N9:=@List.take_left
def RE:=@PySem.W.callWith_K
def RD:=@List.getElem?_replicate
def RC:=@PySem.F.args_str_split_2
def RB:=@List.length_eq_zero_iff
def V2:=@List.idxOf_lt_length_of_mem
def N8:=@Nat.add_assoc
def N7:=@Bool.or_false
def N6:=@PySem.wpAny_handled
def N5:=@List.sum_cons
def V1:=@PySem.F.sub_list_frozenset
def V0:=@List.length_eraseIdx_of_lt
def N4:=@List.map_drop
def Rz:=@PySem.wpAny_Call_method
def Ry:=@PySem.F.entry_str_split
def Rx:=@Bool.eq_false_iff
def Rw:=@bne_self_eq_false
def Rv:=@List.reverse_perm
def Ly:=@List.of_mem_zip
def Lx:=@PySem.typeIs_str
def VZ:=@PySem.F.slot_dict_getitem
def VY:=@List.getLast?_eq_some_iff
def VX:=@PySem.F.args_dict_items_1
def Lv:=@List.range_succ
def VW:=@List.drop_eq_getElem_cons
def JH:=@List.any_cons
def Ru:=@List.getElem?_eq_none
def Rt:=@List.getElem?_toArray
def N3:=@Nat.zero_add
def N2:=@List.pairwise_map
def Rq:=@List.take_left'
def Rp:=@Bool.decide_and
def Rn:=@Nat.not_lt_zero
def Rm:=@List.prod_cons
namespace WK
open PySem PyProof.Rows
section
variable {prog:Program}{w:World}{A:Around}{E:Value->Shared->Prop}{s:Shared}
def PH (prog:Program)(w:World)(room:Nat)(h:Heap)(v:Value)(i:Int)(n:Nat):Prop:=∀(A:Around) (E:Value->Shared->Prop) (s:Shared) (Q:Int->Shared->Prop),A.units+room<cLine->s.heap=h->Q i { s with toks:=s.toks+n }->wpAny (model prog w) A (pyHash v) Q E s
inductive J0 (prog:Program)(w:World)(room:Nat)(h:Heap):List Value->List Int->Nat->Prop
 | nil:J0 prog w room h [] [] 0
 | cons {v:Value}{i:Int}{n:Nat}{vs:List Value}{is:List Int}{m:Nat}:PH prog w room h v i n->J0 prog w room h vs is m->J0 prog w room h (v::vs) (i::is) (n+m)
def kC (hu:A.units+(room+4)<cLine)(ho:s.heap.get? a=some o)(hc:o.cls=.type "tuple")(hd:o.data=.seq items n)(hp:J0 prog w room s.heap items.toList is m)
  (h:Q (reduceHash (Builtin.Tuple.tupleHashOf is)) { s with toks:=s.toks+(m+1) }):wpAny (model prog w) A (pyHash (.ref a)) Q E s:=by
 have hT:s.TypeIs (.ref a) "tuple" := ⟨o,ho,hc⟩
 unfold pyHash
 first | unfold pyHashByItsType | skip
 first | refine Ae (wpAny_cRoomFor_or (.inr (by lia)) ?_) | skip
 refine Ae (EL hT Oq.lookup ?_)
 show wpAny _ _ (if (some (Value.builtin "tuple.__hash__") == some Value.none)=true then _ else _) Q E s
 rw[Am (by rw[beq_builtin_none];exact BE)]
 refine Ae (EL hT Oq.lookup ?_)
 show wpAny _ _ (callSpecialIfBoundUnlessNone? (.ref a) "__hash__" _ >>= _) Q E s
 refine Ae (V5 hT Oq (CV Oq hT F.entry_tuple_hash ?_ (F.args_tuple_hash_1 _)))
 show wpAny _ _ (Builtin.Tuple.tupleItemsOf (.ref a) >>= _) _ _ s
 refine Ae (wpAny_tupleItemsOf ho hd ?_)
 refine Ae ?_
 rw[<- Array.forIn_toList]
 refine wpAny_forIn_list _
  (λrest (b:Array Int) s'=>∃(done left:List Int) (k l:Nat),is=done++left/\J0 prog w room s.heap rest left l/\b.toList=done/\m=k+l/\s'={ s with toks:=s.toks+k })
  _ ?_ ?_ _ _ ⟨[],is,0,m,rfl,hp,rfl,by lia,rfl⟩
 ·rintro x rest b s' ⟨done,left,k,l,rfl,hl,hb,rfl,rfl⟩;cases hl with
  | @cons _ i n' _ is' m' h1 hl'=>
   refine Ae (h1 _ _ _ _ ?_ rfl ?_)
   ·show A.units+1+room<cLine;lia
   first
    | exact An ⟨done++[i],is',k+n',m',by simp,hl',by simp[hb],by lia,by simp[N8]⟩
    | exact Ae (An (An ⟨done++[i],is',k+n',m',by simp,hl',by simp[hb],by lia,by simp[N8]⟩))
 rintro b s' ⟨done,left,k,l,rfl,hl,hb,rfl,rfl⟩
 cases hl
 rw[Cm]at h
 show wpAny _ _ (retInt (Builtin.Tuple.tupleHashOf b.toList)) _ _ _
 rw[hb]
 refine wpAny_ret_mkInt ?_
 show wpAny _ _ (if (decide (-(2:Int)^63<=Builtin.Tuple.tupleHashOf done) && decide (Builtin.Tuple.tupleHashOf done<2^63))=true then _ else _) Q E _
 unfold reduceHash at h
 by_cases hr:(decide (-(2:Int)^63<=Builtin.Tuple.tupleHashOf done) && decide (Builtin.Tuple.tupleHashOf done<2^63))=true
 ·rw[As hr];rw[As hr]at h;exact An (by simpa [N8] using h)
 rw[Am hr]
 rw[Am hr]at h
 exact Ae (Ga (An (by simpa [N8] using h)))
def kD {t:Tok} :PH prog w room h (.str x t) (hashStr w x) 1:=λA E s Q _ _ q=>wpAny_pyHash_str q
def kE :PH prog w room h .none 0xFCA86420 1:=λA E s Q _ _ q=>by
 have hT:s.TypeIs .none "NoneType" := rfl;unfold pyHash;first | unfold pyHashByItsType | skip
 have hv:[Value.none].any Value.onHeap=false:=rfl;refine Ae ?_;rw[cRoomFor,Am (by rw[hv];exact BE)];refine An ?_;refine Ae (EL hT Ov.lookup ?_);show wpAny _ _ (if (some (Value.builtin "NoneType.__hash__") == some Value.none)=true then _ else _) Q E s;rw[Am (by rw[beq_builtin_none];exact BE)];refine Ae (EL hT Ov.lookup ?_);show wpAny _ _ (callSpecialIfBoundUnlessNone? .none "__hash__" _ >>= _) Q E s;refine Ae (V5 hT Ov (CV Ov hT F.entry_NoneType_hash (show wpAny _ _ (retInt 0xFCA86420) _ _ s from ?_) (F.args_NoneType_hash_1 _)));refine wpAny_ret_mkInt ?_;show wpAny _ _ (if (decide (-(2:Int)^63<=0xFCA86420) && decide ((0xFCA86420:Int)<2^63))=true then _ else _) Q E _;rw[As (by decide)];exact An q
def PH.mono (x:PH prog w r h v i n)(l:r<=r'):PH prog w r' h v i n:=λA E s Q hu=>x A E s Q (by lia)
mutual
/-- None,a text,a tuple of such -/
def okT:PyData->Bool
 | .none=>true
 | .str _=>true
 | .tuple l=>okTs l
 | _=>false
def okTs:List PyData->Bool
 | []=>true
 | d::r=>okT d && okTs r
end
mutual
def hD (w:World):PyData->Int
 | .none=>0xFCA86420
 | .str x=>hashStr w x
 | .tuple l=>reduceHash (Builtin.Tuple.tupleHashOf (QN w l))
 | _=>0
def QN (w:World):List PyData->List Int
 | []=>[]
 | d::r=>hD w d::QN w r
end
mutual
def QW:PyData->Nat
 | .tuple l=>QV l+1
 | _=>1
def QV:List PyData->Nat
 | []=>0
 | d::r=>QW d+QV r
end
mutual
def dpD:PyData->Nat
 | .tuple l=>dpDs l+4
 | _=>0
def dpDs:List PyData->Nat
 | []=>0
 | d::r=>max (dpD d) (dpDs r)
end
mutual
theorem TQ :∀(d:PyData) (v:Value) (as:List Addr),okT d=true->Reads h v d as->PH prog w (dpD d) h v (hD w d) (QW d)
 | .none,_,_,_,r=>by cases r;exact kE
 | .str x,_,_,_,r=>by cases r;exact kD
 | .tuple l,_,_,ok,r=>by
  cases r with
  | tuple h1 h2 h3 h4=>intro A E s Q hu hs q;have hu':A.units+(dpDs l+4)<cLine:=hu;exact kC (room:=dpDs l) hu' (by rw[hs];exact h1) h2 h3 (by rw[hs];exact TN l _ _ ok h4 (dpDs l) (Au _)) q
 | .bool _,_,_,ok,_=>nomatch ok
 | .int _,_,_,ok,_=>nomatch ok
 | .list _,_,_,ok,_=>nomatch ok
 | .dict _,_,_,ok,_=>nomatch ok
theorem TN :∀(l:List PyData) (vs:List Value) (as:List Addr),okTs l=true->ReadsAll h vs l as->∀r,dpDs l<=r->J0 prog w r h vs (QN w l) (QV l)
 | [],_,_,_,r,_,_=>by cases r;exact .nil
 | d::l,_,_,ok,r,n,hn=>by
  cases r with
  | cons h1 h2=>
   have ok':okT d=true/\okTs l=true:=by simpa [okTs] using ok
   have hn':max (dpD d) (dpDs l)<=n:=hn;exact .cons ((TQ d _ _ ok'.1 h1).mono (by lia)) (TN l _ _ ok'.2 h2 n (by lia))
end
mutual
theorem Tj (ho:h.get? b=some o)(hd:o.data=.dict es ep)(hs:Heap.SameBut b h h'):∀(d:PyData) (v:Value) (as:List Addr),okT d=true->Reads h v d as->Reads h' v d as
 | .none,_,_,_,r=>by cases r;exact .none
 | .str x,_,_,_,r=>by cases r;exact .str _ _
 | .tuple l,_,_,ok,r=>by
  cases r with
  | @tuple a o' vs n xs as h1 h2 h3 h4=>
   have ne:a≠b:=λz=>by rw[z,ho]at h1;cases h1;rw[hd]at h3;cases h3
   exact .tuple ((hs.2 a ne).trans h1) h2 h3 (Ti ho hd hs l _ _ ok h4)
 | .bool _,_,_,ok,_=>nomatch ok
 | .int _,_,_,ok,_=>nomatch ok
 | .list _,_,_,ok,_=>nomatch ok
 | .dict _,_,_,ok,_=>nomatch ok
theorem Ti (ho:h.get? b=some o)(hd:o.data=.dict es ep)(hs:Heap.SameBut b h h'):∀(l:List PyData) (vs:List Value) (as:List Addr),okTs l=true->ReadsAll h vs l as->ReadsAll h' vs l as
 | [],_,_,_,r=>by cases r;exact .nil
 | d::l,_,_,ok,r=>by
  cases r with
  | cons h1 h2=>
   have ok':okT d=true/\okTs l=true:=by simpa [okTs] using ok
   exact .cons (Tj ho hd hs d _ _ ok'.1 h1) (Ti ho hd hs l _ _ ok'.2 h2)
end
mutual
theorem U4:∀(x y:PyData),okT x=true->okT y=true->(PyData.eqv x y=true↔x=y)
 | .none,y,_,oy=>by cases y <;> simp[PyData.eqv,okT]at oy ⊢
 | .str a,y,_,oy=>by cases y <;> simp[PyData.eqv,okT]at oy ⊢
 | .tuple l,y,ox,oy=>by
  cases y with
  | tuple m=>have:=U3 l m ox oy;simp only[PyData.eqv,this,PyData.tuple.injEq]
  | _=>simp[PyData.eqv,okT]at oy ⊢
 | .bool _,_,ok,_=>nomatch ok
 | .int _,_,ok,_=>nomatch ok
 | .list _,_,ok,_=>nomatch ok
 | .dict _,_,ok,_=>nomatch ok
theorem U3:∀(l m:List PyData),okTs l=true->okTs m=true->(PyData.eqvAll l m=true↔l=m)
 | [],m,_,_=>by cases m <;> simp[PyData.eqvAll]
 | x::l,m,ol,om=>by
  cases m with
  | nil=>simp[PyData.eqvAll]
  | cons y m=>
   have ol':okT x=true/\okTs l=true:=by simpa [okTs] using ol
   have om':okT y=true/\okTs m=true:=by simpa [okTs] using om
   simp only[PyData.eqvAll,BZ,U4 x y ol'.1 om'.1,U3 l m ol'.2 om'.2,Ha]
end
mutual
theorem TB :∀(d:PyData) (v:Value) (as:List Addr) (n:Nat),okT d=true->dpD d<4*n->Reads h v d as->∀{A:Around}{E:Value->Shared->Prop}{s:Shared}{Q:Bool->Shared->Prop},s.heap=h->Q true s->wpAny (model prog w) A (eqIsQuiet n v) Q E s
 | .none,_,_,n,_,_,r,A,E,s,Q,_,q=>by cases r;rw[eqIsQuiet_byValue n rfl];exact An q
 | .str x,_,_,n,_,_,r,A,E,s,Q,_,q=>by cases r;rw[eqIsQuiet_byValue n rfl];exact An q
 | .tuple l,_,_,n,ok,hn,r,A,E,s,Q,hs,q=>by
  cases r with
  | @tuple a o' vs n' xs as h1 h2 h3 h4=>
   cases n with
   | zero=>exact absurd hn (by lia)
   | succ n=>
    have hn':dpDs l+4<4*(n+1):=hn;have h1':s.heap.get? a=some o':=by rw[hs];exact h1
    have hT:s.TypeIs (.ref a) "tuple" := ⟨o',h1',h2⟩;have qs:=Tz (h:=h) l vs.toList _ n ok (by lia) h4;unfold eqIsQuiet;refine Ae (EL hT F.slot_tuple_eq.lookup ?_);show wpAny _ _ (isInstance (.ref a) (.type "tuple") >>= _) _ _ s;refine Ae (Ik hT isSubtype_tuple_tuple ?_);simp only[Bool.not_true,EK,Ec];refine Ae (JM h1' h3 ?_);refine Ae ?_;show wpAny _ _ (forIn vs _ _) _ _ s;rw[<- Array.forIn_toList];refine wpAny_forIn_list _ (λrest r s'=>r.1=none/\s'=s/\∀v∈rest,v∈vs.toList) _ ?_ ?_ _ _ ⟨rfl,rfl,λv hv=>hv⟩
    ·rintro v rest r s' ⟨hr,rfl,hall⟩;refine Ae (qs v (hall v Bj) hs ?_);simp only[Bool.not_true,EK,Ec];exact An ⟨rfl,rfl,λu hu'=>hall u (A6 _ hu')⟩
    rintro⟨r1,r2⟩ s' ⟨hr,rfl,_⟩;simp only at hr;subst hr;exact An q
 | .bool _,_,_,_,ok,_,_,_,_,_,_,_,_=>nomatch ok
 | .int _,_,_,_,ok,_,_,_,_,_,_,_,_=>nomatch ok
 | .list _,_,_,_,ok,_,_,_,_,_,_,_,_=>nomatch ok
 | .dict _,_,_,_,ok,_,_,_,_,_,_,_,_=>nomatch ok
theorem Tz :∀(l:List PyData) (vs:List Value) (as:List Addr) (n:Nat),okTs l=true->dpDs l<4*n->ReadsAll h vs l as->∀v∈vs,∀{A:Around}{E:Value->Shared->Prop}{s:Shared}{Q:Bool->Shared->Prop},s.heap=h->Q true s->wpAny (model prog w) A (eqIsQuiet n v) Q E s
 | [],_,_,_,_,_,r,v,hv=>by cases r;cases hv
 | d::l,_,_,n,ok,hn,r,v,hv=>by
  cases r with
  | cons h1 h2=>
   have ok':okT d=true/\okTs l=true:=by simpa [okTs] using ok
   have hn':max (dpD d) (dpDs l)<4*n:=hn;rcases(AL.mp hv)with rfl | hv
   ·exact TB d _ _ n ok'.1 (by lia) h1
   exact Tz l _ _ n ok'.2 (by lia) h2 v hv
end
instance dD:DecidableEq PyData:=λa b=>Classical.propDecidable (a=b)
def jF (h:Heap)(k:PyData)(a:Addr):Prop:=okT k=true/\k.canLay0=true/\dpD k<=12/\k.depth<=8/\∃as,Reads h (.ref a) k as
def dataKind (prog:Program)(w:World):HeapKind prog w PyData where
 is:=jF
 hash:=hD w
 draws:=QW
 room:=λA=>A.units+16<cLine
 inj:=λhx hy=>by obtain⟨_,c,_,_,_,r⟩:=hx;obtain⟨_,_,_,_,_,r'⟩:=hy;exact SeqAt.Reads.unique _ _ _ _ _ c r r'
 keeps:=λx ho hd hs=>by obtain⟨h1,h2,h3,h4,as,r⟩:=x;exact⟨h1,h2,h3,h4,as,Tj ho hd hs _ _ _ h1 r⟩
 pyHash:=λhu hk h=>by obtain⟨h1,h2,h3,h4,as,r⟩:=hk;exact TQ _ _ _ h1 r _ _ _ _ (by lia) rfl h
 eqBool:=@λA E s x y a b Q hu hx hy h=>by
  obtain⟨h1,h2,h3,h4,as,r⟩:=hx;obtain⟨k1,k2,k3,k4,bs,r'⟩:=hy;refine SeqAt.eqBoolOverData _ _ _ _ _ _ _ _ _ _ _ _ r r' h2 k2 (by lia) ?_;have e:PyData.eqv x y=decide (x=y):=by rw[JP,Oo];exact U4 x y h1 k1
  rw[e];exact h
 quiet:=λhk h=>by obtain⟨h1,h2,h3,h4,as,r⟩:=hk;exact TB _ _ _ 8 h1 (by lia) r rfl h
def room_in1 (hu:A.units+20<cLine):(dataKind prog w).room A.in1:=by show A.units+1+16<cLine;lia
end
end WK
namespace L2
open PySem PySem.Spec PyProof.Rows
abbrev Af:=Sum Int Str
def Ej:Af->Value->Bool
 | .inl k,v=>Value.isInt k v
 | .inr x,v=>Value.isStrOf x v
def Lf (w:World):Af->Int
 | .inl k=>hashInt k
 | .inr x=>hashStr w x
theorem Dy:∀{k:Af}{v:Value},Ej k v=true->(∃i t,k=Sum.inl i/\v=Value.int i t)\/(∃x t,k=Sum.inr x/\v=Value.str x t)
 | .inl i,v,h=>by obtain⟨t,e⟩:=Value.isInt_shape (k:=i) (v:=v) h;exact .inl ⟨i,t,rfl,e⟩
 | .inr x,v,h=>by obtain⟨t,e⟩:=Value.isStrOf_shape (x:=x) (v:=v) h;exact .inr ⟨x,t,rfl,e⟩
def UE (i:Int)(t:Tok):Ej (.inl i) (.int i t)=true:=by simp[Ej,Value.isInt]
def UD (x:Str)(t:Tok):Ej (.inr x) (.str x t)=true:=by simp[Ej,Value.isStrOf]
def iY (a b:Int):decide ((Sum.inl a:Af)=Sum.inl b)=(a == b):=by
 by_cases e:a=b
 ·subst e;simp
 have h:¬(Sum.inl a:Af)=Sum.inl b:=λq=>e (Sum.inl.inj q);rw[BC h];exact(GH.mpr e).symm
def iV (a b:Str):decide ((Sum.inr a:Af)=Sum.inr b)=decide (a=b):=by
 by_cases e:a=b
 ·subst e;simp
 have h:¬(Sum.inr a:Af)=Sum.inr b:=λq=>e (Cv q);rw[BC h,BC e]
def iX (a:Int)(b:Str):decide ((Sum.inl a:Af)=Sum.inr b)=false:=BC (λq=>nomatch q)
def iW (a:Str)(b:Int):decide ((Sum.inr a:Af)=Sum.inl b)=false:=BC (λq=>nomatch q)
def Bv (prog:Program)(w:World):PySem.KeyKind prog w Af where
 is:=Ej
 hash:=Lf w
 inj:=λv a b ha hb=>by
  rcases Dy ha with⟨i,t,rfl,rfl⟩ | ⟨x,t,rfl,rfl⟩
  ·rcases Dy hb with⟨j,u,rfl,e⟩ | ⟨y,u,rfl,e⟩
   ·injection e with e1 _;rw[e1]
   exact nomatch e
  rcases Dy hb with⟨j,u,rfl,e⟩ | ⟨y,u,rfl,e⟩
  ·exact nomatch e
  injection e with e1 _;rw[e1]
 byValue:=λk v h=>by rcases Dy h with⟨i,t,rfl,rfl⟩ | ⟨x,t,rfl,rfl⟩ <;> rfl
 pyHash:=λhv h=>by
  rcases Dy hv with⟨i,t,rfl,rfl⟩ | ⟨x,t,rfl,rfl⟩
  ·exact wpAny_pyHash_int h
  exact wpAny_pyHash_str h
 eqBool:=λhu hv h=>by
  rcases Dy hu with⟨i,t,rfl,rfl⟩ | ⟨x,t,rfl,rfl⟩
  ·rcases Dy hv with⟨j,u,rfl,rfl⟩ | ⟨y,u,rfl,rfl⟩
   ·rw[iY]at h;exact wpAny_eqBool_int h
   rw[iX]at h;exact SeqAt.EqAt.int_str i t y u _ _ _ _ h
  rcases Dy hv with⟨j,u,rfl,rfl⟩ | ⟨y,u,rfl,rfl⟩
  ·rw[iW]at h;exact SeqAt.EqAt.str_int x t j u _ _ _ _ h
  rw[iV]at h;exact wpAny_eqBool_str h
 «strs»:=λk x t v h=>by
  rcases Dy h with⟨i,u,rfl,e⟩ | ⟨y,u,rfl,e⟩
  ·exact nomatch e
  injection e with e1 _;subst e1;cases v <;> rfl
def gR (prog:Program)(w:World)(i:Int)(t:Tok):(Bv prog w).is (.inl i) (.int i t)=true:=UE i t
def gQ (prog:Program)(w:World)(x:Str)(t:Tok):(Bv prog w).is (.inr x) (.str x t)=true:=UD x t
inductive V where
 | non | bl (b:Bool) | int (i:Int) | str (x:Str) | byt (b:Array UInt8) | flt (b:UInt64) | ref (a:Addr) | ty (n:String)
 deriving DecidableEq
def RelV:V->Value->Prop
 | .non,u=>u=Value.none
 | .bl b,u=>u=Value.bool b
 | .int i,u=>∃t,u=Value.int i t
 | .str x,u=>∃t,u=Value.str x t
 | .byt b,u=>∃t,u=Value.bytes b t
 | .flt b,u=>∃t,u=Value.float b t
 | .ref a,u=>u=Value.ref a
 | .ty n,u=>u=Value.type n
abbrev Vals:List V->List Value->Prop:=Paired RelV
def Vals.length (r:Vals xs us):xs.length=us.length:=G6 r
theorem Vals.get:∀{xs:List V}{us:List Value}{i:Nat}{x:V},Vals xs us->xs[i]? = some x->∃u,us[i]? = some u/\RelV x u
 | _,_,_,_,.nil,e=>by simp at e
 | _,_,0,_,.cons r _,e=>by simp at e;subst e;exact⟨_,rfl,r⟩
 | _,_,i+1,x,.cons _ t,e=>by obtain⟨u,h1,h2⟩:=Vals.get (i:=i) (x:=x) t (by simpa using e);exact⟨u,by simpa using h1,h2⟩
theorem Vals.append:∀{xs ys:List V}{us ws:List Value},Vals xs us->Vals ys ws->Vals (xs++ys) (us++ws)
 | _,_,_,_,.nil,s=>s
 | _,_,_,_,.cons r t,s=>.cons r (Vals.append t s)
theorem Vals.take:∀{xs:List V}{us:List Value}(n:Nat),Vals xs us->Vals (xs.take n) (us.take n)
 | _,_,0,_=>.nil
 | _,_,_+1,.nil=>.nil
 | _,_,n+1,.cons r t=>.cons r (Vals.take n t)
theorem Vals.drop:∀{xs:List V}{us:List Value}(n:Nat),Vals xs us->Vals (xs.drop n) (us.drop n)
 | _,_,0,r=>r
 | _,_,_+1,.nil=>.nil
 | _,_,n+1,.cons _ t=>Vals.drop n t
def RelO:Option V->Option Value->Prop
 | some v,some u=>RelV v u
 | none,none=>True
 | _,_=>False
def KV {κ:Type}:List (κ×V)->List (κ×Value)->Prop:=Paired λ(p:κ×V) (q:κ×Value)=>p.1=q.1/\RelV p.2 q.2
def kV:Af->V
 | .inl i=>.int i
 | .inr x=>.str x
inductive HO where
 /-- a list -/
 | lst (xs:List V)
 /-- a tuple (never changes) -/
 | tup (xs:List V)
 /-- a dict whose keys are ints and texts;one whose keys are tuples of ints and texts (the empty one is both) -/
 | dK (kvs:List (Af×V)) | dT (kvs:List (PyData×V))
 /-- a set of ints: its members,its size -/
 | set (S:Int->Bool) (n:Nat)
 /-- an instance of the class at C,its dict at dx,its attributes -/
 | ins (C dx:Addr) (fs:List (Str×V))
 /-- the dict of the instance at x -/
 | own (x:Addr)
 /-- the dict of an exception -/
 | xd (fs:List (Str×V))
 /-- a bound method,f of x -/
 | met (f x:Addr)
 /-- a range object lo,lo+1,.. below hi -/
 | rng (lo hi:Int)
 /-- a thing that is known to the object (the script;a dict while a loop L8 it): read,never written while it is so -/
 | frz (o:Obj) (u:HO)
 /-- a code object's table -/
 | tbl (ps:Array Value)
 /-- any other thing,by what is true of its one object (a def of one's own: SetO a S n:=HO.ext λh=>..) -/
 | ext (φ:Heap->Prop)
abbrev Hp:=Addr->Option HO
def Ab (H:Hp)(a:Addr)(o:HO):Hp:=λb=>if b=a then some o else H b
def Ag :Ab H a o a=some o:=by unfold Ab;rw[As rfl]
def Ai (h:b≠a):Ab H a o b=H b:=by unfold Ab;rw[Am h]
def Wo :Ab (Ab H a o) a u=Ab H a u:=by funext b;unfold Ab;split <;> rfl
def A7 {H:Hp}{a b:Addr}{o u:HO}(h:H a=some o)(h':H b=some u)(d:o≠u):a≠b:=by intro e;subst e;rw[h]at h';exact d (Bs h')
def AF {H:Hp}{a b:Addr}{o:HO}(h:H a=some o)(h':H b=none):a≠b:=by intro e;subst e;rw[h]at h';cases h'
mutual
inductive RdD (H:Hp):V->PyData->Prop
 | non:RdD H .non .none
 | str (x:Str):RdD H (.str x) (.str x)
 | tup {a:Addr}{xs:List V}{ds:List PyData}:H a=some (.tup xs)->RdDs H xs ds->RdD H (.ref a) (.tuple ds)
inductive RdDs (H:Hp):List V->List PyData->Prop
 | nil:RdDs H [] []
 | cons {x:V}{d:PyData}{xs:List V}{ds:List PyData}:RdD H x d->RdDs H xs ds->RdDs H (x::xs) (d::ds)
end
mutual
theorem RdD.same (k:∀b xs,H b=some (.tup xs)->H' b=some (.tup xs)):∀{x:V}{d:PyData},RdD H x d->RdD H' x d
 | _,_,.non=>.non
 | _,_,.str x=>.str x
 | _,_,.tup e rs=>.tup (k _ _ e) (RdDs.same k rs)
theorem RdDs.same (k:∀b xs,H b=some (.tup xs)->H' b=some (.tup xs)):∀{xs:List V}{ds:List PyData},RdDs H xs ds->RdDs H' xs ds
 | _,_,.nil=>.nil
 | _,_,.cons a b=>.cons (RdD.same k a) (RdDs.same k b)
end
structure RdT (H:Hp)(a:Addr)(d:PyData):Prop where
 rd:RdD H (.ref a) d
 ok:WK.okT d=true
 lay:d.canLay0=true
 dp:WK.dpD d<=12
 de:d.depth<=8
def RdT.same (r:RdT H a d)(k:∀b xs,H b=some (.tup xs)->H' b=some (.tup xs)):RdT H' a d:=⟨r.rd.same k,r.ok,r.lay,r.dp,r.de⟩
section
variable (P:Program) (w:World)
def ObjOk (H:Hp)(h:Heap)(a:Addr):HO->Prop
 | .lst xs=>xs.length<=sizeLine/\∃(its:List Value) (n:Nat),Vals xs its/\h.get? a=some { cls:=.type "list",data:=.seq its.toArray n }
 | .tup xs=>xs.length<=sizeLine/\∃its:List Value,Vals xs its/\IsTup h a its.toArray
 | .dK kvs=>kvs.length<=sizeLine/\(a == sysModules)=false/\∃vs,KV kvs vs/\h.DictOf (Bv P w) a vs
 | .dT kvs=>kvs.length<=sizeLine/\(a == sysModules)=false/\∃xs:List (PyData×Addr×Value),
   Paired (λ(p:PyData×V) (q:PyData×Addr×Value)=>p.1=q.1/\RdT H q.2.1 p.1/\RelV p.2 q.2.2) kvs xs /\
   ∃o es ep,h.get? a=some o/\o.ExactDict/\o.data=.dict es ep/\es.toList=xs.map (entryOfKey (WK.dataKind P w))/\(xs.map (·.1)).Nodup
 | .set S n=>h.SetOf (intKind P w) a S n
 | .ins C dx fs=>H dx=some (.own a)/\fs.length<=1000/\dx≠a/\h.get? a=some (PySem.W.instObj C dx) /\
   ∃mA,h.Ns1 dx mA/\(∀f,RelO (fs.lookup f) (mA f))/\PySem.Within mA (fs.map (·.1))
 | .own _=>∃o,h.get? a=some o
 | .xd fs=>∃mA,h.Ns1 a mA/\∀f,RelO (fs.lookup f) (mA f)
 | .rng lo hi=>∃t u v,h.get? a=some { cls:=.type "range",data:=.fields #[.int lo t,.int hi u,.int 1 v] }
 | .frz o u=>h.get? a=some o/\ObjOk H h a u
 | .tbl ps=>h.get? a=some { cls:=.none,data:=.fields ps }
 | .met f x=>h.get? a=some (PySem.W.methodObj (.ref f) (.ref x))
 | .ext φ=>φ h/\(∃o,h.get? a=some o)/\∀h1 h2:Heap,φ h1->(∀o,h1.get? a=some o->h2.get? a=some o)->φ h2
def HOk (H:Hp)(h:Heap):Prop:=∀a o,H a=some o->ObjOk P w H h a o
end
section
variable {P:Program}{w:World}{H H':Hp}{h h':Heap}{a:Addr}{o:HO}
def ObjOk.lt (x:ObjOk P w H h a o):a<h.objs.size:=by
 cases o with
 | lst xs=>obtain⟨_,_,_,_,e⟩:=x;exact A1 e
 | tup xs=>obtain⟨_,_,_,p⟩:=x;exact p.lt
 | dK kvs=>obtain⟨_,_,_,_,o,_,_,e,_⟩:=x;exact A1 e
 | dT kvs=>obtain⟨_,_,_,_,o,_,_,e,_⟩:=x;exact A1 e
 | set S n=>obtain⟨o,_,_,_,e,_⟩:=x;exact A1 e
 | ins C dx fs=>obtain⟨_,_,_,e,_⟩:=x;exact A1 e
 | own y=>obtain⟨_,e⟩:=x;exact A1 e
 | xd fs=>obtain⟨_,⟨_,_,_,e,_⟩,_⟩:=x;exact A1 e
 | rng lo hi=>obtain⟨_,_,_,e⟩:=x;exact A1 e
 | frz ob u=>obtain⟨e,_⟩:=x;exact A1 e
 | tbl ps=>exact A1 (show h.get? a=some _ from x)
 | met f y=>exact A1 (show h.get? a=some _ from x)
 | ext φ=>obtain⟨_,⟨_,e⟩,_⟩:=x;exact A1 e
theorem Paired.mapP {α β:Type}{F G:α->β->Prop}:∀{l₁:List α}{l₂:List β},Paired F l₁ l₂->(∀a b,F a b->G a b)->Paired G l₁ l₂
 | _,_,.nil,_=>.nil
 | _,_,.cons r t,f=>.cons (f _ _ r) (Paired.mapP t f)
def ObjOk.stay (x:ObjOk P w H h a o)(k:∀b u,(b=a\/H b=some (.own a))->h.get? b=some u->h'.get? b=some u)
  (ho:∀b,H b=some (.own a)->H' b=some (.own a))(ht:∀b xs,H b=some (.tup xs)->H' b=some (.tup xs)):ObjOk P w H' h' a o:=by
 induction o with
 | lst xs=>obtain⟨z,its,n,r,e⟩:=x;exact⟨z,its,n,r,k _ _ (.inl rfl) e⟩
 | tup xs=>obtain⟨z,its,r,ob,e,c⟩:=x;exact⟨z,its,r,ob,k _ _ (.inl rfl) e,c⟩
 | dK kvs=>obtain⟨z,y,vs,r,ob,es,ep,e,c⟩:=x;exact⟨z,y,vs,r,ob,es,ep,k _ _ (.inl rfl) e,c⟩
 | dT kvs=>obtain⟨z,y,xs,r,ob,es,ep,e,c⟩:=x;exact⟨z,y,xs,Paired.mapP r λp q z=>⟨z.1,z.2.1.same ht,z.2.2⟩,ob,es,ep,k _ _ (.inl rfl) e,c⟩
 | set S n=>obtain⟨ob,es,ep,t,e,c⟩:=x;exact⟨ob,es,ep,t,k _ _ (.inl rfl) e,c⟩
 | ins C dx fs=>obtain⟨d,z,ne,e,mA,⟨od,es,ep,e2,c⟩,r⟩:=x;exact⟨ho _ d,z,ne,k _ _ (.inl rfl) e,mA,⟨od,es,ep,k _ _ (.inr d) e2,c⟩,r⟩
 | own y=>obtain⟨ob,e⟩:=x;exact⟨ob,k _ _ (.inl rfl) e⟩
 | xd fs=>obtain⟨mA,⟨od,es,ep,e,c⟩,r⟩:=x;exact⟨mA,⟨od,es,ep,k _ _ (.inl rfl) e,c⟩,r⟩
 | rng lo hi=>obtain⟨t,u,v,e⟩:=x;exact⟨t,u,v,k _ _ (.inl rfl) e⟩
 | frz ob u ih=>obtain⟨e,q⟩:=x;exact⟨k _ _ (.inl rfl) e,ih q⟩
 | tbl ps=>have e:h.get? a=some { cls:=.none,data:=.fields ps }:=x;show h'.get? a=some { cls:=.none,data:=.fields ps };exact k a _ (.inl rfl) e
 | met f y=>have e:h.get? a=some (PySem.W.methodObj (.ref f) (.ref y)):=x;show h'.get? a=some (PySem.W.methodObj (.ref f) (.ref y));exact k a _ (.inl rfl) e
 | ext φ=>obtain⟨p,⟨o,e⟩,st⟩:=x;exact⟨st _ _ p λo q=>k _ _ (.inl rfl) q,⟨o,k _ _ (.inl rfl) e⟩,st⟩
def HOk.lt (x:HOk P w H h)(e:H a=some o):a<h.objs.size:=(x a o e).lt
def HOk.fresh (x:HOk P w H h)(e:h.objs.size<=a):H a=none:=by
 cases q:H a with
 | none=>rfl
 | some u=>exact absurd (CU (x.lt q) e) (Es _)
def HOk.kept (x:HOk P w H h)(k:∀b u,h.get? b=some u->h'.get? b=some u):HOk P w H h':=λa o e=>(x a o e).stay (λb u _ q=>k b u q) (λ_ q=>q) λ_ _ q=>q
def HOk.laid (x:HOk P w H h)(k:∀b u,h.get? b=some u->h'.get? b=some u)(hp:h.objs.size<=a)(new:ObjOk P w (Ab H a o) h' a o):HOk P w (Ab H a o) h':=λb u e=>by
 have hn:=x.fresh hp;by_cases hb:b=a
 ·subst hb;rw[Ag]at e;cases e;exact new
 rw[Ai hb]at e;exact(x b u e).stay (λc v _ q=>k c v q) (λc q=>by rw[Ai (AF q hn)];exact q) λc xs q=>by rw[Ai (AF q hn)];exact q
end
def Rd (H:Hp)(a:Addr)(u:HO):Prop:=H a=some u\/∃o,H a=some (.frz o u)
def Rd.of (h:H a=some u):Rd H a u:=.inl h
def Rd.ok (r:Rd H a u)(x:HOk P w H h):ObjOk P w H h a u:=by
 rcases r with r | ⟨o,r⟩
 ·exact x a u r
 obtain⟨_,q⟩:=x a _ r;exact q
def LZ:Option HO->Prop
 | some (.lst _)=>True
 | some (.dK _)=>True
 | some (.dT _)=>True
 | some (.set _ _)=>True
 | some (.ins _ _ _)=>True
 | some (.ext _)=>True
 | _=>False
section
variable {P:Program}{w:World}{H:Hp}{h h':Heap}{x e:Addr}{o':HO}
def HOk.write (ok:HOk P w H h)(mu:LZ (H x))(he:e=x\/H e=some (.own x))(k:∀b u,b≠e->h.get? b=some u->h'.get? b=some u)(heo:∃u,h'.get? e=some u)
  (new:ObjOk P w (Ab H x o') h' x o'):HOk P w (Ab H x o') h':=λb u q=>by
 have nown:∀c y,H c=some (.own y)->c≠x:=λc y r z=>by subst z;rw[r]at mu;exact mu
 have ntup:∀c xs,H c=some (.tup xs)->c≠x:=λc xs r z=>by subst z;rw[r]at mu;exact mu
 by_cases hb:b=x
 ·subst hb;rw[Ag]at q;cases q;exact new
 rw[Ai hb]at q
 by_cases hbe:b=e
 ·have q':H b=some (.own x):=by
   rcases he with z | z
   ·exact absurd (hbe.trans z) hb
   rw[hbe];exact z
  rw[q]at q';cases q';obtain⟨v,hv⟩:=heo;exact⟨v,by rw[hbe];exact hv⟩
 refine(ok b u q).stay (λc v hc r=>k c v ?_ r) (λc r=>by rw[Ai (nown c b r)];exact r) λc xs r=>by rw[Ai (ntup c xs r)];exact r
 rcases hc with rfl | hc
 ·exact hbe
 rintro rfl
 rcases he with z | z
 ·exact nown c b hc z
 rw[hc]at z;cases z;exact hb rfl
end
structure Un (fs ex:List Addr)(H H':Hp)(h h':Heap):Prop where
 keep:∀b o,h.get? b=some o->H b=none->b∉fs->b∉ex->h'.get? b=some o
 slot:∀b o,h.get? b=some o->H b=none->b∈fs->b∉ex->∃sl,h'.get? b=some { o with slots:=sl }
 free:∀b o,h.get? b=some o->H b=none->b∉ex->H' b=none
 there:∀b o,h.get? b=some o->b∉ex->∃o',h'.get? b=some o'
 tups:∀b xs,H b=some (.tup xs)->H' b=some (.tup xs)
 frzs:∀b o u,H b=some (.frz o u)->H' b=some (.frz o u)
 tbls:∀b ps,H b=some (.tbl ps)->∃more,H' b=some (.tbl (ps++more))
section
variable {fs fs' ex ex':List Addr}{H H1 H2:Hp}{h h1 h2 h':Heap}{a x e:Addr}{o:HO}
def Un.any (u:Un fs ex H H1 h h1) (q:h.get? b=some ob)(n:H b=none)(hx:b∉ex):∃sl,h1.get? b=some { ob with slots:=sl }:=by
 by_cases hb:b∈fs
 ·exact u.slot b ob q n hb hx
 exact⟨ob.slots,u.keep b ob q n hb hx⟩
def Un.kept (k:∀b u,h.get? b=some u->h'.get? b=some u):Un fs ex H H h h':=
 ⟨λb ob q _ _ _=>k b ob q,λb ob q _ _ _=>⟨ob.slots,k b ob q⟩,λ_ _ _ n _=>n,λb ob q _=>⟨ob,k b ob q⟩,λ_ _ q=>q,λ_ _ _ q=>q,λ_ ps q=>⟨#[],by rw[q];simp⟩⟩
def Un.refl:Un fs ex H H h h:=Un.kept λ_ _ q=>q
theorem Un.laid (k:∀b u,h.get? b=some u->h'.get? b=some u)(hp:h.objs.size<=a)(hn:H a=none):Un fs ex H (Ab H a o) h h' where
 keep:=λb u q _ _ _=>k b u q
 slot:=λb u q _ _ _=>⟨u.slots,k b u q⟩
 free:=λb u q n _=>by rw[Ai (Be (CU (A1 q) hp))];exact n
 there:=λb u q _=>⟨u,k b u q⟩
 tups:=λb xs q=>by rw[Ai (AF q hn)];exact q
 frzs:=λb u xs q=>by rw[Ai (AF q hn)];exact q
 tbls:=λb ps q=>⟨#[],by rw[Ai (AF q hn),q];simp⟩
def Un.write (mu:LZ (H x))(he:e=x\/H e=some (.own x))(k:∀b u,b≠e->h.get? b=some u->h'.get? b=some u)(heo:∃u,h'.get? e=some u):Un fs ex H (Ab H x o) h h':=by
 have hx:∀b,H b=none->b≠x:=λb n z=>by subst z;rw[n]at mu;exact mu
 have hb:∀b,H b=none->b≠e:=λb n z=>by
  subst z;rcases he with r | r
  ·exact hx b n r
  rw[n]at r;cases r
 have hm:∀b u,H b=some u->¬LZ (some u)->b≠x:=λb u q nm z=>by subst z;rw[q]at mu;exact nm mu
 refine⟨λb u q n _ _=>k b u (hb b n) q,λb u q n _ _=>⟨u.slots,k b u (hb b n) q⟩,λb u q n _=>by rw[Ai (hx b n)];exact n,λb u q _=>?_,λb xs q=>by rw[Ai (hm b _ q λz=>z)];exact q,λb u xs q=>by rw[Ai (hm b _ q λz=>z)];exact q,λb ps q=>⟨#[],by rw[Ai (hm b _ q λz=>z),q];simp⟩⟩;by_cases hbe:b=e
 ·subst hbe;exact heo
 exact⟨u,k b u hbe q⟩
end
def Mb (h:Heap)(H:Hp):List Addr:=(List.range h.objs.size).filter λa=>(H a).isSome
def F2 (h:Heap)(H:Hp):Heap:=PySem.W.hideAll h (Mb h H)
def jX (h:Heap)(H:Hp):(F2 h H).objs.size=h.objs.size:=PySem.W.hideAll_size _ _
def jY (e:h.get? b=some o)(n:H b=none):(F2 h H).get? b=some o:=
 PySem.W.hideAll_get _ e λhm=>by have q:(H b).isSome=true:=(mem_filter.mp hm).2;rw[n]at q;simp at q
def cE (e:(F2 h H).get? b=some o):h.get? b=some o/\H b=none:=by
 have e':h.get? b=some o:=PySem.W.of_hideAll (Mb h H) e;refine⟨e',?_⟩;cases q:H b with
 | none=>rfl
 | some x=>have hm:b∈Mb h H:=mem_filter.mpr ⟨DJ.mpr (A1 e'),by simp[q]⟩;have z:(F2 h H).get? b=none:=PySem.W.hideAll_none (Mb h H) hm;rw[z]at e;cases e
end L2
namespace L2
open PySem PySem.Spec PyProof.Rows
structure Mod (K:W.Frag)(mg:Str->Option Value)(base:Heap):Prop where
 kin:K.In base
 glob:base.Ns mainGlobals mg
 blt:∃mb,base.Ns builtinsNs mb/\∀x:Str,x ≠ "__name__" -> mb x=bootBuiltins x
 nolimit:base.NoLimit
structure Cx where
 prog:Program
 w:World
 K:W.Frag
 mg:Str->Option Value
 base:Heap
 A:Around
 N:List Str
 s₀:Shared
 H₀:Hp
 env:Env
 outer:List Env
 stack:List Env
 ex:List Addr
 fn:Str->Bool
 calm:Bool
 pn:List (Addr×Obj)
 xe:Value->Shared->Prop
def E5 (l:List Env):List Addr:=l.filterMap (·.frame)
abbrev Cx.fs (X:Cx):List Addr:=E5 X.outer
def R4 (sc:Scope)(x:Str):Prop:=sc.names.lookup x=some .local\/sc.names.lookup x=some .cell\/sc.names.lookup x=some .free
def J1 (sc:Scope)(x:Str):Prop:=sc.names.lookup x=some .local\/sc.names.lookup x=some .cell
def oG (env:Env)(h:Heap)(m:Str->Option Value)(x:Str)(u:Value):Prop:=
 (env.kindOf x=some .local/\m x=some u)\/((env.kindOf x=some .cell\/env.kindOf x=some .free)/\∃c,env.cells.lookup x=some c/\h.IsCell c (some u))
structure Cx.Ok (X:Cx):Prop where
 mod:Mod X.K X.mg X.base
 kind:X.env.scope.kind=.function
 glob:X.env.globals=mainGlobals
 blt:X.env.builtins=builtinsNs
 above:X.s₀.heap.objs.size<=X.env.locals
 inj:∀x y c,X.env.cells.lookup x=some c->X.env.cells.lookup y=some c->x=y
 has:∀x,(X.env.kindOf x=some .cell\/X.env.kindOf x=some .free)->∃c,X.env.cells.lookup x=some c
 cab:∀x c,X.fn x=true->X.env.cells.lookup x=some c->X.s₀.heap.objs.size<=c
 hd:X.calm=true->X.A.handled=none
 frames:X.A.frames=some X.stack
 stk:X.stack=X.outer\/(X.stack=X.env::X.outer/\X.env.frame=some X.env.locals)
 exf:∀b∈X.ex,b≠X.env.locals/\∀x c,X.env.cells.lookup x=some c->c≠b
 bs:∀b o,X.base.get? b=some o->X.s₀.heap.get? b=some o/\X.H₀ b=none
 bsz:X.base.objs.size<=X.s₀.heap.objs.size
 noex:∀b o,X.base.get? b=some o->b∉X.ex
 exfs:∀b∈X.ex,b∉X.fs
 funs:X.s₀.heap.FunFrames X.base X.outer
 frf:∀b∈X.fs,X.H₀ b=none
structure Inv (X:Cx)(aa:List (Addr×Obj))(σ:List (Option V))(H:Hp)(s:Shared):Prop where
 ok:X.Ok
 os:s.os=X.s₀.os
 bare:AllBare s.gens
 base:Un X.fs X.ex X.H₀ H X.s₀.heap s.heap
 loc:∃m,s.heap.Ns X.env.locals m/\∀(i:Nat) (x:Str) (v:V),X.N[i]? = some x->σ[i]? = some (some v)->R4 X.env.scope x->∃u,RelV v u/\oG X.env s.heap m x u
 cell:∀x c,X.env.cells.lookup x=some c->∃v,s.heap.IsCell c v
 free:H X.env.locals=none
 freeC:∀x c,X.env.cells.lookup x=some c->H c=none
 pin:∀p∈X.pn++aa,s.heap.get? p.1=some p.2/\H p.1=none/\p.1≠X.env.locals/\p.1∉X.fs/\∀v,p.2.data≠.cell v
 hok:HOk X.prog X.w H s.heap
 len:σ.length=X.N.length
section
variable {X:Cx}{aa:List (Addr×Obj)}{σ:List (Option V)}{H H':Hp}{s:Shared}{h':Heap}
def Cx.Ok.nofr (ok:X.Ok) (e:X.base.get? b=some o):b∉X.fs:=λhb=>by have:=(ok.funs.mem hb).1;rw[e]at this;cases this
def Inv.bs (I:Inv X aa σ H s):∀b o,X.base.get? b=some o->s.heap.get? b=some o/\H b=none:=λb o e=>⟨I.base.keep b o (I.ok.bs b o e).1 (I.ok.bs b o e).2 (I.ok.nofr e) (I.ok.noex b o e),I.base.free b o (I.ok.bs b o e).1 (I.ok.bs b o e).2 (I.ok.noex b o e)⟩
def Inv.bk (I:Inv X aa σ H s):∀b o,X.base.get? b=some o->s.heap.get? b=some o:=λb o e=>(I.bs b o e).1
def Inv.mod (I:Inv X aa σ H s):Mod X.K X.mg X.base:=I.ok.mod
def Inv.kIn (I:Inv X aa σ H s):X.K.In s.heap:=I.ok.mod.kin.keeps I.bk
def Inv.lt (I:Inv X aa σ H s):X.env.locals<s.heap.objs.size:=let ⟨_,hn,_⟩:=I.loc;hn.lt
def Inv.sz (I:Inv X aa σ H s):X.s₀.heap.objs.size<=s.heap.objs.size:=Eb I.ok.above (Ic I.lt)
def Inv.nofs (I:Inv X aa σ H s) (h:s.heap.objs.size<=a):a∉X.fs:=λhb=>by obtain⟨_,o,ho,_⟩:=I.ok.funs.mem hb;exact absurd (CU (A1 ho) (Eb I.sz h)) (Es _)
def Inv.cne (I:Inv X aa σ H s):∀x c,X.env.cells.lookup x=some c->c≠X.env.locals:=λx c e z=>by obtain⟨v,o,ho,hd⟩:=I.cell x c e;obtain⟨m,⟨o',es,ep,ho',hd',_⟩,_⟩:=I.loc;rw[z,ho']at ho;cases ho;rw[hd']at hd;cases hd
def Inv.funs (I:Inv X aa σ H s):s.heap.FunFrames X.base X.outer:=by
 have all:∀(l:List Env),(∀b∈E5 l,b∈X.fs)->X.s₀.heap.FunFrames X.base l->s.heap.FunFrames X.base l:=by
  intro l;induction l with
  | nil=>intro _ _;trivial
  | cons env r ih=>intro hs hl;obtain⟨hk,⟨L,o,hf,hn,ho,hd⟩,hr⟩:=hl;have hL:L∈X.fs:=hs L (by unfold E5;rw[Oe,hf];exact Bj);obtain⟨sl,e⟩:=I.base.slot L o ho (I.ok.frf L hL) hL λz=>I.ok.exfs L z hL;exact⟨hk,⟨L,_,hf,hn,e,hd⟩,ih (λb hb=>hs b (by unfold E5;rw[Oe,hf];exact A6 _ hb)) hr⟩
 exact all X.outer (λ_ hb=>hb) I.ok.funs
def Inv.stack (I:Inv X aa σ H s):s.heap.FunFrames X.base X.stack:=by
 rcases I.ok.stk with e | ⟨e,hf⟩
 ·rw[e];exact I.funs
 rw[e];obtain⟨m,hn,_⟩:=I.loc;refine .cons (by rw[I.ok.kind];decide) hf hn ?_ I.funs;exact Heap.get?_none_of_le (Eb I.ok.bsz I.ok.above)
def Inv.stkSub (I:Inv X aa σ H s):∀b∈E5 X.stack,b∈X.env.locals::X.fs:=λb hb=>by
 rcases I.ok.stk with e | ⟨e,hf⟩
 ·rw[e]at hb;exact A6 _ hb
 rw[e]at hb;unfold E5 at hb;rw[Oe,hf]at hb;exact hb
def Inv.stkFree (I:Inv X aa σ H s):∀b∈E5 X.stack,H b=none:=λb hb=>by
 rcases AL.mp (I.stkSub b hb)with e | hb
 ·rw[e];exact I.free
 obtain⟨_,o,ho,_⟩:=I.ok.funs.mem hb;exact I.base.free b o ho (I.ok.frf b hb) λz=>I.ok.exfs b z hb
def Inv.step {g':Array GenState}{t':Nat}{d':Drawn}{ch:List Addr}(I:Inv X aa σ H s)
  (hch:∀b∈ch,(b∈X.ex\/X.s₀.heap.objs.size<=b)/\b≠X.env.locals/\(∀x c,X.env.cells.lookup x=some c->c≠b)/\∀p∈X.pn++aa,p.1≠b)
  (keep:∀b o,b≠X.env.locals->b∉X.fs->b∉ch->s.heap.get? b=some o->H b=none->h'.get? b=some o)
  (slot:∀b o,b≠X.env.locals->b∈X.fs->b∉ch->s.heap.get? b=some o->H b=none->∃sl,h'.get? b=some { o with slots:=sl })(free:∀b o,b∉ch->s.heap.get? b=some o->H b=none->H' b=none)
  (there:∀b o,b∉ch->s.heap.get? b=some o->∃o',h'.get? b=some o')
  (tups:∀b xs,H b=some (.tup xs)->H' b=some (.tup xs))(frzs:∀b o u,H b=some (.frz o u)->H' b=some (.frz o u))(tbls:∀b ps,H b=some (.tbl ps)->∃more,H' b=some (.tbl (ps++more)))
  (ns:∀m,s.heap.Ns X.env.locals m->h'.Ns X.env.locals m)(hok:HOk X.prog X.w H' h')(hg:AllBare g') :
  Inv X aa σ H' { s with heap:=h',gens:=g',drawn:=d',toks:=t' }:=by
 have neL:∀b o,X.s₀.heap.get? b=some o->b≠X.env.locals:=λb o e=>Be (CU (A1 e) I.ok.above)
 have neC:∀b o,X.s₀.heap.get? b=some o->b∉X.ex->b∉ch:=λb o e hx hb=>by
  rcases(hch b hb).1 with z | z
  ·exact hx z
  exact absurd (CU (A1 e) z) (Es _)
 have cellK:∀x c,X.env.cells.lookup x=some c->∀v,s.heap.IsCell c v->h'.IsCell c v:=λx c e v ⟨o,ho,hd⟩=>by
  have nch:c∉ch:=λz=>(hch c z).2.2.1 x c e rfl;by_cases hc:c∈X.fs
  ·obtain⟨sl,q⟩:=slot c o (I.cne x c e) hc nch ho (I.freeC x c e);exact⟨_,q,hd⟩
  exact⟨o,keep c o (I.cne x c e) hc nch ho (I.freeC x c e),hd⟩
 refine⟨I.ok,I.os,hg,⟨λb o e n hb hx=>?_,λb o e n hb hx=>?_,λb o e n hx=>?_,λb o e hx=>?_,λb xs e=>tups b xs (I.base.tups b xs e),λb o xs e=>frzs b o xs (I.base.frzs b o xs e),λb ps e=>?_⟩,?_,λx c e=>?_,?_,λx c e=>?_,λp hp=>?_,hok,I.len⟩
 ·exact keep b o (neL b o e) hb (neC b o e hx) (I.base.keep b o e n hb hx) (I.base.free b o e n hx)
 ·obtain⟨sl,e1⟩:=I.base.slot b o e n hb hx;obtain⟨sl',e2⟩:=slot b _ (neL b o e) hb (neC b o e hx) e1 (I.base.free b o e n hx);exact⟨sl',e2⟩
 ·obtain⟨o',e1⟩:=I.base.there b o e hx;exact free b o' (neC b o e hx) e1 (I.base.free b o e n hx)
 ·obtain⟨o',e1⟩:=I.base.there b o e hx;exact there b o' (neC b o e hx) e1
 ·obtain⟨m1,e1⟩:=I.base.tbls b ps e;obtain⟨m2,e2⟩:=tbls b _ e1;exact⟨m1++m2,by rw[e2,Array.append_assoc]⟩
 ·obtain⟨m,hn,hl⟩:=I.loc;refine⟨m,ns m hn,λi x v e1 e2 e3=>?_⟩;obtain⟨u,r,l⟩:=hl i x v e1 e2 e3;refine⟨u,r,?_⟩;rcases l with l | ⟨k,c,e,z⟩
  ·exact .inl l
  exact .inr ⟨k,c,e,cellK x c e _ z⟩
 ·obtain⟨v,z⟩:=I.cell x c e;exact⟨v,cellK x c e v z⟩
 ·obtain⟨m,⟨o,_,_,ho,_⟩,_⟩:=I.loc;exact free _ o (λz=>(hch _ z).2.1 rfl) ho I.free
 ·obtain⟨v,o,ho,hd⟩:=I.cell x c e;exact free c o (λz=>(hch c z).2.2.1 x c e rfl) ho (I.freeC x c e)
 obtain⟨e,n,ne,nf,d⟩:=I.pin p hp
 have nch:p.1∉ch:=λz=>(hch p.1 z).2.2.2 p hp rfl
 exact⟨keep p.1 p.2 ne nf nch e n,free p.1 p.2 nch e n,ne,nf,d⟩
def Inv.un (I:Inv X aa σ H s)(u:Un X.fs [] H H' s.heap h')(hok:HOk X.prog X.w H' h'):Inv X aa σ H' { s with heap:=h',toks:=t' }:=by obtain⟨m,⟨o,es,ep,ho,r⟩,_⟩:=id I.loc;obtain⟨sl,hL⟩:=u.any ho I.free (by simp);exact I.step (g':=s.gens) (d':=s.drawn) (ch:=[]) (λ_ z=>nomatch z) (λb o _ hb _ e n=>u.keep b o e n hb (by simp)) (λb o _ hb _ e n=>u.slot b o e n hb (by simp)) (λb o _ e n=>u.free b o e n (by simp)) (λb o _ e=>u.there b o e (by simp)) u.tups u.frzs u.tbls (λm' hm=>by obtain⟨o',es',ep',ho',r'⟩:=hm;rw[ho]at ho';cases ho';exact⟨_,es',ep',hL,r'⟩) hok I.bare
def Inv.call (I:Inv X aa σ H s)(u:Un (E5 X.stack) ch H H' s.heap h')(hok:HOk X.prog X.w H' h')(hg:AllBare g')
  (hch:∀b∈ch,(b∈X.ex\/X.s₀.heap.objs.size<=b)/\b≠X.env.locals/\(∀x c,X.env.cells.lookup x=some c->c≠b)/\∀p∈X.pn++aa,p.1≠b) :
  Inv X aa σ H' { s with heap:=h',gens:=g',drawn:=d',toks:=t' }:=by
 obtain⟨m,⟨o,es,ep,ho,r⟩,_⟩:=id I.loc
 obtain⟨sl,hL⟩:=u.any ho I.free λz=>(hch _ z).2.1 rfl
 exact I.step (ch:=ch) hch (λb o hL hb hc e n=>u.keep b o e n (λz=>(AL.mp (I.stkSub b z)).elim hL hb) hc) (λb o _ _ hc e n=>u.any e n hc) (λb o hc e n=>u.free b o e n hc) (λb o hc e=>u.there b o e hc) u.tups u.frzs u.tbls (λm' hm=>by obtain⟨o',es',ep',ho',r'⟩:=hm;rw[ho]at ho';cases ho';exact⟨_,es',ep',hL,r'⟩) hok hg
def Inv.turned (I:Inv X aa σ H s)(k:∀b o,b≠it->s.heap.get? b=some o->h'.get? b=some o)(hn:H it=none)(hL:it≠X.env.locals)
  (h1:it∈X.ex\/X.s₀.heap.objs.size<=it)(h2:∀x c,X.env.cells.lookup x=some c->c≠it)(h3:∀p∈X.pn++aa,p.1≠it):Inv X aa σ H { s with heap:=h',toks:=t' }:=by
 have nit:∀b u,H b=some u->b≠it:=λb u e z=>by rw[z,hn]at e;cases e
 refine I.step (g':=s.gens) (d':=s.drawn) (ch:=[it]) (λb hb=>?_) (λb o _ _ hc e _=>k b o (λz=>hc (by simp[z])) e) (λb o _ _ hc e _=>⟨o.slots,k b o (λz=>hc (by simp[z])) e⟩) (λ_ _ _ _ n=>n)
  (λb o hc e=>⟨o,k b o (λz=>hc (by simp[z])) e⟩) (λ_ _ e=>e) (λ_ _ _ e=>e) (λb ps e=>⟨#[],by rw[e];simp⟩) (λm hm=>?_) (λb u e=>?_) I.bare
 ·have e:b=it:=by simpa using hb
  subst e;exact⟨h1,hL,h2,h3⟩
 ·obtain⟨o,es,ep,ho,r⟩:=hm;exact⟨o,es,ep,k _ o (Ea hL) ho,r⟩
 refine(I.hok b u e).stay (λc v hc q=>k c v ?_ q) (λ_ q=>q) λ_ _ q=>q
 rcases hc with z | z
 ·rw[z];exact nit b u e
 exact nit c _ z
def Inv.tok (I:Inv X aa σ H s)(t:Nat):Inv X aa σ H { s with toks:=t }:=I.un (h':=s.heap) (t':=t) Un.refl I.hok
def Inv.kept (I:Inv X aa σ H s)(k:∀b u,s.heap.get? b=some u->h'.get? b=some u):Inv X aa σ H { s with heap:=h',toks:=t' }:=I.un (Un.kept k) (I.hok.kept k)
def Inv.laid (I:Inv X aa σ H s)(k:∀b u,s.heap.get? b=some u->h'.get? b=some u)(hp:s.heap.objs.size<=a)(new:ObjOk X.prog X.w (Ab H a o) h' a o) :
  Inv X aa σ (Ab H a o) { s with heap:=h',toks:=t' }:=I.un (Un.laid k hp (I.hok.fresh hp)) (I.hok.laid k hp new)
def Inv.write (I:Inv X aa σ H s)(mu:LZ (H x))(he:e=x\/H e=some (.own x))(k:∀b u,b≠e->s.heap.get? b=some u->h'.get? b=some u)(heo:∃u,h'.get? e=some u)
  (new:ObjOk X.prog X.w (Ab H x o) h' x o):Inv X aa σ (Ab H x o) { s with heap:=h',toks:=t' }:=I.un (Un.write mu he k heo) (I.hok.write mu he k heo new)
def Inv.weak (I:Inv X aa σ H s)(hl:σ'.length=σ.length)(w:∀(i:Nat) v,σ'[i]? = some (some v)->σ[i]? = some (some v)):Inv X aa σ' H s:=
 ⟨I.ok,I.os,I.bare,I.base,let ⟨m,hn,hl'⟩:=I.loc;⟨m,hn,λi x v e1 e2 e3=>hl' i x v e1 (w i v e2) e3⟩,I.cell,I.free,I.freeC,I.pin,I.hok,hl.trans I.len⟩
def Inv.pins_of (I:Inv X aa σ H s)(h:∀p∈pins',s.heap.get? p.1=some p.2/\H p.1=none/\p.1≠X.env.locals/\p.1∉X.fs/\∀v,p.2.data≠.cell v):Inv X pins' σ H s:=
 ⟨I.ok,I.os,I.bare,I.base,I.loc,I.cell,I.free,I.freeC,λp hp=>(BK.mp hp).elim (λz=>I.pin p (JO _ z)) (h p),I.hok,I.len⟩
def Ud {N:List Str}(hN:N.Nodup){i j:Nat}{x:Str}(a:N[i]? = some x)(b:N[j]? = some x):i=j:=by obtain⟨h1,e1⟩:=AG.mp a;obtain⟨h2,e2⟩:=AG.mp b;exact(Gb hN).mp (e1.trans e2.symm)
def SU (I:Inv X aa σ H s)(hN:X.N.Nodup)(hi:X.N[i]? = some x)(hx:J1 X.env.scope x)(r:RelV v u)
  (h:∀s',Inv X aa (σ.set i (some v)) H s'->(∃a,Heap.SameBut a s.heap s'.heap/\(a=X.env.locals\/X.env.cells.lookup x=some a))->Q () s')(hf:X.fn x=true\/X.env.scope.names.lookup x=some .local:=by first | exact .inl rfl | exact .inr rfl | assumption):wpAny M A (storeName X.env x u) Q E s:=by
 obtain⟨m,hn,hl⟩:=id I.loc
 have hcls:(X.env.scope.kind == .class || (X.env.scope.kind == .module && X.env.locals != X.env.globals))=false:=by rw[I.ok.kind];rfl
 have hiσ:i<σ.length:=by rw[I.len];exact(AG.mp hi).1
 have cne:=I.cne
 have tracked:∀{a:Addr}{h':Heap},(∃o,s.heap.get? a=some o/\H a=none)->Heap.SameBut a s.heap h'->HOk X.prog X.w H h':=λ{a h'} ha hs b ob e=>by
  obtain⟨_,_,hfree⟩:=ha;refine(I.hok b ob e).stay (λc w' hc q=>(hs.2 c ?_).trans q) (λ_ q=>q) λ_ _ q=>q;rintro rfl;rcases hc with rfl | hc
  ·rw[hfree]at e;cases e
  rw[hfree]at hc;cases hc
 rcases hx with hk | hk
 ·refine wpAny_storeName_local hk hn (λh' hn' hs=>?_) hcls;obtain⟨oL,_,_,hoL,_⟩:=id hn;refine h _ ⟨I.ok,I.os,I.bare,⟨λb o e n hb hx=>?_,λb o e n hb hx=>?_,I.base.free,λb o e hx=>?_,I.base.tups,I.base.frzs,I.base.tbls⟩,⟨_,hn',λj y v' e1 e2 e3=>?_⟩,λy c e=>?_,I.free,I.freeC,λp hp=>?_,tracked ⟨oL,hoL,I.free⟩ hs,by simpa using I.len⟩ ⟨_,hs,.inl rfl⟩
  ·exact(hs.2 b (Be (CU (A1 e) I.ok.above))).trans (I.base.keep b o e n hb hx)
  ·obtain⟨sl,e1⟩:=I.base.slot b o e n hb hx;exact⟨sl,(hs.2 b (Be (CU (A1 e) I.ok.above))).trans e1⟩
  ·obtain⟨o',e1⟩:=I.base.there b o e hx;exact⟨o',(hs.2 b (Be (CU (A1 e) I.ok.above))).trans e1⟩
  ·by_cases hj:j=i
   ·subst hj;rw[hi]at e1;cases e1;rw[JX hiσ]at e2;cases e2;exact⟨u,r,.inl ⟨hk,by simp⟩⟩
   rw[JU (Ea hj)]at e2;obtain⟨u',r',q⟩:=hl j y v' e1 e2 e3;refine⟨u',r',?_⟩;rcases q with⟨k,e⟩ | ⟨k,c,e,z⟩
   ·refine .inl ⟨k,?_⟩;have:y≠x:=λe=>hj (Ud hN e1 (e ▸ hi));simp[this,e]
   exact .inr ⟨k,c,e,z.sameBut hs (cne y c e)⟩
  ·obtain⟨w',z⟩:=I.cell y c e;exact⟨w',z.sameBut hs (cne y c e)⟩
  obtain⟨e,n,ne,nf,d⟩:=I.pin p hp;exact⟨(hs.2 p.1 ne).trans e,n,ne,nf,d⟩
 have hfn:X.fn x=true:=by
  rcases hf with z | z
  ·exact z
  rw[z]at hk;cases hk
 obtain⟨c,hc⟩:=I.ok.has x (.inl hk)
 obtain⟨w',z⟩:=I.cell x c hc
 refine wpAny_storeName_cell I.ok.kind hk hc z (λh' hc' hs=>?_)
 obtain⟨oc,hoc,hocd⟩:=id z
 refine h { s with heap:=h' } ⟨I.ok,I.os,I.bare,⟨λb o e n hb hx=>?_,λb o e n hb hx=>?_,I.base.free,λb o e hx=>?_,I.base.tups,I.base.frzs,I.base.tbls⟩,⟨m,hn.sameBut hs (Ea (cne x c hc)),λj y v' e1 e2 e3=>?_⟩,λy c' e=>?_,I.free,I.freeC,λp hp=>?_,tracked ⟨oc,hoc,I.freeC x c hc⟩ hs,by simpa using I.len⟩ ⟨c,hs,.inr hc⟩
 ·exact(hs.2 b (Be (CU (A1 e) (I.ok.cab x c hfn hc)))).trans (I.base.keep b o e n hb hx)
 ·obtain⟨sl,e1⟩:=I.base.slot b o e n hb hx;exact⟨sl,(hs.2 b (Be (CU (A1 e) (I.ok.cab x c hfn hc)))).trans e1⟩
 ·obtain⟨o',e1⟩:=I.base.there b o e hx;exact⟨o',(hs.2 b (Be (CU (A1 e) (I.ok.cab x c hfn hc)))).trans e1⟩
 ·by_cases hj:j=i
  ·subst hj;rw[hi]at e1;cases e1;rw[JX hiσ]at e2;cases e2;exact⟨u,r,.inr ⟨.inl hk,c,hc,hc'⟩⟩
  rw[JU (Ea hj)]at e2;obtain⟨u',r',q⟩:=hl j y v' e1 e2 e3;refine⟨u',r',?_⟩;rcases q with q | ⟨k,c',e,z'⟩
  ·exact .inl q
  refine .inr ⟨k,c',e,z'.sameBut hs ?_⟩;rintro rfl;exact hj (Ud hN e1 (I.ok.inj _ _ _ e hc ▸ hi))
 ·by_cases hcc:c'=c
  ·subst hcc;exact⟨_,hc'⟩
  obtain⟨w2,z2⟩:=I.cell y c' e;exact⟨w2,z2.sameBut hs hcc⟩
 obtain⟨e,n,ne,nf,d⟩:=I.pin p hp
 refine⟨(hs.2 p.1 ?_).trans e,n,ne,nf,d⟩
 intro q
 rw[q,hoc]at e
 have q':oc=p.2:=Bs e
 exact d w' (by rw[<- q'];exact hocd)
def SV (I:Inv X aa σ H s)(hN:X.N.Nodup)(hi:X.N[i]? = some x)(hx:J1 X.env.scope x)(r:RelV v u)
  (h:∀s',Inv X aa (σ.set i (some v)) H s'->Q () s')(hf:X.fn x=true\/X.env.scope.names.lookup x=some .local:=by first | exact .inl rfl | exact .inr rfl | assumption):wpAny M A (storeName X.env x u) Q E s:=
 SU I hN hi hx r (λs' I' _=>h s' I') hf
def Inv.call' (I:Inv X aa σ H s)(ho:s'.os=s.os)(u:Un (E5 X.stack) ch H H' s.heap s'.heap)(hok:HOk X.prog X.w H' s'.heap)(hg:AllBare s'.gens)
  (hch:∀b∈ch,(b∈X.ex\/X.s₀.heap.objs.size<=b)/\b≠X.env.locals/\(∀x c,X.env.cells.lookup x=some c->c≠b)/\∀p∈X.pn++aa,p.1≠b):Inv X aa σ H' s':=by
 obtain⟨h',g',d',t',o'⟩:=s'
 have e:o'=s.os:=ho
 subst e
 exact I.call (g':=g') (t':=t') (d':=d') u hok hg hch
end
abbrev XK:=Value->Option Addr->Hp->Prop
abbrev St:=List (Option V)
abbrev VK:=V->Hp->Prop
abbrev TE:=St->Hp->VK->Prop
abbrev TT:=St->Hp->(Bool->Hp->Prop)->Prop
abbrev TA:=St->Hp->(List V->Hp->Prop)->Prop
structure FH where
 nx:St->Hp->Prop
 rt:VK
 bk:St->Hp->Prop:=λ_ _=>False
 ct:St->Hp->Prop:=λ_ _=>False
abbrev TS:=FH->St->Hp->Prop
def EP (X:Cx)(aa:List (Addr×Obj))(σ:St)(Q:VK)(u:Value)(s':Shared):Prop:=∃v H',Inv X aa σ H' s'/\RelV v u/\Q v H'
def TP (X:Cx)(aa:List (Addr×Obj))(σ:St)(Q:Bool->Hp->Prop)(b:Bool)(s':Shared):Prop:=∃H',Inv X aa σ H' s'/\Q b H'
def AP (X:Cx)(aa:List (Addr×Obj))(σ:St)(Q:List V->Hp->Prop)(us:List Value)(s':Shared):Prop:=∃vs H',Inv X aa σ H' s'/\Vals vs us/\Q vs H'
def SP (X:Cx)(aa:List (Addr×Obj))(D:FH)(f:Flow)(s':Shared):Prop:=
 match f with
 | .next=>∃σ' H',Inv X aa σ' H' s'/\D.nx σ' H'
 | .brk=>∃σ' H',Inv X aa σ' H' s'/\D.bk σ' H'
 | .cont=>∃σ' H',Inv X aa σ' H' s'/\D.ct σ' H'
 | .ret u=>∃v σ' H',Inv X aa σ' H' s'/\RelV v u/\D.rt v H'
def PE (X:Cx)(e:Expr)(t:TE):Prop:=
 ∀(aa:List (Addr×Obj)) (s:Shared) (σ:St) (H:Hp) (Q:VK),Inv X aa σ H s->t σ H Q->wpAny (model X.prog X.w) X.A (eval e X.env) (EP X aa σ Q) X.xe s
def PT (X:Cx)(e:Expr)(t:TT):Prop:=
 ∀(aa:List (Addr×Obj)) (s:Shared) (σ:St) (H:Hp) (Q:Bool->Hp->Prop),Inv X aa σ H s->t σ H Q->wpAny (model X.prog X.w) X.A (isTrue e X.env (eval e X.env)) (TP X aa σ Q) X.xe s
def PW (X:Cx)(e:Expr)(t:TT):Prop:=
 ∀(Du:Sem Value) (aa:List (Addr×Obj)) (s:Shared) (σ:St) (H:Hp) (Q:Bool->Hp->Prop),Inv X aa σ H s->t σ H Q->wpAny (model X.prog X.w) X.A (isTrue e X.env Du) (TP X aa σ Q) X.xe s
def PW.pt {t:TT}(h:PW X e t):PT X e t:=h _
def PA (X:Cx)(es:List Expr)(t:TA):Prop:=
 ∀(pos:Pos) (aa:List (Addr×Obj)) (s:Shared) (σ:St) (H:Hp) (Q:List V->Hp->Prop),Inv X aa σ H s->t σ H Q->wpAny (model X.prog X.w) X.A (spliced (backTo pos (starEach es X.env))) (AP X aa σ Q) X.xe s
def PS (X:Cx)(st:Stmt)(t:TS):Prop:=
 ∀(aa:List (Addr×Obj)) (s:Shared) (σ:St) (H:Hp) (D:FH),Inv X aa σ H s->t D σ H->wpAny (model X.prog X.w) X.A (exec st X.env) (SP X aa D) X.xe s
def PSs (X:Cx)(st:List Stmt)(t:TS):Prop:=
 ∀(aa:List (Addr×Obj)) (s:Shared) (σ:St) (H:Hp) (D:FH),Inv X aa σ H s->t D σ H->wpAny (model X.prog X.w) X.A (execs st X.env) (SP X aa D) X.xe s
def Aw {α:Type}{t:Sem α}{Q Q':α->Shared->Prop}{M:Model}{A:Around}{E:Value->Shared->Prop}{s:Shared}(h:wpAny M A t Q E s)(hQ:∀a s,Q a s->Q' a s):wpAny M A t Q' E s:=DB h hQ λ_ _ x=>x
section
variable {X:Cx}
inductive Iw (i:Nat)(σ:St)(H:Hp)(Q:VK):Prop
 | mk (v:_) (c0:σ[i]? = some (some v)) (c1:Q v H):Iw i σ H Q
def tC (v:V):TE:=λ_ H Q=>Q v H
def Ze (hN:X.N[i]? = some x)(hv:R4 X.env.scope x)(hd:(x == ("__debug__" : Str))=false:=by decide)(hcd:(x == ("__classdict__" : Str))=false:=by decide):PE X (.Name x pos) (Iw i):=by
 intro aa s σ H Q I h;obtain⟨v,e,h⟩:=h;obtain⟨m,hn,hl⟩:=I.loc;obtain⟨u,r,l⟩:=hl i x v hN e hv;have fin:EP X aa σ Q u s:=⟨v,H,I,r,h⟩;rcases l with⟨hk,hm⟩ | ⟨hk,c,hc,hcell⟩
 ·exact wpAny_Name (wpAny_loadName_local I.ok.kind hk hn hm fin) hd
 rcases hk with hk | hk
 ·exact wpAny_Name (wpAny_loadName_cell I.ok.kind hk hc hcell fin) hd
 exact wpAny_Name (wpAny_loadName_free I.ok.kind hk hc hcell fin hcd) hd
def Ah {i j pos}:PE X (.Constant (.int i) j pos) (tC (.int i)):=λ_ _ _ H _ I h=>wpAny_Constant_int ⟨.int i,H,I.tok _,⟨_,rfl⟩,h⟩
def Eh {b j pos}:PE X (.Constant (.bool b) j pos) (tC (.bl b)):=λ_ _ _ H _ I h=>Constant_bool ⟨.bl b,H,I,rfl,h⟩
def CG {j pos}:PE X (.Constant .none j pos) (tC .non):=λ_ _ _ H _ I h=>Constant_none ⟨.non,H,I,rfl,h⟩
def AE {x j pos}:PE X (.Constant (.str x) j pos) (tC (.str x)):=λ_ _ _ H _ I h=>Calls.Constant_str ⟨.str x,H,I.tok _,⟨_,rfl⟩,h⟩
def Gl (X:Cx)(x:Str):Prop:=X.env.kindOf x=some .globalImplicit
def QG (I:Inv X aa σ H s)(hg:Gl X x)(hm:X.mg x=some u)(h:Q u s)
  (hd:(x == ("__debug__" : Str))=false:=by decide):wpAny (model X.prog X.w) X.A (eval (.Name x pos) X.env) Q E s:=
 Calls.Name_function_global I.ok.kind hg (Calls.loadGlobal_global (by rw[I.ok.glob];exact I.mod.glob.keeps I.bk) hm h) hd
def HS {x:Str} (I:Inv X aa σ H s)(hg:Gl X x)(hm:X.mg x=none)(hv:bootBuiltins x=some u)(h:Q u s)
  (hn:x ≠ "__name__" := by decide)(hd:(x == ("__debug__" : Str))=false:=by decide):wpAny (model X.prog X.w) X.A (eval (.Name x pos) X.env) Q E s:=by
 obtain⟨mb,h1,h2⟩:=I.mod.blt
 exact Calls.Name_function_global I.ok.kind hg (Calls.loadGlobal_builtin (by rw[I.ok.glob];exact I.mod.glob.keeps I.bk) hm (by rw[I.ok.blt];exact h1.keeps I.bk) ((h2 x hn).trans hv) h) hd
def C0 (hg:Gl X x)(hm:X.mg x=some u)(r:RelV v u)(hd:(x == ("__debug__" : Str))=false:=by decide):PE X (.Name x pos) (tC v):=
 λ_ _ _ H _ I h=>QG I hg hm ⟨v,H,I,r,h⟩ hd
def KC {x:Str} (hg:Gl X x)(hm:X.mg x=none)(hv:bootBuiltins x=some u)(r:RelV v u)(hn:x ≠ "__name__" := by decide)(hd:(x == ("__debug__" : Str))=false:=by decide):PE X (.Name x pos) (tC v):=
 λ_ _ _ H _ I h=>HS I hg hm hv ⟨v,H,I,r,h⟩ hn hd
variable {a b:Expr}{ta tb:TE}{pos:Pos}
def PC (X:Cx)(op:CmpOp)(a b:Expr)(t:TE):Prop:=
 ∀(aa:List (Addr×Obj)) (s:Shared) (σ:St) (H:Hp) (Q:VK),Inv X aa σ H s->t σ H Q ->
  wpAny (model X.prog X.w) X.A (eval a X.env) (λv s₁=>wpAny (model X.prog X.w) X.A (eval b X.env) (λu s₂=>wpAny (model X.prog X.w) X.A (compareOp op v u) (EP X aa σ Q) X.xe s₂) X.xe s₁) X.xe s
inductive UI (Q:Bool->Hp->Prop)(x:V)(H1:Hp):Prop
 | mk (c:_) (c0:x=.bl c) (c1:Q c H1):UI Q x H1
def tB (t:TE):TT:=λσ H Q=>t σ H λx H1=>UI Q x H1
def Zk {t:TE}(h:PC X op a b t)(h1:behindInMarks op b=false:=by first | exact nobehind _ (by decide) (by decide) | rfl):PE X (.Compare a [op] [b] pos) t:=λaa s σ H Q I hw=>wpAny_Compare1 (h aa s σ H Q I hw) h1
def FM {t:TE}(h:PC X op a b t)(h1:behindInMarks op b=false:=by first | exact nobehind _ (by decide) (by decide) | rfl):PT X (.Compare a [op] [b] pos) (tB t):=by intro aa s σ H Q I hw;refine wpAny_isTrue_Compare1 (Aw (h aa s σ H _ I hw) λv s1 h1=>Aw h1 λu s2 h2=>Aw h2 λc s3 hp0=>?_) h1;obtain⟨x,H1,I1,r1,q1⟩:=hp0;obtain⟨d,rfl,q⟩:=q1;cases r1;exact F6 ⟨H1,I1,q⟩
def Cs {t:TE}(h:PE X e t)(he:∀Du,isTrue e X.env Du=(do let v <- Du;standAt e.pos;holding [v] (truthy v)):=by intro _;rfl):PT X e (tB t):=by intro aa s σ H Q I hw;refine isTrue_plain (Aw (h aa s σ H _ I hw) λv s1 hp0=>?_) (he _);obtain⟨x,H1,I1,r1,q1⟩:=hp0;obtain⟨d,rfl,q⟩:=q1;cases r1;exact F6 ⟨H1,I1,q⟩
variable {tA tB':TT}{rest:List Expr}
def Xe (t u:TT):TT:=λσ H Q=>t σ H λc H1=>if c=true then u σ H1 Q else Q false H1
def WL (t u:TT):TT:=λσ H Q=>t σ H λc H1=>if c=true then Q true H1 else u σ H1 Q
def WN (t:TT):TT:=λσ H Q=>t σ H λc H1=>Q (!c) H1
def Ef (ha:PT X a tA):PW X (.BoolOp .And [a] pos) tA:=by
 intro wh aa s σ H Q I h;refine isTrue_and (Aw (ha aa s σ H Q I h) λc s1 e=>?_);cases c with
 | true=>exact isTrue_and_nil e
 | false=>exact e
def DU (ha:PT X a tA):PW X (.BoolOp .Or [a] pos) tA:=by
 intro wh aa s σ H Q I h;refine isTrue_or (Aw (ha aa s σ H Q I h) λc s1 e=>?_);cases c with
 | false=>exact isTrue_or_nil e
 | true=>exact e
def Cg (ha:PT X a tA)(hb:PW X (.BoolOp .And (b::rest) pos) tB'):PW X (.BoolOp .And (a::b::rest) pos) (Xe tA tB'):=by
 intro wh aa s σ H Q I h;refine isTrue_and (Aw (ha aa s σ H _ I h) λc s1 hp0=>?_);obtain⟨H1,I1,q1⟩:=hp0;cases c with
 | true=>exact hb wh aa s1 σ H1 Q I1 q1
 | false=>exact⟨H1,I1,q1⟩
def CD (ha:PT X a tA)(hb:PW X (.BoolOp .Or (b::rest) pos) tB'):PW X (.BoolOp .Or (a::b::rest) pos) (WL tA tB'):=by
 intro wh aa s σ H Q I h;refine isTrue_or (Aw (ha aa s σ H _ I h) λc s1 hp0=>?_);obtain⟨H1,I1,q1⟩:=hp0;cases c with
 | true=>exact⟨H1,I1,q1⟩
 | false=>exact hb wh aa s1 σ H1 Q I1 q1
def CY (ha:PT X a tA):PT X (.UnaryOp .Not a pos) (WN tA):=by intro aa s σ H Q I h;exact isTrue_not (ha aa s σ H (λc H1=>Q (!c) H1) I h)
def Xd (ta tb:TE):TE:=λσ H Q=>ta σ H λx H1=>∃c,x=.bl c/\if c=true then tb σ H1 Q else Q (.bl false) H1
def WM (ta:TE):TE:=λσ H Q=>ta σ H λx H1=>∃c,x=.bl c/\Q (.bl (!c)) H1
def IP {op}{t:TE}(h:PE X a t):PE X (.BoolOp op [a] pos) t:=λaa s σ H Q I hw=>BoolOp_one (h aa s σ H Q I hw)
def IQ (ha:PE X a ta)(hb:PE X (.BoolOp .And (b::rest) pos) tb):PE X (.BoolOp .And (a::b::rest) pos) (Xd ta tb):=by
 intro aa s σ H Q I h;refine BoolOp_and (Aw (ha aa s σ H _ I h) λv s1 hp0=>?_);obtain⟨x,H1,I1,r1,q1⟩:=hp0;obtain⟨c,rfl,q1⟩:=q1;cases r1;refine F6 ?_;cases c with
 | true=>exact hb aa s1 σ H1 Q I1 q1
 | false=>exact⟨.bl false,H1,I1,rfl,q1⟩
def TR (ha:PE X a ta):PE X (.UnaryOp .Not a pos) (WM ta):=by intro aa s σ H Q I h;refine UnaryOp_ (Aw (ha aa s σ H _ I h) λv s1 hp0=>?_);obtain⟨x,H1,I1,r1,q1⟩:=hp0;obtain⟨c,rfl,q1⟩:=q1;cases r1;exact not_of (F6 ⟨.bl (!c),H1,I1,rfl,q1⟩)
def WZ (t:TT)(ta tb:TE):TE:=λσ H Q=>t σ H λc H1=>if c=true then ta σ H1 Q else tb σ H1 Q
def Qq (hc:PT X c tA)(ha:PE X a ta)(hb:PE X b tb):PE X (.IfExp c a b pos) (WZ tA ta tb):=by
 intro aa s σ H Q I h;refine wpAny_IfExp (Aw (hc aa s σ H _ I h) λd s1 hp0=>?_);obtain⟨H1,I1,q1⟩:=hp0;cases d with
 | true=>exact ha aa s1 σ H1 Q I1 q1
 | false=>exact hb aa s1 σ H1 Q I1 q1
end
def SqL (K:W.Frag)(H:Hp)(a:Addr)(xs:List V):Prop:=
 Rd H a (.lst xs) \/
  ∃(o:Obj) (its:Array Value) (n:Nat),K.lookup a=some o/\o.cls=.type "list" /\ o.dict=none/\o.data=.seq its n/\its.size<=sizeLine/\Vals xs its.toList
def SqT (K:W.Frag)(H:Hp)(a:Addr)(xs:List V):Prop:=
 Rd H a (.tup xs) \/
  ∃(o:Obj) (its:Array Value) (n:Nat),K.lookup a=some o/\o.cls=.type "tuple" /\ o.data=.seq its n/\its.size<=sizeLine/\Vals xs its.toList
def Dz:Value->Option V
 | .none=>some .non
 | .bool b=>some (.bl b)
 | .int i _=>some (.int i)
 | .str x _=>some (.str x)
 | .bytes b _=>some (.byt b)
 | .float b _=>some (.flt b)
 | .ref a=>some (.ref a)
 | .type n=>some (.ty n)
 | _=>none
def RelV.abs (r:RelV x u):Dz u=some x:=by
 cases x with
 | non=>cases r;rfl
 | bl _=>cases r;rfl
 | int _=>obtain⟨t,rfl⟩:=r;rfl
 | str _=>obtain⟨t,rfl⟩:=r;rfl
 | byt _=>obtain⟨t,rfl⟩:=r;rfl
 | flt _=>obtain⟨t,rfl⟩:=r;rfl
 | ref _=>cases r;rfl
 | ty _=>cases r;rfl
def RelV.inj (r:RelV x u)(q:RelV y u):x=y:=Bs (r.abs.symm.trans q.abs)
theorem Vals.inj:∀{xs ys:List V}{us:List Value},Vals xs us->Vals ys us->xs=ys
 | _,_,_,.nil,.nil=>rfl
 | _,_,_,.cons r t,.cons r' t'=>by rw[r.inj r',Vals.inj t t']
section
variable {X:Cx}{aa:List (Addr×Obj)}{σ:St}{H:Hp}{s:Shared}{a:Addr}{xs ys:List V}
def SqL.of {K:W.Frag}(h:H a=some (.lst xs)):SqL K H a xs:=.inl (.inl h)
def SqT.of {K:W.Frag}(h:H a=some (.tup xs)):SqT K H a xs:=.inl (.inl h)
def Inv.list (I:Inv X aa σ H s)(h:SqL X.K H a xs):∃its:List Value,Vals xs its/\PlainL s.heap a its.toArray/\xs.length<=sizeLine:=by
 rcases h with h | ⟨o,its,n,hk,hc,hd,hs,hz,r⟩
 ·obtain⟨z,its,n,r,e⟩:=h.ok I.hok;exact⟨its,r,⟨_,n,e,rfl,rfl,rfl⟩,z⟩
 refine⟨its.toList,r,⟨o,n,I.kIn a o hk,hc,hd,by simpa using hs⟩,?_⟩;have e:=r.length;simp only[DY]at e;lia
def Inv.tuple (I:Inv X aa σ H s)(h:SqT X.K H a xs):∃its:List Value,Vals xs its/\IsTup s.heap a its.toArray/\xs.length<=sizeLine:=by
 rcases h with h | ⟨o,its,n,hk,hc,hs,hz,r⟩
 ·obtain⟨z,its,r,p⟩:=h.ok I.hok;exact⟨its,r,p,z⟩
 refine⟨its.toList,r,⟨o,I.kIn a o hk,hc,n,by simpa using hs⟩,?_⟩;have e:=r.length;simp only[DY]at e;lia
def Inv.list_inj (I:Inv X aa σ H s)(h:SqL X.K H a xs)(h':SqL X.K H a ys):xs=ys:=by
 obtain⟨its,r,⟨o,n,e,_,_,d⟩,_⟩:=I.list h;obtain⟨its',r',⟨o',n',e',_,_,d'⟩,_⟩:=I.list h';rw[e]at e';cases e';rw[d]at d';injection d' with d1 _;have:its=its':=by simpa using BJ Array.toList d1
 subst this;exact r.inj r'
def Inv.tuple_inj (I:Inv X aa σ H s)(h:SqT X.K H a xs)(h':SqT X.K H a ys):xs=ys:=by
 obtain⟨its,r,⟨o,e,_,n,d⟩,_⟩:=I.tuple h;obtain⟨its',r',⟨o',e',_,n',d'⟩,_⟩:=I.tuple h';rw[e]at e';cases e';rw[d]at d';injection d' with d1 _;have:its=its':=by simpa using BJ Array.toList d1
 subst this;exact r.inj r'
end
abbrev Cx.wish (X:Cx)(E:Value->Shared->Prop):Cx:={ X with xe:=E }
abbrev Cx.nox (X:Cx):Cx:=X.wish λ_ _=>False
def Cx.Ok.wish {X:Cx}(ok:X.Ok)(E:Value->Shared->Prop):(X.wish E).Ok:=
 ⟨ok.mod,ok.kind,ok.glob,ok.blt,ok.above,ok.inj,ok.has,ok.cab,ok.hd,ok.frames,ok.stk,ok.exf,ok.bs,ok.bsz,ok.noex,ok.exfs,ok.funs,ok.frf⟩
def Cx.Ok.unwish {X:Cx}{E:Value->Shared->Prop}(ok:(X.wish E).Ok):X.Ok:=
 ⟨ok.mod,ok.kind,ok.glob,ok.blt,ok.above,ok.inj,ok.has,ok.cab,ok.hd,ok.frames,ok.stk,ok.exf,ok.bs,ok.bsz,ok.noex,ok.exfs,ok.funs,ok.frf⟩
section
variable {X:Cx}{aa:List (Addr×Obj)}{σ:St}{H:Hp}{s:Shared}{E:Value->Shared->Prop}
def Inv.wish (I:Inv X aa σ H s)(E:Value->Shared->Prop):Inv (X.wish E) aa σ H s:=⟨I.ok.wish E,I.os,I.bare,I.base,I.loc,I.cell,I.free,I.freeC,I.pin,I.hok,I.len⟩
def Inv.unwish (I:Inv (X.wish E) aa σ H s):Inv X aa σ H s:=⟨I.ok.unwish,I.os,I.bare,I.base,I.loc,I.cell,I.free,I.freeC,I.pin,I.hok,I.len⟩
def SP.unwish (h:SP (X.wish E) aa D f s'):SP X aa D f s':=by
 cases f with
 | next=>obtain⟨σ',H',I,q⟩:=h;exact⟨σ',H',I.unwish,q⟩
 | brk=>obtain⟨σ',H',I,q⟩:=h;exact⟨σ',H',I.unwish,q⟩
 | cont=>obtain⟨σ',H',I,q⟩:=h;exact⟨σ',H',I.unwish,q⟩
 | ret u=>obtain⟨v,σ',H',I,r,q⟩:=h;exact⟨v,σ',H',I.unwish,r,q⟩
def PSs.nox {st:List Stmt}{t:TS}(h:PSs X.nox st t):PSs X st t:=λaa s σ H D I hw=>DB (h aa s σ H D (I.wish _) hw) (λ_ _ q=>q.unwish) λ_ _ z=>False.elim z
end
section
variable {X:Cx}{st:Stmt}{rest:List Stmt}{t u:TS}{e:Expr}{te:TE}{pos:Pos}
def OR:TS:=λD σ H=>D.nx σ H
def OP (t u:TS):TS:=λD σ H=>t { D with nx:=u D } σ H
def AS:PSs X [] OR:=λ_ _ σ H _ I h=>Oi ⟨σ,H,I,h⟩
def Aj (h1:PS X st t)(h2:PSs X rest u):PSs X (st::rest) (OP t u):=by
 intro aa s σ H D I h;refine wpAny_execs_cons (Aw (h1 aa s σ H { D with nx:=u D } I h) λf s1 q=>?_);cases f with
 | next=>obtain⟨σ',H',I',q⟩:=q;exact h2 aa s1 σ' H' D I' q
 | ret v=>exact q
 | brk=>exact q
 | cont=>exact q
def Ao (h1:PS X st t):PSs X [st] t:=by
 intro aa s σ H D I h;refine wpAny_execs_cons (Aw (h1 aa s σ H D I h) λf s1 q=>?_);cases f with
 | next=>exact Oi q
 | ret v=>exact q
 | brk=>exact q
 | cont=>exact q
def Inv.quiet (I:Inv X aa σ H s):interactive X.env=false:=by simp[interactive,I.ok.kind]
def W2 (te:TE):TS:=λD σ H=>te σ H λ_ H1=>D.nx σ H1
def B1 (he:PE X e te)(hs:swapsWith e none pos.line X.env=pure false:=by rfl):PS X (.Expr e pos) (W2 te):=by intro aa s σ H D I h;exact wpAny_Expr_any (Aw (he aa s σ H _ I h) λv s1 hp0=>by obtain⟨x,H1,I1,r1,q1⟩:=hp0;exact⟨σ,H1,I1,q1⟩) I.quiet hs
def SH (te:TE):TS:=λD σ H=>te σ H D.rt
def AA (he:PE X e te):PS X (.Return (some e) pos) (SH te):=by intro aa s σ H D I h;exact wpAny_Return_some (Aw (he aa s σ H _ I h) λv s1 hp0=>by obtain⟨x,H1,I1,r1,q1⟩:=hp0;exact⟨x,σ,H1,I1,r1,q1⟩)
def WY (c:TT)(t u:TS):TS:=λD σ H=>c σ H λb H1=>if b=true then t D σ H1 else u D σ H1
def AQ (hc:PT X c tc)(ha:PSs X a t)(hb:PSs X b u):PS X (.If c a b pos) (WY tc t u):=by
 intro aa s σ H D I h;refine wpAny_If (Aw (hc aa s σ H _ I h) λd s1 hp0=>?_);obtain⟨H1,I1,q1⟩:=hp0;cases d with
 | true=>exact ha aa s1 σ H1 D I1 q1
 | false=>exact hb aa s1 σ H1 D I1 q1
def WQ:TS:=λ_ _ _=>False
def Ci :PSs X sts WQ:=λ_ _ _ _ _ _ h=>h.elim
end
abbrev TG:=V->St->Hp->(St->Hp->Prop)->Prop
abbrev JY:=List V->St->Hp->(St->Hp->Prop)->Prop
def PG (X:Cx)(target:Expr)(t:TG):Prop:=
 ∀(aa:List (Addr×Obj)) (s:Shared) (σ:St) (H:Hp) (v:V) (u:Value) (Q:St->Hp->Prop),Inv X aa σ H s->RelV v u->t v σ H Q ->
  wpAny (model X.prog X.w) X.A (assign target X.env u) (λ_ s'=>∃σ' H',Inv X aa σ' H' s'/\Q σ' H') X.xe s
def OJ (X:Cx)(ts:List Expr)(t:JY):Prop:=
 ∀(aa:List (Addr×Obj)) (s:Shared) (σ:St) (H:Hp) (vs:List V) (us:List Value) (Q:St->Hp->Prop),Inv X aa σ H s->Vals vs us->t vs σ H Q ->
  wpAny (model X.prog X.w) X.A (assignInOrder ((assignEach ts X.env).map (·.2)) us) (λ_ s'=>∃σ' H',Inv X aa σ' H' s'/\Q σ' H') X.xe s
section
variable {X:Cx}{pos:Pos}
def E4 (i:Nat):TG:=λv σ H Q=>Q (σ.set i (some v)) H
def Zd (hN:X.N.Nodup)(hi:X.N[i]? = some x)(hx:J1 X.env.scope x)(hf:X.fn x=true\/X.env.scope.names.lookup x=some .local:=by first | exact .inl rfl | exact .inr rfl | assumption):PG X (.Name x pos) (E4 i):=by intro aa s σ H v u Q I r h;exact wpAny_assign_Name (SV I hN hi hx r (λs' I'=>⟨_,H,I',h⟩) hf)
def QQ:JY:=λvs σ H Q=>vs=[]/\Q σ H
inductive JA (t:TG)(u:JY)(vs:List V)(σ:St)(H:Hp)(Q:St->Hp->Prop):Prop
 | mk (v:_) (r:_) (c0:vs=v::r) (c1:t v σ H λσ' H'=>u r σ' H' Q):JA t u vs σ H Q
def Gu:OJ X [] QQ:=by intro aa s σ H vs us Q I r h;obtain⟨e,h⟩:=h;subst e;cases r;exact assignInOrder_nil ⟨σ,H,I,h⟩
def Dj {t:TG} (h1:PG X e t)(h2:OJ X es u)
  (hs:(assignEach (e::es) X.env).map (·.2)=assign e X.env::(assignEach es X.env).map (·.2):=by rfl):OJ X (e::es) (JA t u):=by
 intro aa s σ H vs us Q I r h
 obtain⟨v,vr,e1,h⟩:=h
 subst e1
 cases r with
 | cons r rr=>rw[hs];refine assignInOrder_cons (Aw (h1 aa s σ H _ _ _ I r h) λ_ s1 hp0=>?_);obtain⟨σ1,H1,I1,q1⟩:=hp0;exact h2 aa s1 σ1 H1 _ _ Q I1 rr q1
inductive Jz (K:W.Frag)(n:Nat)(t:JY)(v:V)(σ:St)(H:Hp)(Q:St->Hp->Prop):Prop
 | mk (a:_) (xs:_) (c0:v=.ref a) (c1:SqT K H a xs) (c2:xs.length=n) (c3:t xs σ H Q):Jz K n t v σ H Q
def Gv {k:Nat}{t:JY} (hc:X.calm=true)(h:OJ X es t)
  (hn:(assignEach es X.env).length=n:=by rfl)(hst:(assignEach es X.env).findIdx? (·.1)=none:=by rfl):PG X (.Tuple es k pos) (Jz X.K n t):=by
 intro aa s σ H v u Q I r hw
 obtain⟨a,xs,e1,hq,hl,hw⟩:=hw
 subst e1
 cases r
 obtain⟨its,rv,ht,hz⟩:=I.tuple hq
 refine assign_Tuple_tuple (I.ok.hd hc) ht (by simp[hn,<- hl,rv.length]) hst λh' hx=>?_
 have I1:Inv X aa σ H { s with heap:=h' }:=I.kept (t':=s.toks) λb o e=>hx b o (Be (A1 e)) e
 exact h aa _ σ H xs _ Q I1 (by simpa using rv) hw
def OT (te:TE)(g:TG):TS:=λD σ H=>te σ H λx H1=>g x σ H1 D.nx
def Y1 (he:PE X e te)(hg:PG X tg g)(hs:swapsWithSole [tg] e pos.line X.env=pure false:=by rfl)(hw:swappedStores [tg] e X.env=pure none:=by rfl)
  (h1:(assignEach [tg] X.env).map (·.2)=[assign tg X.env]:=by rfl):PS X (.Assign [tg] e pos) (OT te g):=by
 intro aa s σ H D I h
 refine wpAny_Assign_stores (Aw (he aa s σ H _ I h) λv s1 hp0=>?_) hs hw
 obtain⟨x,H1,I1,r1,q1⟩:=hp0
 rw[h1]
 exact Aw (hg aa s1 σ H1 x v _ I1 r1 q1) λ_ s2 q=>q
def FO (hN:X.N.Nodup)(hi:X.N[i]? = some x)(hx:J1 X.env.scope x)(he:PE X e te)(hs:swapsWith e (some (.Name x pos')) pos.line X.env=pure false:=by rfl)(hf:X.fn x=true\/X.env.scope.names.lookup x=some .local:=by first | exact .inl rfl | exact .inr rfl | assumption) :
  PS X (.Assign [.Name x pos'] e pos) (OT te (E4 i)):=by
 intro aa s σ H D I h
 refine wpAny_Assign_Name (Aw (he aa s σ H _ I h) λv s1 hp0=>?_) hs
 obtain⟨y,H1,I1,r1,q1⟩:=hp0
 exact SV I1 hN hi hx r1 (λs2 I2=>⟨_,H1,I2,q1⟩) hf
end
section
variable {X:Cx}{pos:Pos}
def WD (c:TT)(tb:TS):TS:=λD σ H=>∃W:Nat->St->Hp->Prop,(∃m,W m σ H)/\∀m σ H,W m σ H ->
 c σ H λb H1=>if b=true then ∃N:St->Hp->Prop,(∀σ' H',N σ' H'->∃m',m'<m/\W m' σ' H')/\tb { D with nx:=N,ct:=N,bk:=D.nx } σ H1 else D.nx σ H1
def Y0 (hp:PassesOwn (model X.prog X.w) X.A X.env X.xe)(hc:PT X c tc)(hb:PSs X body tb):PS X (.While c body [] pos) (WD tc tb):=by
 intro aa s σ H D I h;obtain⟨W,⟨m0,w0⟩,turn⟩:=h;refine wpAny_While (codeAny_whileLoop (λn s'=>∃σ' H',Inv X aa σ' H' s'/\W n σ' H') ?_ m0 ⟨σ,H,I,w0⟩);rintro n s1 ⟨σ1,H1,I1,w1⟩;refine Ii hp (Aw (hc aa s1 σ1 H1 _ I1 (turn n σ1 H1 w1)) λb s2 hp0=>?_);obtain⟨H2,I2,q2⟩:=hp0;cases b with
 | true=>
  obtain⟨N,hN,q2⟩:=q2;rw[As rfl];refine Ii hp (Aw (hb aa s2 σ1 H2 _ I2 q2) λf s3 q3=>?_);cases f with
  | next=>obtain⟨σ3,H3,I3,n3⟩:=q3;obtain⟨m',hm,w3⟩:=hN σ3 H3 n3;exact⟨m',hm,σ3,H3,I3,w3⟩
  | cont=>obtain⟨σ3,H3,I3,n3⟩:=q3;obtain⟨m',hm,w3⟩:=hN σ3 H3 n3;exact⟨m',hm,σ3,H3,I3,w3⟩
  | brk=>exact q3
  | ret v=>exact q3
 | false=>rw[Am BE];exact Oi ⟨σ1,H2,I2,q2⟩
end
structure It where
 go:Nat->Hp->Prop
 yld:Nat->Hp->V->Hp->Prop
 stop:Nat->Hp->Prop
def FpOk (X:Cx)(aa:List (Addr×Obj))(H:Hp)(b:Addr):Prop:=
 H b=none/\b≠X.env.locals/\b∉X.fs/\(b∈X.ex\/X.s₀.heap.objs.size<=b)/\(∀x c,X.env.cells.lookup x=some c->c≠b)/\∀p∈X.pn++aa,p.1≠b
def Inv.fpOk (I:Inv X aa σ H s)(hb:s.heap.objs.size<=b)(hn:H' b=none):FpOk X aa H' b:=by
 refine⟨hn,Er (CU I.lt hb),I.nofs hb,.inr (Eb I.sz hb),λx c e z=>?_,λp hp z=>?_⟩
 ·obtain⟨v,q⟩:=I.cell x c e;exact absurd (CU q.lt (by rw[z];exact hb)) (Es _)
 exact absurd (CU (A1 (I.pin p hp).1) (by rw[z];exact hb)) (Es _)
structure FG (P:Program)(w:World)(K:W.Frag)(tg:Expr)(J:It)(fp:List Addr)(it:Addr)(tn:Nat->Heap->Prop):Prop where
 mem:it∈fp
 obj:∀i h,tn i h->∀b∈fp,∃o,h.get? b=some o/\∀v,o.data≠.cell v
 keep:∀i h h',tn i h->(∀b∈fp,∀o,h.get? b=some o->h'.get? b=some o)->tn i h'
 item:∀(X:Cx),X.prog=P->X.w=w->X.K=K->X.calm=true->∀(i:Nat) (aa:List (Addr×Obj)) (s:Shared) (σ:St) (H:Hp) (E:Value->Shared->Prop),Inv X aa σ H s->(∀b∈fp,FpOk X aa H b)->tn i s.heap->J.go i H ->
  wpAny (model P w) X.A (pyNext (.ref it)) (λr s1=>∃u,r=some u /\
   wpAny (model P w) X.A (letOwnedTupleGo tg (.ref it) u) (λ_ s2=>∃x H',Inv X aa σ H' s2/\RelV x u/\J.yld i H x H'/\tn (i+1) s2.heap/\∀b∈fp,H' b=none) E s1) E s
 done:∀(X:Cx),X.prog=P->X.w=w->X.K=K->X.calm=true->∀(i:Nat) (aa:List (Addr×Obj)) (s:Shared) (σ:St) (H:Hp) (E:Value->Shared->Prop),Inv X aa σ H s->(∀b∈fp,FpOk X aa H b)->tn i s.heap->J.stop i H ->
  wpAny (model P w) X.A (pyNext (.ref it)) (λr s1=>r=none/\Inv X aa σ H s1) E s
 self:∀(A:Around) (i:Nat) (s:Shared) (Q:Value->Shared->Prop) (E:Value->Shared->Prop),tn i s.heap->Q (.ref it) s->wpAny (model P w) A (pyIter (.ref it)) Q E s
abbrev TI:=St->Hp->(It->Hp->Prop)->Prop
def V8 (X:Cx)(aa:List (Addr×Obj))(σ:St)(tg:Expr)(R:It->Hp->Prop)(itv:Value)(s2:Shared):Prop:=
 ∃(it:Addr) (fp:List Addr) (tn:Nat->Heap->Prop) (J:It) (H':Hp),itv=.ref it/\Inv X aa σ H' s2/\FG X.prog X.w X.K tg J fp it tn/\tn 0 s2.heap/\(∀b∈fp,FpOk X aa H' b)/\R J H'
def PI (X:Cx)(tg iter:Expr)(wi:TI):Prop:=
 ∀(aa:List (Addr×Obj)) (s:Shared) (σ:St) (H:Hp) (R:It->Hp->Prop),Inv X aa σ H s->wi σ H R ->
  wpAny (model X.prog X.w) X.A (eval iter X.env) (λv s1=>wpAny (model X.prog X.w) X.A (pyIter v) (V8 X aa σ tg R) X.xe s1) X.xe s
def Jy (ho:s.heap.get? it=some o)(hc:o.cls=.type n)(hd:o.data=.fields vs)
  (hn:["enumerate", "zip", "dict_itemiterator", "dict_reverseitemiterator", "odict_iterator", "itertools.zip_longest", "itertools.pairwise"].contains n=false)(hQ:Q () s):wpAny M A (letOwnedTupleGo tg (.ref it) u) Q E s:=by
 unfold letOwnedTupleGo
 cases tg <;> first
  | exact An hQ
  | (cases u <;> first
    | exact An hQ
    | (refine Ae (wpAny_load ho ?_)
       rw[hc,hd]
       show wpAny M A (if (["enumerate", "zip", "dict_itemiterator", "dict_reverseitemiterator", "odict_iterator", "itertools.zip_longest", "itertools.pairwise"].contains n && vs[0]? == some (rawInt _))=true then _ else _) Q E s
       rw[Am (by intro h;rw[hn,Bool.false_and]at h;cases h)]
       exact An hQ))
def L6 (K:W.Frag)(a:Addr):It:=
 ⟨λi H=>∃xs x,SqL K H a xs/\xs[i]? = some x,λi H x H'=>H'=H/\∀xs,SqL K H a xs->xs[i]? = some x,λi H=>∃xs,SqL K H a xs/\xs.length<=i⟩
def L5 (K:W.Frag)(a:Addr):It:=
 ⟨λi H=>∃xs x,SqT K H a xs/\xs[i]? = some x,λi H x H'=>H'=H/\∀xs,SqT K H a xs->xs[i]? = some x,λi H=>∃xs,SqT K H a xs/\xs.length<=i⟩
def J3 (lo:Int)(n:Nat):It:=⟨λi _=>i<n,λi H x H'=>H'=H/\x=.int (lo+i),λi _=>n<=i⟩
theorem Wv {P:Program}{w:World}{K:W.Frag}{tg:Expr}(a it:Addr):FG P w K tg (L6 K a) [it] it (λi h=>h.IsListIter it a i) where
 mem:=by simp
 obj:=λi h st b hb=>by
  have e:b=it:=by simpa using hb
  subst e;obtain⟨o,e,c,d⟩:=st;exact⟨o,e,λv z=>by rw[d]at z;cases z⟩
 keep:=λi h h' st k=>st.at λo e=>k it (by simp) o e
 item:=by intro X hP hw hK hc i aa s σ H E I hf st hg;subst hP hw hK;obtain⟨xs,x,hq,hx⟩:=hg;obtain⟨its,rv,p,hz⟩:=I.list hq;obtain⟨u,hu,ru⟩:=rv.get hx;obtain⟨f0,f1,f2,f3,f4,f5⟩:=hf it (by simp);refine wpAny_pyNext_list_item st p.isList (x:=u) (by simpa using hu) λh' st' sb=>?_;have I1:Inv X aa σ H { s with heap:=h' }:=I.turned (t':=s.toks) (λb o hb e=>(sb.2 b hb).trans e) f0 f1 f3 f4 f5;obtain⟨o,e,c,d⟩:=id st';exact⟨u,rfl,Jy (s:={ s with heap:=h' }) e c d (by decide) ⟨x,H,I1,ru,⟨rfl,λys hy=>by rw[I.list_inj hy hq];exact hx⟩,st',λb hb=>(hf b hb).1⟩⟩
 done:=by intro X hP hw hK hc i aa s σ H E I hf st hg;subst hP hw hK;obtain⟨xs,hq,hx⟩:=hg;obtain⟨its,rv,p,hz⟩:=I.list hq;obtain⟨f0,f1,f2,f3,f4,f5⟩:=hf it (by simp);have hl:=rv.length;exact wpAny_pyNext_list_end (I.ok.hd hc) st p.isList (by simp;lia) λh' eb=>⟨rfl,I.turned (t':=s.toks) (λb o hb e=>eb b o hb e) f0 f1 f3 f4 f5⟩
 self:=λ_ _ _ _ _ st h=>wpAny_pyIter_listiter st h
theorem Wr {P:Program}{w:World}{K:W.Frag}{tg:Expr}(a it:Addr):FG P w K tg (L5 K a) [it] it (λi h=>h.IsTupleIter it a i) where
 mem:=by simp
 obj:=λi h st b hb=>by
  have e:b=it:=by simpa using hb
  subst e;obtain⟨o,e,c,d⟩:=st;exact⟨o,e,λv z=>by rw[d]at z;cases z⟩
 keep:=λi h h' st k=>st.at λo e=>k it (by simp) o e
 item:=by intro X hP hw hK hc i aa s σ H E I hf st hg;subst hP hw hK;obtain⟨xs,x,hq,hx⟩:=hg;obtain⟨its,rv,p,hz⟩:=I.tuple hq;obtain⟨u,hu,ru⟩:=rv.get hx;obtain⟨f0,f1,f2,f3,f4,f5⟩:=hf it (by simp);refine wpAny_pyNext_tuple_item st (show s.heap.IsTuple a its.toArray from p) (x:=u) (by simpa using hu) λh' st' sb=>?_;have I1:Inv X aa σ H { s with heap:=h' }:=I.turned (t':=s.toks) (λb o hb e=>(sb.2 b hb).trans e) f0 f1 f3 f4 f5;obtain⟨o,e,c,d⟩:=id st';exact⟨u,rfl,Jy (s:={ s with heap:=h' }) e c d (by decide) ⟨x,H,I1,ru,⟨rfl,λys hy=>by rw[I.tuple_inj hy hq];exact hx⟩,st',λb hb=>(hf b hb).1⟩⟩
 done:=by intro X hP hw hK hc i aa s σ H E I hf st hg;subst hP hw hK;obtain⟨xs,hq,hx⟩:=hg;obtain⟨its,rv,p,hz⟩:=I.tuple hq;obtain⟨f0,f1,f2,f3,f4,f5⟩:=hf it (by simp);have hl:=rv.length;exact wpAny_pyNext_tuple_end (I.ok.hd hc) st (show s.heap.IsTuple a its.toArray from p) (by simp;lia) λh' eb=>⟨rfl,I.turned (t':=s.toks) (λb o hb e=>eb b o hb e) f0 f1 f3 f4 f5⟩
 self:=λ_ _ _ _ _ st h=>wpAny_pyIter_tupleiter st h
theorem Wu {P:Program}{w:World}{K:W.Frag}{tg:Expr}(it:Addr)(lo:Int)(n:Nat):FG P w K tg (J3 lo n) [it] it (λi h=>IsRangeIter h it (lo+(i:Nat)*1) ((n:Int)-(i:Nat)) 1) where
 mem:=by simp
 obj:=λi h st b hb=>by
  have e:b=it:=by simpa using hb
  subst e;exact⟨_,st,λv z=>by have z':Data.fields _=Data.cell v:=z;cases z'⟩
 keep:=λi h h' st k=>k it (by simp) _ st
 item:=by intro X hP hw hK hc i aa s σ H E I hf st hg;subst hP hw hK;obtain⟨f0,f1,f2,f3,f4,f5⟩:=hf it (by simp);have W:=Walks.range (prog:=X.prog) (w:=X.w) (I.ok.hd hc) it lo 1 n;refine W.item i s _ _ hg st λv h' tk hv st' kk=>?_;obtain⟨t,rfl⟩:=hv;have I1:Inv X aa σ H { s with heap:=h',toks:=tk }:=I.turned (λb o hb e=>kk b o (by simpa using hb) e) f0 f1 f3 f4 f5;refine⟨_,rfl,Jy (s:={ s with heap:=h',toks:=tk }) (n := "range_iterator") st' rfl rfl (by decide) ⟨.int (lo+i),H,I1,⟨t,?_⟩,⟨rfl,rfl⟩,st',λb hb=>(hf b hb).1⟩⟩;rw[Int.mul_one]
 done:=by intro X hP hw hK hc i aa s σ H E I hf st hg;subst hP hw hK;obtain⟨f0,f1,f2,f3,f4,f5⟩:=hf it (by simp);exact wpAny_pyNext_range_end (I.ok.hd hc) st (by have:n<=i:=hg;lia) λh' eb=>⟨rfl,I.turned (t':=s.toks) (λb o hb e=>eb b o hb e) f0 f1 f3 f4 f5⟩
 self:=λ_ _ _ _ _ st h=>wpAny_pyIter_rangeiter st h
section
variable {X:Cx}{tg:Expr}
def jR (K:W.Frag)(tl:TE):TI:=λσ H R=>tl σ H λx H1=>∃a,x=.ref a/\(∃xs,SqL K H1 a xs)/\R (L6 K a) H1
def jO (K:W.Frag)(tl:TE):TI:=λσ H R=>tl σ H λx H1=>∃a,x=.ref a/\(∃xs,SqT K H1 a xs)/\R (L5 K a) H1
def BM (hl:PE X l tl):PI X tg l (jR X.K tl):=by
 intro aa s σ H R I h;refine Aw (hl aa s σ H _ I h) λv s1 hp0=>?_;obtain⟨x,H1,I1,r1,q1⟩:=hp0;obtain⟨a,e,⟨xs,hq⟩,q⟩:=q1;subst e;cases r1;obtain⟨its,rv,p,hz⟩:=I1.list hq;refine LK p.isList ?_;refine⟨s1.heap.objs.size,[s1.heap.objs.size],_,_,H1,rfl,I1.kept (t':=s1.toks) λb o e=>AU _ e,Wv a _,⟨_,Bg _ rfl,rfl,rfl⟩,λb hb=>?_,q⟩;have e:b=s1.heap.objs.size:=by simpa using hb
 subst e;exact I1.fpOk (Au _) (I1.hok.fresh (Au _))
def Zb (hl:PE X l tl):PI X tg l (jO X.K tl):=by
 intro aa s σ H R I h;refine Aw (hl aa s σ H _ I h) λv s1 hp0=>?_;obtain⟨x,H1,I1,r1,q1⟩:=hp0;obtain⟨a,e,⟨xs,hq⟩,q⟩:=q1;subst e;cases r1;obtain⟨its,rv,p,hz⟩:=I1.tuple hq;refine Ot (show s1.heap.IsTuple a its.toArray from p) ?_;refine⟨s1.heap.objs.size,[s1.heap.objs.size],_,_,H1,rfl,I1.kept (t':=s1.toks) λb o e=>AU _ e,Wr a _,⟨_,Bg _ rfl,rfl,rfl⟩,λb hb=>?_,q⟩;have e:b=s1.heap.objs.size:=by simpa using hb
 subst e;exact I1.fpOk (Au _) (I1.hok.fresh (Au _))
def YF {lo:Int}{t:Tok}{tk:Nat}(I:Inv X aa σ H s)(h1:-(2^62)<=lo)(h2:lo<2^62)(h3:-(2^62)<=hi)(h4:hi<2^62)
  (q:R (J3 lo (hi-lo).toNat) H):wpAny (model X.prog X.w) X.A (pyIter (.ref s.heap.objs.size)) (V8 X aa σ tg R) E { s with heap:=s.heap.push { cls:=.type "range",data:=.fields #[.int lo t,.int hi u,.int 1 v] },toks:=tk }:=by
 refine wpAny_pyIter_range (IsRange.new ..) (small_one h1 h2 h3 h4) ?_
 have I1:Inv X aa σ H { s with heap:=s.heap.push { cls:=.type "range",data:=.fields #[.int lo t,.int hi u,.int 1 v] },toks:=tk }:=I.kept λb o e=>AU _ e
 refine⟨(s.heap.push { cls:=.type "range",data:=.fields #[.int lo t,.int hi u,.int 1 v] }).objs.size,[(s.heap.push { cls:=.type "range",data:=.fields #[.int lo t,.int hi u,.int 1 v] }).objs.size],_,_,H,rfl,I1.kept (t':=tk) λb o e=>AU _ e,Wu _ lo (hi-lo).toNat,?_,λb hb=>?_,q⟩
 ·have e1:lo+((0:Nat):Int)*1=lo:=by simp
  have e2:(((hi-lo).toNat:Nat):Int)-((0:Nat):Int)=Builtin.Range.rangeSize lo hi 1:=by rw[rangeSize_one];split <;> lia
  show IsRangeIter _ _ (lo+((0:Nat):Int)*1) ((((hi-lo).toNat:Nat):Int)-((0:Nat):Int)) 1;rw[e1,e2];exact Bg _ rfl
 have e:b=(s.heap.push { cls:=.type "range",data:=.fields #[.int lo t,.int hi u,.int 1 v] }).objs.size:=by simpa using hb
 subst e
 exact I1.fpOk (Au _) (I1.hok.fresh (Au _))
def jQ (ta:TA):TI:=λσ H R=>ta σ H λvs H1=>∃j:Int,vs=[.int j]/\-(2^62)<=j/\j<2^62/\R (J3 0 j.toNat) H1
def Ex (hg:Gl X "range")(hm:X.mg "range" = none)(ha:PA X [a] ta)(hs:starEach [a] X.env=[(false,eval a X.env)]:=by rfl):PI X tg (.Call (.Name "range" p) [a] [] pos) (jQ ta):=by
 intro aa s σ H R I h;refine Call_ (HS I hg hm boot_range (LW (Aw (ha pos aa s σ H _ I h) λus s1 hp0=>?_) hs rfl));obtain⟨vs,H1,I1,r1,q1⟩:=hp0;obtain⟨j,e,q1,q2,q⟩:=q1;subst e;cases r1 with
 | cons r rr=>cases rr;obtain⟨t,rfl⟩:=r;exact call_range_1 (YF I1 (by lia) (by lia) q1 q2 (by simpa using q))
def W0 (wi:TI)(g:TG)(tb:TS):TS:=λD σ H=>wi σ H λJ H1=>∃W:Nat->Nat->St->Hp->Prop,(∃m,W 0 m σ H1)/\∀i m σ H,W i m σ H ->
 (J.stop i H/\D.nx σ H)\/(J.go i H/\∃N:St->Hp->Prop,(∀σ' H',N σ' H'->∃m',m'<m/\W (i+1) m' σ' H')/\∀x H',J.yld i H x H'->g x σ H' λσ2 H2=>tb { D with nx:=N,ct:=N,bk:=D.nx } σ2 H2)
def KB (fp:List Addr)(h:Heap):List (Addr×Obj):=fp.filterMap λb=>(h.get? b).map λo=>(b,o)
def Nw (hb:b∈fp)(e:h.get? b=some o):(b,o)∈KB fp h:=mem_filterMap.mpr ⟨b,hb,by rw[e];rfl⟩
def cD (hp:p∈KB fp h):p.1∈fp/\h.get? p.1=some p.2:=by
 obtain⟨b,hb,e⟩:=mem_filterMap.mp hp;cases q:h.get? b with
 | none=>rw[q]at e;cases e
 | some o=>rw[q]at e;have e':(b,o)=p:=Bs e;subst e';exact⟨hb,q⟩
def Inv.pinned (I:Inv X aa σ H s)(hf:∀b∈fp,FpOk X aa H b)(ho:∀b∈fp,∃o,s.heap.get? b=some o/\∀v,o.data≠.cell v):Inv X (aa++KB fp s.heap) σ H s:=
 I.pins_of λp hp=>(BK.mp hp).elim (λz=>I.pin p (EO _ z)) λz=>by obtain⟨hb,e⟩:=cD z;obtain⟨f0,f1,f2,_⟩:=hf p.1 hb;obtain⟨o,e',d⟩:=ho p.1 hb;rw[e]at e';cases e';exact⟨e,f0,f1,f2,d⟩
def Inv.unpinned (I:Inv X (aa++pl) σ H s):Inv X aa σ H s:=I.pins_of λp hp=>I.pin p (EO _ (JO _ hp))
def BU (hp:PassesOwn (model X.prog X.w) X.A X.env X.xe)(hc:X.calm=true)(hi:PI X tg iter wi)(hg:PG X tg g)(hb:PSs X body tb)
  (hs:∀x,foldedSetIterable iter X.env x=pure x:=by intro _;rfl):PS X (.For tg iter body [] pos) (W0 wi g tb):=by
 intro aa s σ H D I h
 refine wpAny_For (Aw (hi aa s σ H _ I h) λv s1 h1=>Aw h1 λitv s2 h2=>?_) hs
 obtain⟨it,fp,tn,J,H2,e,I2,T,st2,f2,W,⟨m0,w0⟩,turn⟩:=h2
 subst e
 have stat:∀{H':Hp},(∀b∈fp,H' b=none)->∀b∈fp,FpOk X aa H' b:=λhn b hb=>⟨hn b hb,(f2 b hb).2⟩
 refine codeAny_forLoop_any (λn s'=>∃i σ' H',Inv X aa σ' H' s'/\tn i s'.heap/\(∀b∈fp,H' b=none)/\W i n σ' H') ?_ m0 ⟨0,σ,H2,I2,st2,λb hb=>(f2 b hb).1,w0⟩
 rintro n s3 ⟨i,σ3,H3,I3,st3,fr3,w3⟩
 rcases turn i n σ3 H3 w3 with⟨stop,qn⟩ | ⟨go,N,hN,step⟩
 ·refine Ii hp (Aw (T.done X rfl rfl rfl hc i aa s3 σ3 H3 X.xe I3 (stat fr3) st3 stop) λr s4 hp0=>?_);obtain⟨hr,I4⟩:=hp0;subst hr;exact Oi ⟨σ3,H3,I4,qn⟩
 refine Ii hp (Aw (T.item X rfl rfl rfl hc i aa s3 σ3 H3 X.xe I3 (stat fr3) st3 go) λr s4 hp0=>?_)
 obtain⟨u,hr,h4⟩:=hp0
 subst hr
 refine Ii hp (Aw h4 λ_ s5 hp0=>?_)
 obtain⟨x,H5,I5,r5,y5,st5,fr5⟩:=hp0
 have I5':=I5.pinned (stat fr5) (T.obj _ _ st5)
 refine Ii hp (Aw (hg _ s5 σ3 H5 x u _ I5' r5 (step x H5 y5)) λ_ s6 hp0=>?_)
 obtain⟨σ6,H6,I6,q6⟩:=hp0
 refine Ii hp (Aw (hb _ s6 σ6 H6 _ I6 q6) λf s7 q7=>?_)
 have again:∀{σ7:St}{H7:Hp},Inv X (aa++KB fp s5.heap) σ7 H7 s7->N σ7 H7->∃m,m<n/\∃i σ' H',Inv X aa σ' H' s7/\tn i s7.heap/\(∀b∈fp,H' b=none)/\W i m σ' H':=λ{σ7 H7} I7 n7=>by obtain⟨m',hm,w7⟩:=hN σ7 H7 n7;refine⟨m',hm,i+1,σ7,H7,I7.unpinned,T.keep _ _ _ st5 λb hb o e=>(I7.pin (b,o) (EO _ (EO _ (Nw hb e)))).1,λb hb=>?_,w7⟩;obtain⟨o,e,d⟩:=T.obj _ _ st5 b hb;exact(I7.pin (b,o) (EO _ (EO _ (Nw hb e)))).2.1
 cases f with
 | next=>obtain⟨σ7,H7,I7,n7⟩:=q7;exact again I7 n7
 | cont=>obtain⟨σ7,H7,I7,n7⟩:=q7;exact again I7 n7
 | brk=>obtain⟨σ7,H7,I7,q7⟩:=q7;exact⟨σ7,H7,I7.unpinned,q7⟩
 | ret v=>obtain⟨x7,σ7,H7,I7,r7,q7⟩:=q7;exact⟨x7,σ7,H7,I7.unpinned,r7,q7⟩
end
def Dn {K:W.Frag}{a:Addr}{xs:List V}{g:TG}{tb:TS}{D:FH}{σ:St}{H:Hp}(Pv:Nat->St->Hp->Prop)(h0:Pv 0 σ H)(hl:∀i σ H,i<=xs.length->Pv i σ H->SqL K H a xs)
  (hs:∀i x σ H,xs[i]? = some x->Pv i σ H->g x σ H λσ2 H2=>tb { D with nx:=Pv (i+1),ct:=Pv (i+1),bk:=D.nx } σ2 H2)(hd:∀σ H,Pv xs.length σ H->D.nx σ H) :
  ∃W:Nat->Nat->St->Hp->Prop,(∃m,W 0 m σ H)/\∀i m σ H,W i m σ H ->
   ((L6 K a).stop i H/\D.nx σ H)\/((L6 K a).go i H/\∃N:St->Hp->Prop,(∀σ' H',N σ' H'->∃m',m'<m/\W (i+1) m' σ' H')/\∀x H',(L6 K a).yld i H x H'->g x σ H' λσ2 H2=>tb { D with nx:=N,ct:=N,bk:=D.nx } σ2 H2):=by
 refine⟨λi m σ H=>m=xs.length-i/\i<=xs.length/\Pv i σ H,⟨xs.length,by simp,A5 _,h0⟩,?_⟩
 rintro i m σ H ⟨rfl,hi,p⟩
 have q:=hl i σ H hi p
 by_cases hlt:i<xs.length
 ·refine .inr ⟨⟨xs,xs[i],q,by simp[hlt]⟩,Pv (i+1),λσ' H' p'=>⟨xs.length-(i+1),by lia,rfl,hlt,p'⟩,λx H' y=>?_⟩;obtain⟨e,y⟩:=y;subst e;exact hs i x σ _ (y xs q) p
 have e:i=xs.length:=by lia
 subst e
 exact .inl ⟨⟨xs,q,Au _⟩,hd σ H p⟩
def kW {K:W.Frag}{a:Addr}{xs:List V}{g:TG}{tb:TS}{D:FH}{σ:St}{H:Hp}(Pv:Nat->St->Hp->Prop)(h0:Pv 0 σ H)(hl:∀i σ H,i<=xs.length->Pv i σ H->SqT K H a xs)
  (hs:∀i x σ H,xs[i]? = some x->Pv i σ H->g x σ H λσ2 H2=>tb { D with nx:=Pv (i+1),ct:=Pv (i+1),bk:=D.nx } σ2 H2)(hd:∀σ H,Pv xs.length σ H->D.nx σ H) :
  ∃W:Nat->Nat->St->Hp->Prop,(∃m,W 0 m σ H)/\∀i m σ H,W i m σ H ->
   ((L5 K a).stop i H/\D.nx σ H)\/((L5 K a).go i H/\∃N:St->Hp->Prop,(∀σ' H',N σ' H'->∃m',m'<m/\W (i+1) m' σ' H')/\∀x H',(L5 K a).yld i H x H'->g x σ H' λσ2 H2=>tb { D with nx:=N,ct:=N,bk:=D.nx } σ2 H2):=by
 refine⟨λi m σ H=>m=xs.length-i/\i<=xs.length/\Pv i σ H,⟨xs.length,by simp,A5 _,h0⟩,?_⟩
 rintro i m σ H ⟨rfl,hi,p⟩
 have q:=hl i σ H hi p
 by_cases hlt:i<xs.length
 ·refine .inr ⟨⟨xs,xs[i],q,by simp[hlt]⟩,Pv (i+1),λσ' H' p'=>⟨xs.length-(i+1),by lia,rfl,hlt,p'⟩,λx H' y=>?_⟩;obtain⟨e,y⟩:=y;subst e;exact hs i x σ _ (y xs q) p
 have e:i=xs.length:=by lia
 subst e
 exact .inl ⟨⟨xs,q,Au _⟩,hd σ H p⟩
def HV {lo:Int}{n:Nat}{g:TG}{tb:TS}{D:FH}{σ:St}{H:Hp}(Pv:Nat->St->Hp->Prop)(h0:Pv 0 σ H)
  (hs:∀i σ H,i<n->Pv i σ H->g (.int (lo+i)) σ H λσ2 H2=>tb { D with nx:=Pv (i+1),ct:=Pv (i+1),bk:=D.nx } σ2 H2)(hd:∀σ H,Pv n σ H->D.nx σ H) :
  ∃W:Nat->Nat->St->Hp->Prop,(∃m,W 0 m σ H)/\∀i m σ H,W i m σ H ->
   ((J3 lo n).stop i H/\D.nx σ H)\/((J3 lo n).go i H/\∃N:St->Hp->Prop,(∀σ' H',N σ' H'->∃m',m'<m/\W (i+1) m' σ' H')/\∀x H',(J3 lo n).yld i H x H'->g x σ H' λσ2 H2=>tb { D with nx:=N,ct:=N,bk:=D.nx } σ2 H2):=by
 refine⟨λi m σ H=>m=n-i/\i<=n/\Pv i σ H,⟨n,by simp,A5 _,h0⟩,?_⟩
 rintro i m σ H ⟨rfl,hi,p⟩
 by_cases hlt:i<n
 ·refine .inr ⟨hlt,Pv (i+1),λσ' H' p'=>⟨n-(i+1),by lia,rfl,hlt,p'⟩,λx H' y=>?_⟩;obtain⟨e,y⟩:=y;subst e y;exact hs i σ _ hlt p
 have e:i=n:=by lia
 subst e
 exact .inl ⟨Au _,hd σ H p⟩
abbrev R2:=V->V->Hp->VK->Prop
def Bt (X:Cx)(f:Value->Value->Sem Value)(r:R2):Prop:=
 ∀(aa:List (Addr×Obj)) (s:Shared) (σ:St) (H:Hp) (x y:V) (v u:Value) (Q:VK),Inv X aa σ H s->RelV x v->RelV y u->r x y H Q ->
  wpAny (model X.prog X.w) X.A (f v u) (EP X aa σ Q) X.xe s
def R5 (X:Cx)(f:Value->Sem Value)(r:V->Hp->VK->Prop):Prop:=
 ∀(aa:List (Addr×Obj)) (s:Shared) (σ:St) (H:Hp) (x:V) (v:Value) (Q:VK),Inv X aa σ H s->RelV x v->r x H Q ->
  wpAny (model X.prog X.w) X.A (f v) (EP X aa σ Q) X.xe s
def Cp (X:Cx)(f:Value)(r:List V->Hp->VK->Prop):Prop:=
 ∀(aa:List (Addr×Obj)) (s:Shared) (σ:St) (H:Hp) (xs:List V) (us:List Value) (Q:VK),Inv X aa σ H s->Vals xs us->r xs H Q ->
  wpAny (model X.prog X.w) X.A (call f us) (EP X aa σ Q) X.xe s
def Mf (r:R2)(ta tb:TE):TE:=λσ H Q=>ta σ H λx H1=>tb σ H1 λy H2=>r x y H2 Q
def WE (r:V->Hp->VK->Prop)(ta:TE):TE:=λσ H Q=>ta σ H λx H1=>r x H1 Q
inductive rI (C:Int->Int->Prop)(g:Int->Int->V)(x:V)(y:V)(H:Hp)(Q:VK):Prop
 | mk (i:_) (j:_) (c0:x=.int i) (c1:y=.int j) (c2:C i j) (c3:Q (g i j) H):rI C g x y H Q
inductive Fj (g:Int->Int->V)(x:V)(y:V)(H:Hp)(Q:VK):Prop
 | mk (i:_) (j:_) (c0:x=.int i) (c1:y=.int j) (c2:Q (g i j) H):Fj g x y H Q
def rU (g:Int->V):V->Hp->VK->Prop:=λx H Q=>∃i,x=.int i/\Q (g i) H
section
variable {X:Cx}{a b c:Expr}{ta tb tc:TE}{pos:Pos}
def Rc (ha:PE X a ta)(hb:PE X b tb){aa:List (Addr×Obj)}{s:Shared}{σ:St}{H:Hp}{R:V->V->Hp->Prop}(I:Inv X aa σ H s)
  (h:ta σ H λx H1=>tb σ H1 λy H2=>R x y H2){Q:Value->Shared->Prop}{f:Value->Value->Sem Value}
  (hf:∀v u s2 x y H2,Inv X aa σ H2 s2->RelV x v->RelV y u->R x y H2->wpAny (model X.prog X.w) X.A (f v u) Q X.xe s2) :
  wpAny (model X.prog X.w) X.A (eval a X.env) (λv s₁=>wpAny (model X.prog X.w) X.A (eval b X.env) (λu s₂=>wpAny (model X.prog X.w) X.A (f v u) Q X.xe s₂) X.xe s₁) X.xe s:=by
 refine Aw (ha aa s σ H _ I h) λv s1 hp0=>?_
 obtain⟨x,H1,I1,r1,q1⟩:=hp0
 refine Aw (hb aa s1 σ H1 _ I1 q1) λu s2 hp0=>?_
 obtain⟨y,H2,I2,r2,q2⟩:=hp0
 exact hf v u s2 x y H2 I2 r1 r2 q2
def Ax (ho:Bt X (binaryOp op) r)(ha:PE X a ta)(hb:PE X b tb):PE X (.BinOp a op b pos) (Mf r ta tb):=by intro aa s σ H Q I h;exact wpAny_BinOp (Rc ha hb I h λv u s2 x y H2 I2 rx ry q=>ho aa s2 σ H2 x y v u Q I2 rx ry q)
def EX (ho:R5 X (unaryOp op) r)(ha:PE X a ta):PE X (.UnaryOp op a pos) (WE r ta):=by intro aa s σ H Q I h;exact UnaryOp_ (Aw (ha aa s σ H _ I h) λv s1 hp0=>by obtain⟨x,H1,I1,r1,q1⟩:=hp0;exact ho aa s1 σ H1 x v Q I1 r1 q1)
def K5 {f:Value->Value->Sem Value}{C:Int->Int->Prop}{g:Int->Int->Int}
  (rule:∀(i j:Int) (t u:Tok) (s:Shared) (Q:Value->Shared->Prop) (E:Value->Shared->Prop),C i j->Q (.int (g i j) s.toks) { s with toks:=s.toks+1 }->wpAny (model X.prog X.w) X.A (f (.int i t) (.int j u)) Q E s) :
  Bt X f (rI C λi j=>.int (g i j)):=by
 intro aa s σ H x y v u Q I rx ry h
 obtain⟨i,j,rfl,rfl,hc,q⟩:=h
 obtain⟨t,rfl⟩:=rx
 obtain⟨t',rfl⟩:=ry
 exact rule i j t t' s _ _ hc ⟨.int (g i j),H,I.tok _,⟨_,rfl⟩,q⟩
def QB {f:Value->Value->Sem Value}{g:Int->Int->Int}
  (rule:∀(i j:Int) (t u:Tok) (s:Shared) (Q:Value->Shared->Prop) (E:Value->Shared->Prop),Q (.int (g i j) s.toks) { s with toks:=s.toks+1 }->wpAny (model X.prog X.w) X.A (f (.int i t) (.int j u)) Q E s) :
  Bt X f (Fj λi j=>.int (g i j)):=by
 intro aa s σ H x y v u Q I rx ry h
 obtain⟨i,j,rfl,rfl,q⟩:=h
 obtain⟨t,rfl⟩:=rx
 obtain⟨t',rfl⟩:=ry
 exact rule i j t t' s _ _ ⟨.int (g i j),H,I.tok _,⟨_,rfl⟩,q⟩
def Nk {f:Value->Value->Sem Value}{g:Int->Int->Bool}
  (rule:∀(i j:Int) (t u:Tok) (s:Shared) (Q:Value->Shared->Prop) (E:Value->Shared->Prop),Q (.bool (g i j)) s->wpAny (model X.prog X.w) X.A (f (.int i t) (.int j u)) Q E s) :
  Bt X f (Fj λi j=>.bl (g i j)):=by
 intro aa s σ H x y v u Q I rx ry h
 obtain⟨i,j,rfl,rfl,q⟩:=h
 obtain⟨t,rfl⟩:=rx
 obtain⟨t',rfl⟩:=ry
 exact rule i j t t' s _ _ ⟨.bl (g i j),H,I,rfl,q⟩
def oM (i j:Int):Prop:=0<j/\j<1073741824
def Wf (i j:Int):Prop:=0<=j/\j<=1000000/\i.natAbs<2^64
def CMul (i j:Int):Prop:=(-(2^64)<i/\i<2^64)\/(-(2^64)<j/\j<2^64)
def CMul.ok (h:CMul i j):IntMulOk i j:=by
 rcases h with⟨h1,h2⟩ | ⟨h1,h2⟩
 ·exact .of_left (intBits_le_64 h1 h2)
 exact .of_right (intBits_le_64 h1 h2)
def Bm:Bt X (binaryOp .Add) (Fj λi j=>.int (i+j)):=QB λ_ _ _ _ _ _ _ q=>add_int q
def QA:Bt X (binaryOp .Sub) (Fj λi j=>.int (i-j)):=QB λ_ _ _ _ _ _ _ q=>sub_int q
def Fm:Bt X (binaryOp .Mult) (rI CMul λi j=>.int (i*j)):=K5 λ_ _ _ _ _ _ _ hc q=>mul_int q hc.ok
def Zx:Bt X (binaryOp .FloorDiv) (rI oM λi j=>.int (i / j)):=K5 λi j _ _ _ _ _ hc q=>by have h1:(0:Int)<j:=hc.1;have h2:j<1073741824:=hc.2;exact floordiv_int (by lia) (by rw[Int.fdiv_eq_ediv_of_nonneg i (by lia)];exact q) (.inl (PyProof.noPylong_small (by lia)))
def Fn:Bt X (binaryOp .Mod) (rI (λ_ j=>0<j) λi j=>.int (i % j)):=K5 λi j _ _ _ _ _ hc q=>by have h1:(0:Int)<j:=hc;exact mod_int' (by lia) (by rw[Int.fmod_eq_emod_of_nonneg i (by lia)];exact q)
def T2:Bt X (binaryOp .Pow) (rI Wf λi j=>.int (i^j.toNat)):=K5 λ_ _ _ _ _ _ _ hc q=>pow_int_small hc.1 hc.2.1 hc.2.2 q
def Zo:Bt X (binaryOp .LShift) (rI Wf λi j=>.int (i*2^j.toNat)):=K5 λ_ _ _ _ _ _ _ hc q=>lshift_int_small hc.1 hc.2.1 hc.2.2 q
def T3:Bt X (binaryOp .BitOr) (Fj λi j=>.int (Builtin.bitOr i j)):=QB λ_ _ _ _ _ _ _ q=>or_int q
def Wp {f:Value->Sem Value}{g:Int->Int}
  (rule:∀(i:Int) (t:Tok) (s:Shared) (Q:Value->Shared->Prop) (E:Value->Shared->Prop),Q (.int (g i) s.toks) { s with toks:=s.toks+1 }->wpAny (model X.prog X.w) X.A (f (.int i t)) Q E s) :
  R5 X f (rU λi=>.int (g i)):=by
 intro aa s σ H x v Q I rx h
 obtain⟨i,rfl,q⟩:=h
 obtain⟨t,rfl⟩:=rx
 exact rule i t s _ _ ⟨.int (g i),H,I.tok _,⟨_,rfl⟩,q⟩
def EU:R5 X (unaryOp .USub) (rU λi=>.int (-i)):=Wp λ_ _ _ _ _ q=>neg_int q
end
def PY:V->V->Bool
 | .non,.non=>true | .non,.int _=>true | .int _,.non=>true | .non,.bl _=>true | .bl _,.non=>true | .non,.str _=>true | .str _,.non=>true
 | .int _,.int _=>true | .bl _,.bl _=>true | .str _,.str _=>true | .byt _,.byt _=>true
 | .int _,.str _=>true | .str _,.int _=>true | .bl _,.str _=>true | .str _,.bl _=>true
 | _,_=>false
def YR:R2:=λx y H Q=>PY x y=true/\Q (.bl (decide (x=y))) H
def YL:R2:=λx y H Q=>PY x y=true/\Q (.bl (!decide (x=y))) H
def Vm :decide (V.int i=V.int j)=(i == j):=by rw[JP];simp
def Vo :decide (V.bl i=V.bl j)=(i == j):=by rw[JP];simp
def Vl :decide (V.str i=V.str j)=(i == j):=by rw[JP];simp
def Vn :decide (V.byt i=V.byt j)=(i.toList == j.toList):=by rw[JP];cases i;cases j;simp
section
variable {X:Cx}{a b c:Expr}{ta tb tc:TE}{pos:Pos}
def BG {k:Bool}(I:Inv X aa σ H s)(q:Q (.bl k) H)(e:k=k'):EP X aa σ Q (.bool k') s:=by subst e;exact⟨.bl k,H,I,rfl,q⟩
def Bo:Bt X (compareOp .Eq) YR:=by
 intro aa s σ H x y v u Q I rx ry h;obtain⟨hs,q⟩:=h;cases x with
 | non=>
  cases rx;cases y with
  | non=>cases ry;exact PySem.EqNone.eq_none_none (BG I q (by simp))
  | bl j=>cases ry;exact PySem.EqNone.eq_none_bool (BG I q (by simp))
  | int j=>obtain⟨t',rfl⟩:=ry;exact PySem.EqNone.eq_none_int (BG I q (by simp))
  | str j=>obtain⟨t',rfl⟩:=ry;exact PySem.EqNone.eq_none_str (BG I q (by simp))
  | _=>exact absurd (show false=true from hs) BE
 | bl i=>
  cases rx;cases y with
  | non=>cases ry;exact PySem.EqNone.eq_bool_none (BG I q (by simp))
  | bl j=>cases ry;exact eq_bool (BG I q Vo)
  | str j=>obtain⟨t',rfl⟩:=ry;exact PySem.EqMixed.eq_bool_str (BG I q (by simp))
  | _=>exact absurd (show false=true from hs) BE
 | int i=>
  obtain⟨t,rfl⟩:=rx;cases y with
  | non=>cases ry;exact PySem.EqNone.eq_int_none (BG I q (by simp))
  | int j=>obtain⟨t',rfl⟩:=ry;exact eq_int (BG I q Vm)
  | str j=>obtain⟨t',rfl⟩:=ry;exact PySem.EqMixed.eq_int_str (BG I q (by simp))
  | _=>exact absurd (show false=true from hs) BE
 | str i=>
  obtain⟨t,rfl⟩:=rx;cases y with
  | non=>cases ry;exact PySem.EqNone.eq_str_none (BG I q (by simp))
  | bl j=>cases ry;exact PySem.EqMixed.eq_str_bool (BG I q (by simp))
  | int j=>obtain⟨t',rfl⟩:=ry;exact PySem.EqMixed.eq_str_int (BG I q (by simp))
  | str j=>obtain⟨t',rfl⟩:=ry;exact eq_str (BG I q Vl)
  | _=>exact absurd (show false=true from hs) BE
 | byt i=>
  obtain⟨t,rfl⟩:=rx;cases y with
  | byt j=>obtain⟨t',rfl⟩:=ry;exact PySem.W.eq_bytes (BG I q Vn)
  | _=>exact absurd (show false=true from hs) BE
 | _=>cases y <;> exact absurd (show false=true from hs) BE
def Gy:Bt X (compareOp .NotEq) YL:=by
 intro aa s σ H x y v u Q I rx ry h;obtain⟨hs,q⟩:=h;cases x with
 | non=>
  cases rx;cases y with
  | non=>cases ry;exact PySem.EqNone.ne_none_none (BG I q (by simp))
  | bl j=>cases ry;exact PySem.EqNone.ne_none_bool (BG I q (by simp))
  | int j=>obtain⟨t',rfl⟩:=ry;exact PySem.EqNone.ne_none_int (BG I q (by simp))
  | str j=>obtain⟨t',rfl⟩:=ry;exact PySem.EqNone.ne_none_str (BG I q (by simp))
  | _=>exact absurd (show false=true from hs) BE
 | bl i=>
  cases rx;cases y with
  | non=>cases ry;exact PySem.EqNone.ne_bool_none (BG I q (by simp))
  | bl j=>cases ry;exact ne_bool (BG I q (BJ not Vo))
  | str j=>obtain⟨t',rfl⟩:=ry;exact PySem.EqMixed.ne_bool_str (BG I q (by simp))
  | _=>exact absurd (show false=true from hs) BE
 | int i=>
  obtain⟨t,rfl⟩:=rx;cases y with
  | non=>cases ry;exact PySem.EqNone.ne_int_none (BG I q (by simp))
  | int j=>obtain⟨t',rfl⟩:=ry;exact ne_int (BG I q (BJ not Vm))
  | str j=>obtain⟨t',rfl⟩:=ry;exact PySem.EqMixed.ne_int_str (BG I q (by simp))
  | _=>exact absurd (show false=true from hs) BE
 | str i=>
  obtain⟨t,rfl⟩:=rx;cases y with
  | non=>cases ry;exact PySem.EqNone.ne_str_none (BG I q (by simp))
  | bl j=>cases ry;exact PySem.EqMixed.ne_str_bool (BG I q (by simp))
  | int j=>obtain⟨t',rfl⟩:=ry;exact PySem.EqMixed.ne_str_int (BG I q (by simp))
  | str j=>obtain⟨t',rfl⟩:=ry;exact ne_str (BG I q (BJ not Vl))
  | _=>exact absurd (show false=true from hs) BE
 | byt i=>
  obtain⟨t,rfl⟩:=rx;cases y with
  | byt j=>obtain⟨t',rfl⟩:=ry;exact PySem.W.ne_bytes (BG I q (BJ not Vn))
  | _=>exact absurd (show false=true from hs) BE
 | _=>cases y <;> exact absurd (show false=true from hs) BE
def Hz:Bt X (compareOp .Lt) (Fj λi j=>.bl (decide (i<j))):=Nk λ_ _ _ _ _ _ _ q=>lt_int q
def HK:Bt X (compareOp .LtE) (Fj λi j=>.bl (decide (i<=j))):=Nk λ_ _ _ _ _ _ _ q=>le_int q
def Ez:Bt X (compareOp .Gt) (Fj λi j=>.bl (decide (j<i))):=Nk λ_ _ _ _ _ _ _ q=>gt_int q
def Zw:Bt X (compareOp .GtE) (Fj λi j=>.bl (decide (j<=i))):=Nk λ_ _ _ _ _ _ _ q=>ge_int q
def Zu:Bt X (compareOp .In) (λx y H Q=>∃i j,x=.str i/\y=.str j/\Q (.bl (!(Builtin.Str.occurrences j i 0 j.length 1).isEmpty)) H):=by intro aa s σ H x y v u Q I rx ry h;obtain⟨i,j,rfl,rfl,q⟩:=h;obtain⟨t,rfl⟩:=rx;obtain⟨t',rfl⟩:=ry;exact in_str (BG I q rfl)
def HL:Bt X (compareOp .Is) (λx y H Q=>y=.non/\Q (.bl (decide (x=.non))) H):=by
 intro aa s σ H x y v u Q I rx ry h;obtain⟨rfl,q⟩:=h;cases ry;refine is_none_gen (BG I q ?_)
 cases x <;> first
  | (cases rx;rfl)
  | (obtain⟨t,rfl⟩:=rx;rfl)
def Jn:Bt X (compareOp .IsNot) (λx y H Q=>y=.non/\Q (.bl (!decide (x=.non))) H):=by
 intro aa s σ H x y v u Q I rx ry h;obtain⟨rfl,q⟩:=h;cases ry;refine isnot_none_gen (BG I q ?_)
 cases x <;> first
  | (cases rx;rfl)
  | (obtain⟨t,rfl⟩:=rx;rfl)
def AD (b:Expr) (h:op≠.In:=by decide)(h2:op≠.NotIn:=by decide):behindInMarks op b=false:=by
 have e1:(op == CmpOp.In)=false:=by cases op <;> first | rfl | exact absurd rfl h
 have e2:(op == CmpOp.NotIn)=false:=by cases op <;> first | rfl | exact absurd rfl h2
 cases b <;> simp[behindInMarks,e1,e2]
def Fl (ho:Bt X (compareOp op) r)(ha:PE X a ta)(hb:PE X b tb)(hm:behindInMarks op b=false):PE X (.Compare a [op] [b] pos) (Mf r ta tb):=by intro aa s σ H Q I h;exact wpAny_Compare1 (Rc ha hb I h λv u s2 x y H2 I2 rx ry q=>ho aa s2 σ H2 x y v u Q I2 rx ry q) hm
inductive UJ (Q:Bool->Hp->Prop)(x:V)(H':Hp):Prop
 | mk (k:_) (c0:x=.bl k) (c1:Q k H'):UJ Q x H'
def SF (t:TE):TT:=λσ H Q=>t σ H λx H'=>UJ Q x H'
def AC (ho:Bt X (compareOp op) r)(ha:PE X a ta)(hb:PE X b tb)(hm:behindInMarks op b=false):PT X (.Compare a [op] [b] pos) (SF (Mf r ta tb)):=by intro aa s σ H Q I h;refine wpAny_isTrue_Compare1 (Aw (ha aa s σ H _ I h) λv s1 ⟨x,H1,I1,r1,q1⟩=>Aw (hb aa s1 σ H1 _ I1 q1) λu s2 ⟨y,H2,I2,r2,q2⟩=>Aw (ho aa s2 σ H2 x y v u _ I2 r1 r2 q2) λc s3 ⟨z,H3,I3,r3,k,e,q3⟩=>?_) hm;subst e;cases r3;exact F6 ⟨H3,I3,q3⟩
def SM (r r':R2)(ta tb tc:TE):TE:=λσ H Q=>ta σ H λx H1=>tb σ H1 λy H2=>r x y H2 λz H3=>∃k,z=.bl k /\
 (if k=true then tc σ H3 λw' H4=>r' y w' H4 Q else Q (.bl false) H3)
def Zl (ho:Bt X (compareOp op) r)(ho':Bt X (compareOp op') r')(ha:PE X a ta)(hb:PE X b tb)(hc:PE X c tc)
  (hm:lastMarks [op,op'] [b,c]=false:=by with_unfolding_all rfl):PE X (.Compare a [op,op'] [b,c] pos) (SM r r' ta tb tc):=by
 intro aa s σ H Q I h
 refine Compare_chain (Aw (ha aa s σ H _ I h) λv s1 ⟨x,H1,I1,r1,q1⟩=>chain_link (Aw (hb aa s1 σ H1 _ I1 q1) λu s2 ⟨y,H2,I2,r2,q2⟩=>Aw (ho aa s2 σ H2 x y v u _ I2 r1 r2 q2) λd s3 ⟨z,H3,I3,r3,k,e,q3⟩=>?_)) hm
 subst e
 cases r3
 refine F6 ?_
 cases k with
 | false=>exact ite_ff ⟨.bl false,H3,I3,rfl,q3⟩
 | true=>exact ite_tt (chain_last (Aw (hc aa s3 σ H3 _ I3 q3) λw' s4 hp0=>by obtain⟨z',H4,I4,r4,q4⟩:=hp0;exact ho' aa s4 σ H4 y z' u w' Q I4 r2 r4 q4))
def Qi (ho:Bt X (compareOp op) r)(ho':Bt X (compareOp op') r')(ha:PE X a ta)(hb:PE X b tb)(hc:PE X c tc)
  (hm:lastMarks [op,op'] [b,c]=false:=by with_unfolding_all rfl):PT X (.Compare a [op,op'] [b,c] pos) (SF (SM r r' ta tb tc)):=by
 intro aa s σ H Q I h
 refine isTrue_chain (Aw (ha aa s σ H _ I h) λv s1 ⟨x,H1,I1,r1,q1⟩=>test_link (Aw (hb aa s1 σ H1 _ I1 q1) λu s2 ⟨y,H2,I2,r2,q2⟩=>Aw (ho aa s2 σ H2 x y v u _ I2 r1 r2 q2) λd s3 ⟨z,H3,I3,r3,k,e,q3⟩=>?_)) hm
 subst e
 cases r3
 refine F6 ?_
 cases k with
 | false=>obtain⟨k',e',q'⟩:=q3;cases e';exact ite_ff ⟨H3,I3,q'⟩
 | true=>refine ite_tt (test_last (Aw (hc aa s3 σ H3 _ I3 q3) λw' s4 hp0=>?_));obtain⟨z',H4,I4,r4,q4⟩:=hp0;refine Aw (ho' aa s4 σ H4 y z' u w' _ I4 r2 r4 q4) λd' s5 hp1=>?_;obtain⟨z2,H5,I5,r5,k2,e2,q5⟩:=hp1;subst e2;cases r5;exact F6 ⟨H5,I5,q5⟩
def K8:(sizeLine:Nat)<2^63:=by rw[AK];decide
inductive Tw (x y:V)(H:Hp)(Q:VK):Prop
 | mk (i:_) (j:_) (c0:x=.str i) (c1:y=.str j) (c2:i.length+j.length<=sizeLine) (c3:Q (.str (i++j)) H):Tw x y H Q
def Dx:Bt X (binaryOp .Add) Tw:=by intro aa s σ H x y v u Q I rx ry h;obtain⟨i,j,rfl,rfl,hz,q⟩:=h;obtain⟨t,rfl⟩:=rx;obtain⟨t',rfl⟩:=ry;exact add_str (λt' tk=>⟨.str (i++j),H,I.tok _,⟨_,rfl⟩,q⟩) hz
def CB (r:Vals [x] us):∃u,us=[u]/\RelV x u:=by
 cases r with
 | cons r1 r2=>cases r2;exact⟨_,rfl,r1⟩
def L9 (r:Vals [x,y] us):∃u w',us=[u,w']/\RelV x u/\RelV y w':=by
 cases r with
 | cons r1 r2=>
  cases r2 with
  | cons r3 r4=>cases r4;exact⟨_,_,rfl,r1,r3⟩
def oH (K:W.Frag)(x:V)(H:Hp)(n:Nat):Prop:=
 match x with
 | .str y=>y.length<=sizeLine/\n=y.length
 | .byt y=>y.size<=sizeLine/\n=y.size
 | .ref p=>(∃xs,SqL K H p xs/\n=xs.length)\/∃xs,SqT K H p xs/\n=xs.length
 | _=>False
inductive Qe (K:W.Frag)(xs:List V)(H:Hp)(Q:VK):Prop
 | mk (x:_) (n:_) (c0:xs=[x]) (c1:oH K x H n) (c2:Q (.int n) H):Qe K xs H Q
def Bp:Cp X (.builtin "len") (Qe X.K):=by
 intro aa s σ H xs us Q I r h;obtain⟨x,n,rfl,e,q⟩:=h;obtain⟨u,rfl,rx⟩:=CB r;have hl:=K8;have hs:sizeLine=16777216:=AK;cases x with
 | str y=>obtain⟨t,rfl⟩:=rx;obtain⟨hy,e'⟩:y.length<=sizeLine/\n=y.length:=e;subst e';exact len_str (by lia) ⟨.int _,H,I.tok _,⟨_,rfl⟩,q⟩
 | byt y=>obtain⟨t,rfl⟩:=rx;obtain⟨hy,e'⟩:y.size<=sizeLine/\n=y.size:=e;subst e';exact PySem.W.len_bytes (by lia) ⟨.int _,H,I.tok _,⟨_,rfl⟩,q⟩
 | ref p=>
  cases rx;have e':(∃xs,SqL X.K H p xs/\n=xs.length)\/∃xs,SqT X.K H p xs/\n=xs.length:=e;rcases e' with⟨xs,hx,e'⟩ | ⟨xs,hx,e'⟩
  ·subst e';obtain⟨its,r',pl,hz⟩:=I.list hx;have hlen:=r'.length;exact Calls.call_len_list pl.isList (by simp only[BB];lia) ⟨.int xs.length,H,I.tok _,⟨_,by simp only[BB];rw[hlen]⟩,q⟩
  subst e';obtain⟨its,r',pl,hz⟩:=I.tuple hx;have hlen:=r'.length;exact len_tuple pl (by simp only[BB];lia) ⟨.int xs.length,H,I.tok _,⟨_,by simp only[BB];rw[hlen]⟩,q⟩
 | _=>exact(show False from e).elim
end
structure ObjM (h:Heap)(x dx C:Addr)(mA:Str->Option Value):Prop where
 obj:h.get? x=some (PySem.W.instObj C dx)
 ns:h.Ns1 dx mA
 ne:dx≠x
def gY {h:Heap}{dx:Addr}{mA:Str->Option Value}(n:h.Ns1 dx mA):∃od,h.get? dx=some od/\∀name,PySem.W.lookIn name od=some (mA name):=by
 obtain⟨o,es,ep,ho,hd,hk,_,hm⟩:=n;refine⟨o,ho,λname=>?_⟩;have e:=hm name;unfold nsFind findBy at e;rw[<- Array.find?_toList]at e;unfold PySem.W.lookIn;rw[hd];dsimp only;split
 ·rename_i y q;rw[q]at e;exact BJ some e
 rename_i q;rw[q]at e;have a:es.toList.any (·.refKey)=false:=by rw[any_eq_false];intro y hy;obtain⟨z,t,hkey⟩:=hk y (Array.mem_toList_iff.mp hy);simp[DictEntry.refKey,hkey]
 have a':¬es.toList.any (·.refKey)=true:=by rw[a];exact BE
 rw[Am a'];exact BJ some e
def ObjM.look (I:ObjM h x dx C mA):∃od,PySem.W.InstAt h x (PySem.W.instObj C dx) C (some od)/\∀name,PySem.W.lookIn name od=some (mA name):=
 let ⟨od,ho,hl⟩:=gY I.ns
 ⟨od,⟨I.obj,rfl,rfl,ho⟩,hl⟩
section
variable {prog:Program}{w:World}{A:Around}{E:Value->Shared->Prop}{s:Shared}{K:W.Frag}{x dx C f:Addr}{mA:Str->Option Value}{name:Str}{v:Value}
def kN (X:K.In s.heap)(I:ObjM s.heap x dx C mA)(hg:PySem.W.plainGet K C name=true)(hh:PySem.W.hasDictIn K C=true)
  (ha:PySem.W.findIn K (.ref C) name=some none)(hv:mA name=some v)(hv':PySem.W.handedIn v=true)(h:Q v { s with toks:=s.toks+1 }) :
  wpAny (model prog w) A (getAttr (.ref x) name expr) Q E s:=by
 obtain⟨od,J,hl⟩:=I.look
 exact PySem.W.get_value X J (RI hg).1 (PySem.W.findObj_own hh ha rfl (by rw[hl,hv])) hv' h
def kM (X:K.In s.heap)(I:ObjM s.heap x dx C mA)(hg:PySem.W.plainGet K C name=true)
  (hf:PySem.W.findIn K (.ref C) name=some (some (.ref f)))(ht:PySem.W.isFn K (.ref f)=true)(hv:mA name=none)(h:Q (.ref f,[.ref x]) s) :
  wpAny (model prog w) A (getMethod (.ref x) name pl) Q E s:=by
 obtain⟨od,J,hl⟩:=I.look
 exact PySem.W.method_fn X J (RI hg).1 (RI hg).2 hf (GY.mp ht) (by show(PySem.W.lookIn name od).map (·.isSome)=some false;rw[hl,hv];rfl) h
def XE (X:K.In s.heap)(I:ObjM s.heap x dx C mA)
  (hs:PySem.W.findIn K (.ref C) "__setattr__" = some (some (.builtin "object.__setattr__")))(hp:PySem.W.plainOver K C=true)(ht:PySem.W.takerIn K C name=some none)(hh:PySem.W.hasDictIn K C=true)
  (hw:PySem.Within mA ns)(hsz:ns.length<=sizeLine)
  (h:∀h',ObjM h' x dx C (λy=>if y=name then some v else mA y)->Heap.SameBut dx s.heap h'->Q () { s with heap:=h',toks:=s.toks+2 }) :
  wpAny (model prog w) A (setAttr (.ref x) name v) Q E s:=by
 obtain⟨od,J,hl⟩:=I.look
 refine PySem.W.set_plain X J hs (PySem.W.osa_open (s:={ s with toks:=s.toks+1 }) (r:=none) X J hp ht λb=>?_)
 obtain⟨cd,hc,hd'⟩:=PySem.W.any_some hh
 have hx:s.heap.get? x=some ⟨.ref C,some dx,.plain,#[]⟩:=I.obj
 refine Ae (An (Ae (Ae (wpAny_loadPart hx (Ae (PySem.W.Looks.here (s:={ s with toks:=s.toks+1 }) (PySem.W.looks_clsIn X hc) ?_))))))
 rw[hd']
 refine An (a:=some dx) (Ae (An (Ae ?_)))
 refine wpAny_nsSet1 (s:={ s with toks:=s.toks+1 }) I.ns λh' hn2 hs2=>?_
 obtain⟨oD,esD,epD,hoD,hdD,hcD⟩:=hn2.count (PySem.Within.cons name v hw)
 refine Ae (wpAny_lookBehind hoD (by rw[hdD];exact pastItsLine_dict (Eb hcD (by rw[CS];lia))) ?_)
 exact An (h _ ⟨(hs2.2 _ (Ea I.ne)).trans I.obj,hn2,I.ne⟩ hs2)
def gW (X:K.In s.heap)(hm:PySem.W.makesIn K C=true)
  (hi:PySem.W.findIn K (.ref C) "__init__" = some (some (.ref f)))(hf:PySem.W.typeIn K (.ref f)=some (.type "function"))
  (h:codeAny (model prog w) (A.under (.builtin "type.__call__" ⟨.ref C::vs,kw⟩)) (.call (.ref f) ⟨.ref (s.heap.objs.size+1)::vs,kw⟩) (PySem.W.InitBack (s.heap.objs.size+1) R) { s with heap:=(s.heap.push PySem.W.emptyDict).push (PySem.W.instObj C s.heap.objs.size) }) :
  codeAny (model prog w) A (.call (.ref C) ⟨vs,kw⟩) R s:=by
 obtain⟨hh,g,d,t,os⟩:=s
 exact PySem.W.make_core (PySem.W.makes_of X hm) (PySem.W.looks_findIn X hi) (λself=>PySem.W.bind_fn X self hf) (.inl rfl) h
end
def putF (f:Str)(v:V):List (Str×V)->List (Str×V)
 | []=>[(f,v)]
 | (g,x)::r=>if g=f then(g,v)::r else(g,x)::putF f v r
theorem Cd (f g:Str)(v:V):∀fs:List (Str×V),(putF f v fs).lookup g=if g=f then some v else fs.lookup g
 | []=>by
  show List.lookup g [(f,v)]=_;by_cases h:g=f
  ·have hb:(g == f)=true:=GY.mpr h;simp only[List.lookup,hb,As h]
  have hb:(g == f)=false:=GH.mpr h;simp only[List.lookup,hb,Am h]
 | (k,x)::r=>by
  have ih:=Cd f g v r;rw[show putF f v ((k,x)::r)=(if k=f then(k,v)::r else(k,x)::putF f v r) from rfl];by_cases hk:k=f
  ·rw[As hk];by_cases h:g=k
   ·have hb:(g == k)=true:=GY.mpr h;simp only[List.lookup,hb,As (h.trans hk)]
   have hb:(g == k)=false:=GH.mpr h;simp only[List.lookup,hb,Am (λe:g=f=>h (e.trans hk.symm))]
  rw[Am hk];by_cases h:g=k
  ·have hb:(g == k)=true:=GY.mpr h;simp only[List.lookup,hb,Am (λe:g=f=>hk (h.symm.trans e))]
  have hb:(g == k)=false:=GH.mpr h;simp only[List.lookup,hb];exact ih
theorem QH (f:Str)(v:V):∀fs:List (Str×V),f∈(putF f v fs).map (·.1)/\∀g,g∈fs.map (·.1)->g∈(putF f v fs).map (·.1)
 | []=>⟨by simp[putF],λg h=>by simp at h⟩
 | (k,x)::r=>by
  obtain⟨i1,i2⟩:=QH f v r;rw[show putF f v ((k,x)::r)=(if k=f then(k,v)::r else(k,x)::putF f v r) from rfl];by_cases hk:k=f
  ·rw[As hk];subst hk;exact⟨by simp,λg h=>by simpa using h⟩
  rw[Am hk];refine⟨?_,λg h=>?_⟩
  ·rw[A9];exact A6 _ i1
  rw[A9]at h ⊢;rcases(AL.mp h)with e | e
  ·exact AL.mpr (.inl e)
  exact A6 _ (i2 g e)
theorem Uq (f:Str)(v:V):∀fs:List (Str×V),(putF f v fs).length<=fs.length+1
 | []=>by simp[putF]
 | (k,x)::r=>by
  have ih:=Uq f v r;rw[show putF f v ((k,x)::r)=(if k=f then(k,v)::r else(k,x)::putF f v r) from rfl];by_cases hk:k=f
  ·rw[As hk,CS,CS];lia
  rw[Am hk,CS,CS];lia
def RelO.some_of (r:RelO (some v) o):∃u,o=some u/\RelV v u:=by
 cases o with
 | none=>exact(show False from r).elim
 | some u=>exact⟨u,rfl,r⟩
def RelO.none_of (r:RelO none o):o=none:=by
 cases o with
 | none=>rfl
 | some u=>exact(show False from r).elim
def kG (r:RelV v u):PySem.W.handedIn u=true:=by
 cases v with
 | non=>cases (show u=Value.none from r);rfl
 | bl b=>cases (show u=Value.bool b from r);rfl
 | int i=>obtain⟨t,e⟩:=(show ∃t,u=Value.int i t from r);cases e;rfl
 | str x=>obtain⟨t,e⟩:=(show ∃t,u=Value.str x t from r);cases e;rfl
 | byt b=>obtain⟨t,e⟩:=(show ∃t,u=Value.bytes b t from r);cases e;rfl
 | flt b=>obtain⟨t,e⟩:=(show ∃t,u=Value.float b t from r);cases e;rfl
 | ref a=>cases (show u=Value.ref a from r);rfl
 | ty n=>cases (show u=Value.type n from r);rfl
section
variable {P:Program}{w:World}{H H':Hp}{h h':Heap}{a C dx:Addr}{fs fs':List (Str×V)}
def Lg (hok:HOk P w H h)(e:H a=some (.ins C dx fs)):∃mA,ObjM h a dx C mA/\(∀f,RelO (fs.lookup f) (mA f))/\PySem.Within mA (fs.map (·.1))/\fs.length<=1000/\H dx=some (.own a):=by obtain⟨d,z,ne,ob,mA,n,r,q⟩:=(show ObjOk P w H h a (.ins C dx fs) from hok a _ e);exact⟨mA,⟨ob,n,ne⟩,r,q,z,d⟩
end
structure Cls (K:W.Frag)(C:Addr):Prop where
 pg:PySem.W.plainGet K C Str.empty=true
 hd:PySem.W.hasDictIn K C=true
 po:PySem.W.plainOver K C=true
 sa:PySem.W.findIn K (.ref C) "__setattr__" = some (some (.builtin "object.__setattr__"))
def Cls.get {K:W.Frag}{C:Addr}(c:Cls K C)(f:Str):PySem.W.plainGet K C f=true:=c.pg
def NoAttr (K:W.Frag)(C:Addr)(f:Str):Prop:=PySem.W.findIn K (.ref C) f=some none
def NoAttr.taker {K:W.Frag}{C:Addr}{f:Str}(n:NoAttr K C f):PySem.W.takerIn K C f=some none:=by unfold PySem.W.takerIn;rw[show PySem.W.findIn K (.ref C) f=some none from n];rfl
structure Dr (K:W.Frag)(C:Addr)(m:Str)(f:Addr):Prop where
 at_:PySem.W.findIn K (.ref C) m=some (some (.ref f))
 fn:PySem.W.isFn K (.ref f)=true
 kp:PySem.W.keepIn K (.ref f)=true
section
variable {X:Cx}{aa:List (Addr×Obj)}{σ:St}{H:Hp}{s:Shared}{a C dx:Addr}{fs:List (Str×V)}{f:Str}{v:V}{A:Around}{E:Value->Shared->Prop}
def kL (I:Inv X aa σ H s)(e:H a=some (.ins C dx fs))(c:Cls X.K C)(n:NoAttr X.K C f)(l:fs.lookup f=some v)
  (h:∀u s',Inv X aa σ H s'->RelV v u->Q u s'):wpAny (model X.prog X.w) A (getAttr (.ref a) f b) Q E s:=by
 obtain⟨mA,O,r,_,_,_⟩:=Lg I.hok e
 obtain⟨u,hu,ru⟩:=RelO.some_of (v:=v) (o:=mA f) (by rw[<- l];exact r f)
 exact kN I.kIn O (c.get f) c.hd n hu (kG ru) (h u _ (I.tok _) ru)
def UT (I:Inv X aa σ H s)(e:H a=some (.ins C dx fs))(c:Cls X.K C)(k:Dr X.K C m g)(l:fs.lookup m=none)
  (h:Q (.ref g,[.ref a]) s):wpAny (model X.prog X.w) A (getMethod (.ref a) m pl) Q E s:=by
 obtain⟨mA,O,r,_,_,_⟩:=Lg I.hok e
 have hn:mA m=none:=RelO.none_of (by rw[<- l];exact r m)
 exact kM I.kIn O (c.get m) k.at_ k.fn hn h
def XD (I:Inv X aa σ H s)(e:H a=some (.ins C dx fs))(c:Cls X.K C)(n:NoAttr X.K C f)(hl:fs.length<1000)(ry:RelV y u)
  (h:∀s',Inv X aa σ (Ab H a (.ins C dx (putF f y fs))) s'->Q () s'):wpAny (model X.prog X.w) A (setAttr (.ref a) f u) Q E s:=by
 obtain⟨mA,O,r,wi,_,ho⟩:=Lg I.hok e
 have hz:(fs.map (·.1)).length<=sizeLine:=by rw[Ak,AK];lia
 refine XE I.kIn O c.sa c.po n.taker c.hd wi hz λh' O' sb=>h _ ?_
 have hd:∃o,h'.get? dx=some o:=let ⟨o,_,_,e',_⟩:=O'.ns;⟨o,e'⟩
 refine I.write (x:=a) (e:=dx) (by rw[e];exact GV) (.inr ho) (λb q hb z=>(sb.2 b hb).trans z) hd ?_
 refine⟨by rw[Ai O.ne];exact ho,?_,O.ne,O'.obj,_,O'.ns,λg=>?_,λg hg=>?_⟩
 ·have:=Uq f y fs;lia
 ·show RelO ((putF f y fs).lookup g) (if g=f then some u else mA g);rw[Cd];by_cases q:g=f
  ·rw[As q,As q];exact ry
  rw[Am q,Am q];exact r g
 by_cases q:g=f
 ·rw[q];exact(QH f y fs).1
 refine(QH f y fs).2 g (wi g λz=>hg ?_)
 show(if g=f then some u else mA g)=none
 rw[Am q];exact z
def Inv.made (I:Inv X aa σ H s):Inv X aa σ (Ab (Ab H s.heap.objs.size (.own (s.heap.objs.size+1))) (s.heap.objs.size+1) (.ins C s.heap.objs.size []))
  { s with heap:=(s.heap.push PySem.W.emptyDict).push (PySem.W.instObj C s.heap.objs.size) }:=by
 have e1:(s.heap.push PySem.W.emptyDict).get? s.heap.objs.size=some PySem.W.emptyDict:=Bg s.heap rfl
 have e2:((s.heap.push PySem.W.emptyDict).push (PySem.W.instObj C s.heap.objs.size)).get? (s.heap.objs.size+1)=some (PySem.W.instObj C s.heap.objs.size):=by have:=Bg (s.heap.push PySem.W.emptyDict) (o:=PySem.W.instObj C s.heap.objs.size) rfl;rwa [G7]at this
 have e3:(s.heap.push PySem.W.emptyDict).Ns s.heap.objs.size (λ_=>none):=⟨PySem.W.emptyDict,#[],_,e1,rfl,(λe he=>absurd he (by simp)),λ_=>rfl⟩
 have I1:=I.laid (a:=s.heap.objs.size) (o:=.own (s.heap.objs.size+1)) (h':=s.heap.push PySem.W.emptyDict) (t':=s.toks) (λb u q=>AU _ q) (Au _) ⟨_,e1⟩
 refine I1.laid (a:=s.heap.objs.size+1) (o:=.ins C s.heap.objs.size []) (t':=s.toks) (λb u q=>AU _ q) (le_of_eq (G7 _ _)) ?_
 have ne:s.heap.objs.size≠s.heap.objs.size+1:=Be (G3 _)
 refine⟨by rw[Ai ne,Ag],A5 _,ne,e2,λ_=>none,(Heap.Ns1.of_empty e3).at λo q=>AU _ q,λ_=>GV,λy hy=>absurd rfl hy⟩
def nQ (hb:attributeBase e f env (eval e env)=eval e env)
  (h:wpAny (model prog w) A (eval e env) (λo s₁=>wpAny (model prog w) A (getAttr o f true) Q E s₁) E s):wpAny (model prog w) A (eval (.Attribute e f pos) env) Q E s:=
 Attribute_any_ h (by rw[arm_eval_Attribute,hb])
end
inductive UO (K:W.Frag)(f:Str)(Q:VK)(x:V)(H1:Hp):Prop
 | mk (a:_) (C:_) (dx:_) (fs:_) (v:_) (c0:x=.ref a) (c1:H1 a=some (.ins C dx fs)) (c2:Cls K C) (c3:NoAttr K C f) (c4:fs.lookup f=some v) (c5:Q v H1):UO K f Q x H1
def W1 (K:W.Frag)(ta:TE)(f:Str):TE:=λσ H Q=>ta σ H λx H1=>UO K f Q x H1
def Yl (K:W.Frag)(ta tv:TE)(f:Str):TS:=λD σ H=>tv σ H λy H1=>ta σ H1 λx H2=>∃a C dx fs,x=.ref a/\H2 a=some (.ins C dx fs)/\Cls K C/\NoAttr K C f/\fs.length<1000 /\
 D.nx σ (Ab H2 a (.ins C dx (putF f y fs)))
section
variable {X:Cx}{o e value:Expr}{f:Str}{pos pos' tpos:Pos}{ta tv:TE}
def FQ (he:PE X e ta)(hb:attributeBase e f X.env (eval e X.env)=eval e X.env):PE X (.Attribute e f pos) (W1 X.K ta f):=by intro aa s σ H Q I h;refine nQ hb (Aw (he aa s σ H _ I h) λu s1 hp0=>?_);obtain⟨x,H1,I1,rx,a,C,dx,fs,v,ex,ea,c,n,l,q⟩:=hp0;subst ex;obtain rfl:u=Value.ref a:=rx;exact kL I1 ea c n l λu' s2 I2 ru=>⟨v,H1,I2,ru,q⟩
def EW (ha:PE X o ta)(hv:PE X value tv)(hs:swapsWith value (some (.Attribute o f pos')) pos.line X.env=pure false):PS X (.Assign [.Attribute o f pos'] value pos) (Yl X.K ta tv f):=by intro aa s σ H D I h;refine plainObj_wpAny_Assign_Attribute (Aw (hv aa s σ H _ I h) λu s1 hp0=>?_) hs;obtain⟨y,H1,I1,ry,q⟩:=hp0;refine Aw (ha aa s1 σ H1 _ I1 q) λov s2 hp1=>?_;obtain⟨x,H2,I2,rx,a,C,dx,fs,ex,ea,c,n,l,q2⟩:=hp1;subst ex;obtain rfl:ov=Value.ref a:=rx;exact XD I2 ea c n l ry λs3 I3=>⟨σ,_,I3,q2⟩
end
structure Room (k:Nat)(A:Around):Prop where
 hd:A.handled=none
 dp:A.depth+3*k+5<recursionLimit
 un:A.units+16*k+200<cLine
def Room.mono {k:Nat} (r:Room k A)(h:j<=k):Room j A:=⟨r.hd,by have:=r.dp;lia,by have:=r.un;lia⟩
def Room.deeper {k:Nat} (r:Room (k+1) A)(env:Env):Room k (A.deeper env):=
 ⟨r.hd,by have:=r.dp;show A.depth+1+3*k+5<_;lia,by have:=r.un;show A.units+3+16*k+200<_;lia⟩
def gX {A:Around}{C:Addr}{us:List Value}{kw:List (Str×Value)}:(A.under (.builtin "type.__call__" ⟨.ref C::us,kw⟩)).depth=A.depth+1:=by first | rfl | simp[Around.under,Code.weight,Code.isCreation,Code.isGuard,Code.isCaller,Code.frames,Code.isFrame,guardIds]
def gV {A:Around}{C:Addr}{us:List Value}{kw:List (Str×Value)}:(A.under (.builtin "type.__call__" ⟨.ref C::us,kw⟩)).units=A.units+1:=by first | rfl | simp[Around.under,Code.cUnits,Code.frames,Code.isFrame]
def Room.make {k:Nat} (r:Room (k+1) A)(C:Addr)(us:List Value)(kw:List (Str×Value)):Room k (A.under (.builtin "type.__call__" ⟨.ref C::us,kw⟩)):=
 ⟨r.hd,by have:=r.dp;rw[gX];lia,by have:=r.un;rw[gV];lia⟩
def Room.depth {k:Nat} (r:Room k A):A.depth<recursionLimit:=by have:=r.dp;lia
def Room.units {k:Nat} (r:Room k A):A.units+64<cLine:=by have:=r.un;lia
def SJ:TA:=λ_ H Q=>Q [] H
def Xb (ta:TE)(tr:TA):TA:=λσ H Q=>ta σ H λx H1=>tr σ H1 λxs H2=>Q (x::xs) H2
section
variable {X:Cx}{e:Expr}{es:List Expr}{te:TE}{t:TA}{pos:Pos}
def Ac:PA X [] SJ:=λ_ _ _ _ H Q I h=>LJ ⟨[],H,I,.nil,h⟩
def Aa (ha:PE X e te)(hr:PA X es t)(hs:starEach (e::es) X.env=(false,eval e X.env)::starEach es X.env:=by rfl):PA X (e::es) (Xb te t):=by intro pos aa s σ H Q I h;rw[hs];show wpAny _ _ (spliced ((false,eval e X.env)::backTo pos (starEach es X.env))) _ _ s;refine JS (Aw (ha aa s σ H _ I h) λu s1 hp0=>?_);obtain⟨x,H1,I1,r1,q1⟩:=hp0;exact Aw (hr pos aa s1 σ H1 _ I1 q1) λus s2 hp0=>by obtain⟨xs,H2,I2,r2,q2⟩:=hp0;exact⟨x::xs,H2,I2,.cons r1 r2,q2⟩
def WG (t:TA):TE:=λσ H Q=>t σ H λxs H1=>xs.length<=sizeLine/\∀p,H1 p=none->Q (.ref p) (Ab H1 p (.tup xs))
def WS (t:TA):TE:=λσ H Q=>t σ H λxs H1=>xs.length<=sizeLine/\∀p,H1 p=none->Q (.ref p) (Ab H1 p (.lst xs))
def BQ {x1}(h:PA X es t):PE X (.Tuple es x1 pos) (WG t):=by intro aa s σ H Q I hq;refine wpAny_Tuple_spliced (Aw (h pos aa s σ H _ I hq) λus s1 hp0=>?_);obtain⟨xs,H1,I1,r,z,q⟩:=hp0;refine⟨by rw[<- r.length];exact z,?_⟩;have hf:H1 s1.heap.objs.size=none:=I1.hok.fresh (Au _);refine⟨.ref s1.heap.objs.size,Ab H1 s1.heap.objs.size (.tup xs),I1.laid (t':=s1.toks) (λb u e=>AU _ e) (Au _) ?_,rfl,q _ hf⟩;exact⟨z,us,r,⟨_,Bg _ rfl,rfl,_,rfl⟩⟩
def Bk (h:PA X es t):PE X (.List es pos) (WS t):=by intro aa s σ H Q I hq;refine wpAny_List_spliced (Aw (h pos aa s σ H _ I hq) λus s1 hp0=>?_);obtain⟨xs,H1,I1,r,z,q⟩:=hp0;refine⟨by rw[<- r.length];exact z,?_⟩;have hf:H1 s1.heap.objs.size=none:=I1.hok.fresh (Au _);refine⟨.ref s1.heap.objs.size,Ab H1 s1.heap.objs.size (.lst xs),I1.laid (t':=s1.toks) (λb u e=>AU _ e) (Au _) ?_,rfl,q _ hf⟩;exact⟨z,us,0,r,Bg _ rfl⟩
end
abbrev Sp:=List V->Hp->VK->XK->Prop
abbrev Et:=List Env->Hp->Shared->XK->Value->Shared->Prop
structure Env0 (P:Program)(w:World)(K:W.Frag)(mg:Str->Option Value)(base:Heap)(A:Around)(outer:List Env)(s:Shared)(H:Hp):Prop where
 frames:A.frames=some outer
 mod:Mod K mg base
 bs:∀b o,base.get? b=some o->s.heap.get? b=some o/\H b=none
 bsz:base.objs.size<=s.heap.objs.size
 funs:s.heap.FunFrames base outer
 frf:∀b∈E5 outer,H b=none
 hok:HOk P w H s.heap
 bare:AllBare s.gens
def CE (outer:List Env)(P:Program)(w:World)(H:Hp)(s:Shared)(Q:VK)(u:Value)(s':Shared):Prop:=
 ∃v H',s'.os=s.os/\AllBare s'.gens/\Un (E5 outer) [] H H' s.heap s'.heap/\HOk P w H' s'.heap/\RelV v u/\Q v H'
def CR (CX:Et)(outer:List Env)(P:Program)(w:World)(H:Hp)(s:Shared)(Q:VK)(E:XK)(r:Result)(s':Shared):Prop:=
 match r with
 | .ok (.ret u)=>CE outer P w H s Q u s'
 | .ok _=>False
 | .error e=>CX outer H s E e s'
structure FnOk (P:Program)(w:World)(K:W.Frag)(mg:Str->Option Value)(base:Heap)(CX:Et)(k:Nat)(f:Addr)(fd:FuncData)(ps:List Str)(sp:Sp):Prop where
 len:∀vs H Q E,sp vs H Q E->vs.length=ps.length
 run:∀(A:Around) (outer:List Env) (s:Shared) (H:Hp) (args:Args) (us:List Value) (vs:List V) (Q:VK) (E:XK),Room k A->Env0 P w K mg base A outer s H->BindsTo s fd args (ps.zip us)->Vals vs us->sp vs H Q E ->
  codeAny (model P w) A (.call (.ref f) args) (CR CX outer P w H s Q E) s
def FnOk.imp {P:Program}{w:World}{K:W.Frag}{mg:Str->Option Value}{base:Heap}{CX:Et}{k:Nat}{f:Addr}{fd:FuncData}{ps:List Str}{sp sp':Sp}(F:FnOk P w K mg base CX k f fd ps sp)
  (h:∀vs H Q E,sp' vs H Q E->sp vs H Q E):FnOk P w K mg base CX k f fd ps sp':=
 ⟨λvs H Q E q=>F.len vs H Q E (h _ _ _ _ q),λA outer s H args us vs Q E hr he hb hv hs=>F.run A outer s H args us vs Q E hr he hb hv (h _ _ _ _ hs)⟩
def Env0.make {P:Program}{w:World}{K:W.Frag}{mg:Str->Option Value}{base:Heap}{A:Around}{outer:List Env}{s:Shared}{H:Hp}(e:Env0 P w K mg base A outer s H)(C:Addr)(us:List Value)(kw:List (Str×Value)) :
  Env0 P w K mg base (A.under (.builtin "type.__call__" ⟨.ref C::us,kw⟩)) outer s H:=⟨by first | exact e.frames | (simpa [Around.under,Code.envs,Code.isFrame,pushEnvs] using e.frames),e.mod,e.bs,e.bsz,e.funs,e.frf,e.hok,e.bare⟩
section
variable {X:Cx}{aa:List (Addr×Obj)}{σ:St}{H:Hp}{s s':Shared}
def Inv.env0 (I:Inv X aa σ H s):Env0 X.prog X.w X.K X.mg X.base X.A X.stack s H:=
 ⟨I.ok.frames,I.ok.mod,I.bs,Eb I.ok.bsz I.sz,I.stack,I.stkFree,I.hok,I.bare⟩
def Inv.after (I:Inv X aa σ H s)(h:CE X.stack X.prog X.w H s Q u s'):EP X aa σ Q u s':=by obtain⟨v,H',os,bare,un,hok,r,q⟩:=h;obtain⟨hh,g,d,t,os'⟩:=s';obtain rfl:os'=s.os:=os;exact⟨v,H',I.call (h':=hh) (g':=g) (d':=d) (t':=t) (ch:=[]) un hok bare (λb z=>absurd z (by simp)),r,q⟩
end
def SN (sp:Sp)(dvs:List V)(E:XK)(t:TA):TE:=λσ H Q=>t σ H λvs H1=>sp (vs++dvs) H1 Q E
inductive UH (C:Addr)(m:Str)(x:V)(H1:Hp)(R:Prop):Prop
 | mk (a:_) (dx:_) (fs:_) (c0:x=.ref a) (c1:H1 a=some (.ins C dx fs)) (c2:fs.lookup m=none) (c3:R):UH C m x H1 R
def SL (C:Addr)(m:Str)(sp:Sp)(dvs:List V)(E:XK)(ta:TE)(t:TA):TE:=λσ H Q=>ta σ H λx H1=>UH C m x H1 (t σ H1 λvs H2=>sp (x::(vs++dvs)) H2 Q E)
def WR (C:Addr)(sp:Sp)(dvs:List V)(E:XK)(t:TA):TE:=λσ H Q=>t σ H λvs H1=>∀x dx,H1 x=none->H1 dx=none->dx≠x ->
 sp (.ref x::(vs++dvs)) (Ab (Ab H1 dx (.own x)) x (.ins C dx [])) (λv H2=>v=.non/\Q (.ref x) H2) E
def Binds (K:W.Frag)(fd:FuncData)(ps:List Str)(ds:List Value):Prop:=
 ∀(s:Shared) (us:List Value),K.In s.heap->(us++ds).length=ps.length->BindsTo s fd ⟨us,[]⟩ (ps.zip (us++ds))
def Binds.all {K:W.Frag}{fd:FuncData}{ps:List Str}(h:∀us:List Value,us.length=ps.length->bindArgs fd ⟨us,[]⟩=pure (ps.zip us)):Binds K fd ps []:=λs us _ hl=>by rw[Cm]at hl ⊢;exact .of_eq (h us hl)
def Hd (CX:Et)(X:Cx)(E:XK):Prop:=∀(aa:List (Addr×Obj)) (σ:St) (H:Hp) (s:Shared) (e:Value) (s':Shared),Inv X aa σ H s->CX X.stack H s E e s'->X.xe e s'
section
variable {X:Cx}{CX:Et}{k:Nat}{f C:Addr}{fd:FuncData}{ps:List Str}{sp:Sp}{dvs:List V}{ds:List Value}{E:XK}{x m:Str}{p pos apos:Pos}{e o:Expr}{es:List Expr}{ta:TE}{t:TA}
def P7 (F:FnOk X.prog X.w X.K X.mg X.base CX k f fd ps sp)(hr:Room k X.A)(hb:Binds X.K fd ps ds)(hd:Vals dvs ds)(hx:Hd CX X E)
  (I:Inv X aa σ H s)(r:Vals vs us)(h:sp (vs++dvs) H Q E):wpAny (model X.prog X.w) X.A (call (.ref f) us) (EP X aa σ Q) X.xe s:=by
 have r2:Vals (vs++dvs) (us++ds):=r.append hd
 have hl:(us++ds).length=ps.length:=by rw[<- r2.length];exact F.len _ _ _ _ h
 refine wpAny_call (G2 (F.run X.A X.stack s H ⟨us,[]⟩ (us++ds) (vs++dvs) Q E hr I.env0 (hb s us I.kIn hl) r2 h) λr s' hq=>?_)
 cases r with
 | error e=>exact hx aa σ H s e s' I hq
 | ok fl=>
  cases fl with
  | ret u=>exact I.after hq
  | next=>exact False.elim hq
  | brk=>exact False.elim hq
  | cont=>exact False.elim hq
def AW (F:FnOk X.prog X.w X.K X.mg X.base CX k f fd ps sp)(hr:Room k X.A)(hg:Gl X x)(hm:X.mg x=some (.ref f))(hk:PySem.W.keepIn X.K (.ref f)=true)(hb:Binds X.K fd ps ds)(hd:Vals dvs ds)(hx:Hd CX X E)
  (ha:PA X (e::es) t)(hdb:(x == ("__debug__" : Str))=false:=by decide)(he:starEach (e::es) X.env=(false,eval e X.env)::starEach es X.env:=by rfl)(hpl:(backTo pos (starEach es X.env)).any (·.1)=false:=by rfl) :
  PE X (.Call (.Name x p) (e::es) [] pos) (SN sp dvs E t):=by
 intro aa s σ H Q I h
 refine LL (QG I hg hm ?_ hdb)
 refine RE (h₀:=X.base) I.ok.mod.kin hk (Aw (ha pos aa s σ H _ I h) λus s1 hp0=>?_) he hpl
 obtain⟨vs,H1,I1,r,q⟩:=hp0
 refine⟨I1.kIn,?_⟩
 exact P7 F hr hb hd hx I1 r q
def Nf (he:PE X o ta)(c:Cls X.K C)(hm:Dr X.K C m f)(F:FnOk X.prog X.w X.K X.mg X.base CX k f fd ps sp)(hr:Room k X.A)(hb:Binds X.K fd ps ds)(hd:Vals dvs ds)(hx:Hd CX X E)(ha:PA X (e::es) t)
  (hst:starEach (e::es) X.env=(false,eval e X.env)::starEach es X.env:=by rfl)(hpl:(backTo pos (starEach es X.env)).any (·.1)=false:=by rfl)
  (ht:eval (.Call (.Attribute o m apos) (e::es) [] pos) X.env=(do
   let ov <- eval o X.env;standAt apos.atName;let (f,first) <- holding [ov] (getMethod ov m pl);callWith pos f first (backTo pos (starEach (e::es) X.env)) (backToKw pos (keywordEach [] X.env))):=by rfl) :
  PE X (.Call (.Attribute o m apos) (e::es) [] pos) (SL C m sp dvs E ta t):=by
 intro aa s σ H Q I h
 refine PySem.W.methodCall_KW (pl:=pl) (Aw (he aa s σ H _ I h) λu s1 hp0=>?_) ht
 obtain⟨x,H1,I1,rx,a,dx,fs,ex,ea,l,q⟩:=hp0
 subst ex
 obtain rfl:u=Value.ref a:=rx
 refine UT I1 ea c hm l ?_
 refine RE (first:=[.ref a]) (h₀:=X.base) I.ok.mod.kin hm.kp (Aw (ha pos aa s1 σ H1 _ I1 q) λus s2 hp0=>?_) hst hpl
 obtain⟨vs,H2,I2,r,q2⟩:=hp0
 refine⟨I2.kIn,?_⟩
 exact P7 (us:=.ref a::us) (vs:=.ref a::vs) F hr hb hd hx I2 (.cons rfl r) q2
def Gw (he:PE X o ta)(c:Cls X.K C)(hm:Dr X.K C m f)(F:FnOk X.prog X.w X.K X.mg X.base CX k f fd ps sp)(hr:Room k X.A)(hb:Binds X.K fd ps ds)(hd:Vals dvs ds)(hx:Hd CX X E)
  (ht:eval (.Call (.Attribute o m apos) [] [] pos) X.env=(do
   let ov <- eval o X.env;standAt apos.atName;let (f,first) <- holding [ov] (getMethod ov m pl);callWith pos f first (backTo pos (starEach [] X.env)) (backToKw pos (keywordEach [] X.env))):=by rfl) :
  PE X (.Call (.Attribute o m apos) [] [] pos) (SL C m sp dvs E ta SJ):=by
 intro aa s σ H Q I h
 refine PySem.W.methodCall_KW (pl:=pl) (Aw (he aa s σ H _ I h) λu s1 hp0=>?_) ht
 obtain⟨x,H1,I1,rx,a,dx,fs,ex,ea,l,q⟩:=hp0
 subst ex
 obtain rfl:u=Value.ref a:=rx
 refine UT I1 ea c hm l ?_
 exact PySem.W.callWith_K0 (first:=[.ref a]) I1.kIn hm.kp (P7 (us:=[.ref a]) (vs:=[.ref a]) F hr hb hd hx I1 (.cons rfl .nil) q)
structure Mk (K:W.Frag)(C f:Addr):Prop where
 makes:PySem.W.makesIn K C=true
 init:PySem.W.findIn K (.ref C) "__init__" = some (some (.ref f))
 fn:PySem.W.isFn K (.ref f)=true
 kp:PySem.W.keepIn K (.ref C)=true
def Yo (M:Mk X.K C f)(F:FnOk X.prog X.w X.K X.mg X.base CX k f fd ps sp)(hr:Room (k+1) X.A)(hb:Binds X.K fd ps ds)(hd:Vals dvs ds)
  (hx:Hd CX X E)(I:Inv X aa σ H s)(r:Vals vs us)
  (h:∀x dx,H x=none->H dx=none->dx≠x->sp (.ref x::(vs++dvs)) (Ab (Ab H dx (.own x)) x (.ins C dx [])) (λv H2=>v=.non/\Q (.ref x) H2) E) :
  wpAny (model X.prog X.w) X.A (call (.ref C) us) (EP X aa σ Q) X.xe s:=by
 have hq:=h (s.heap.objs.size+1) s.heap.objs.size (I.hok.fresh (Fc _)) (I.hok.fresh (Au _)) (Be (G3 _))
 have I2:=Inv.made (C:=C) I
 have r2:Vals (V.ref (s.heap.objs.size+1)::(vs++dvs)) (Value.ref (s.heap.objs.size+1)::(us++ds)):=.cons rfl (r.append hd)
 have hl:(Value.ref (s.heap.objs.size+1)::us++ds).length=ps.length:=by have e:=r2.length;rw[F.len _ _ _ _ hq]at e;exact e.symm
 refine wpAny_call (gW (f:=f) I.kIn M.makes M.init (GY.mp M.fn) (G2 (F.run _ X.stack _ _ ⟨Value.ref (s.heap.objs.size+1)::us,[]⟩ (Value.ref (s.heap.objs.size+1)::(us++ds)) _ _ E (hr.make C us []) (I2.env0.make C us []) (hb _ (Value.ref (s.heap.objs.size+1)::us) I2.kIn hl) r2 hq) λr s' hq'=>?_))
 cases r with
 | error e=>exact hx aa σ _ _ e s' I2 hq'
 | ok fl=>
  cases fl with
  | ret u=>obtain⟨v,H',I3,rv,ev,q3⟩:=I2.after hq';subst ev;exact⟨rv,⟨V.ref (s.heap.objs.size+1),H',I3,rfl,q3⟩⟩
  | next=>exact False.elim hq'
  | brk=>exact False.elim hq'
  | cont=>exact False.elim hq'
def Qo (M:Mk X.K C f)(F:FnOk X.prog X.w X.K X.mg X.base CX k f fd ps sp)(hr:Room (k+1) X.A)(hg:Gl X x)(hm:X.mg x=some (.ref C))(hb:Binds X.K fd ps ds)(hd:Vals dvs ds)(hx:Hd CX X E)
  (ha:PA X (e::es) t)(hdb:(x == ("__debug__" : Str))=false:=by decide)(he:starEach (e::es) X.env=(false,eval e X.env)::starEach es X.env:=by rfl)(hpl:(backTo pos (starEach es X.env)).any (·.1)=false:=by rfl) :
  PE X (.Call (.Name x p) (e::es) [] pos) (WR C sp dvs E t):=by
 intro aa s σ H Q I h
 refine LL (QG I hg hm ?_ hdb)
 refine RE (h₀:=X.base) I.ok.mod.kin M.kp (Aw (ha pos aa s σ H _ I h) λus s1 hp0=>?_) he hpl
 obtain⟨vs,H1,I1,r,q⟩:=hp0
 refine⟨I1.kIn,?_⟩
 exact Yo M F hr hb hd hx I1 r q
end
structure AM (N P:List Str)(sc:Scope):Prop where
 kind:sc.kind=.function
 co:sc.isCoroutine=false
 gen:sc.isGenerator=false
 nd:N.Nodup
 pre:N.take P.length=P
 par:∀x∈P,sc.names.lookup x=some .local\/sc.names.lookup x=some .cell
 nofree:∀y∈sc.names,y.2≠.free
theorem VJ {kindOf:Str->Option NameKind}{x:Str}:∀{binds:List (Str×Value)}{m:Str->Option Value},(∀v,(x,v)∉binds)->bindL kindOf binds m x=m x
 | [],_,_=>rfl
 | (n,v)::r,m,h=>by
  unfold bindL;rw[VJ λw hw=>h w (A6 _ hw)];split
  ·have:x≠n:=by rintro rfl;exact h v Bj
   simp[this]
  rfl
theorem VM {kindOf:Str->Option NameKind}{x:Str}:∀{binds:List (Str×Value)}{m:Str->Option Value},(∀v,(x,v)∉binds)->bindC kindOf binds m x=m x
 | [],_,_=>rfl
 | (n,v)::r,m,h=>by
  unfold bindC;rw[VM λw hw=>h w (A6 _ hw)];split
  ·rfl
  have:x≠n:=by rintro rfl;exact h v Bj
  simp[this]
theorem VL {kindOf:Str->Option NameKind}{x:Str}{v:Value}:∀{P:List Str}{vs:List Value}{i:Nat}{m:Str->Option Value},P.Nodup->P[i]? = some x->vs[i]? = some v->kindOf x=some .local ->
  bindL kindOf (P.zip vs) m x=some v
 | [],_,_,_,_,h,_,_=>by simp at h
 | _::_,[],_,_,_,_,h,_=>by simp at h
 | p::P,w::vs,0,m,nd,h1,h2,hk=>by simp at h1 h2;subst h1;subst h2;show bindL kindOf ((p,w)::P.zip vs) m p=_;unfold bindL;rw[VJ λv hv=>(Bq.mp nd).1 (Ly hv).1,As hk];simp
 | p::P,w::vs,i+1,m,nd,h1,h2,hk=>by show bindL kindOf ((p,w)::P.zip vs) m x=_;unfold bindL;exact VL (i:=i) (Bq.mp nd).2 (by simpa using h1) (by simpa using h2) hk
theorem VN {kindOf:Str->Option NameKind}{x:Str}{v:Value}:∀{P:List Str}{vs:List Value}{i:Nat}{m:Str->Option Value},P.Nodup->P[i]? = some x->vs[i]? = some v->kindOf x≠some .local ->
  bindC kindOf (P.zip vs) m x=some v
 | [],_,_,_,_,h,_,_=>by simp at h
 | _::_,[],_,_,_,_,h,_=>by simp at h
 | p::P,w::vs,0,m,nd,h1,h2,hk=>by simp at h1 h2;subst h1;subst h2;show bindC kindOf ((p,w)::P.zip vs) m p=_;unfold bindC;rw[VM λv hv=>(Bq.mp nd).1 (Ly hv).1,Am hk];simp
 | p::P,w::vs,i+1,m,nd,h1,h2,hk=>by show bindC kindOf ((p,w)::P.zip vs) m x=_;unfold bindC;exact VN (i:=i) (Bq.mp nd).2 (by simpa using h1) (by simpa using h2) hk
def start (N:List Str)(vs:List V):St:=vs.map some++replicate (N.length-vs.length) none
def F4 (CX:Et)(P:Program)(w:World)(K:W.Frag)(mg:Str->Option Value)(base:Heap)(N:List Str)(qual:Str)(scope:Scope)(f:Addr)(cd:Value)(A:Around)(outer:List Env)(s:Shared)(H:Hp)(E:XK):Cx where
 prog:=P
 w:=w
 K:=K
 mg:=mg
 base:=base
 A:=A.deeper (envOfC qual scope s.heap.objs.size f cd)
 N:=N
 s₀:=s
 H₀:=H
 env:=envOfC qual scope s.heap.objs.size f cd
 outer:=outer
 stack:=envOfC qual scope s.heap.objs.size f cd::outer
 ex:=[]
 calm:=true
 fn:=λ_=>true
 pn:=[]
 xe:=λe s'=>wpAny (model P w) (A.deeper (envOfC qual scope s.heap.objs.size f cd)) (leaving (envOfC qual scope s.heap.objs.size f cd) e) (λ_ s''=>CX outer H s E e s'') (λe' s''=>CX outer H s E e' s'') s'
def VC {sc:Scope}{n:Nat}{x:Str}(h:sc.names.lookup x=some .cell):∃c,(cellsFrom n sc.names []).lookup x=some c:=by have q:=PySem.W.cellsFrom_some sc.names n [] (.inl h);exact isSome_iff_exists.mp q
def jG {CX:Et}{P:Program}{w:World}{K:W.Frag}{mg:Str->Option Value}{base:Heap}{N ps:List Str}{qual:Str}{scope:Scope}{f:Addr}{cd:Value}{A:Around}{outer:List Env}{s s1:Shared}{H:Hp}{E:XK}{us:List Value}{vs:List V}
  (S:AM N ps scope)(hd:A.handled=none)(e0:Env0 P w K mg base A outer s H)(hl:vs.length=ps.length)(r:Vals vs us)
  (x:InCallC s s.heap.objs.size (bindL (envOfC qual scope s.heap.objs.size f cd).kindOf (ps.zip us) λ_=>none) (cellsFrom (s.heap.objs.size+1) scope.names []) (bindC (envOfC qual scope s.heap.objs.size f cd).kindOf (ps.zip us) λ_=>none) s1) :
  Inv (F4 CX P w K mg base N qual scope f cd A outer s H E) [] (start N vs) H s1:=by
 have hpl:ps.length<=N.length:=by have:=BJ List.length S.pre;rw[Bu]at this;lia
 obtain⟨h1,tk,rfl,hk⟩:=x.done
 have noA:∀b:Addr,b∉(F4 CX P w K mg base N qual scope f cd A outer s H E).ex:=λb z=>absurd (show b∈([]:List Addr) from z) (by simp)
 refine⟨⟨e0.mod,S.kind,rfl,rfl,Au _,λy z c h1 h2=>?_,λy hy=>?_,λy c _ h=>?_,λ_=>hd,Around.frames_deeper e0.frames,.inr ⟨rfl,rfl⟩,λb z=>absurd z (noA b),e0.bs,e0.bsz,λb _ _=>noA b,λb z=>absurd z (noA b),e0.funs,e0.frf⟩,rfl,e0.bare,Un.kept hk,⟨_,x.toInCall.ns,λi y v h1 h2 h3=>?_⟩,λy c h=>⟨_,x.cell y c h⟩,e0.hok.fresh (Au _),λy c h=>?_,λp hp=>absurd (show p∈([]:List (Addr×Obj)) from hp) (by simp),e0.hok.kept hk,?_⟩
 ·exact name_of_addr x.apart (LM h1) (LM h2)
 ·have hy:scope.names.lookup y=some .cell\/scope.names.lookup y=some .free:=hy;rcases hy with hy | hy
  ·exact VC hy
  exact absurd rfl (S.nofree _ (LM hy))
 ·exact Ic (x.above y c (LM h))
 ·have hi:i<vs.length:=by
   unfold start at h2;by_cases hi:i<vs.length
   ·exact hi
   rw[ES (by simpa using hi)]at h2;rw[RD]at h2;split at h2 <;> cases h2
  have ha:vs[i]? = some v:=by
   unfold start at h2;rw[Dq (by simpa using hi),AI]at h2;cases e:vs[i]? with
   | none=>rw[e]at h2;cases h2
   | some a=>rw[e]at h2;cases h2;rfl
  obtain⟨u,hu,rv⟩:=r.get ha;have hp:ps[i]? = some y:=by rw[<- S.pre,getElem?_take_of_lt (by lia)];exact h1
  have ndP:ps.Nodup:=by rw[<- S.pre];exact S.nd.sublist (Gf _ _)
  refine⟨u,rv,?_⟩;rcases S.par y (Bz hp)with k | k
  ·exact .inl ⟨k,VL ndP hp hu k⟩
  obtain⟨c,e⟩:=VC (n:=s.heap.objs.size+1) k;refine .inr ⟨.inl k,c,e,?_⟩;have q:=x.cell y c e;rw[VN ndP hp hu (by show scope.names.lookup y≠_;rw[k];decide)]at q;exact q
 ·exact e0.hok.fresh (Ic (x.above y c (LM h)))
 unfold start
 show _=N.length
 rw[AY,Ak,F5]
 lia
def kY {CX:Et}{P:Program}{w:World}{K:W.Frag}{mg:Str->Option Value}{base:Heap}{k:Nat}{f:Addr}{name qual:Str}{params:Arguments}{body:List Stmt}{scope:Scope}{dV kV doc pm cdv ct oc:Value}{an od:Option Addr}
  {osl:Array (Option Value)}{N ps:List Str}{sp:Sp}(lk:K.lookup f=some ⟨oc,od,.func (PySem.W.fnOf name qual params body scope dV kV doc pm an cdv ct),osl⟩)(hcd:PySem.W.codeIn K cdv qual=true)(S:AM N ps scope)
  (len:∀vs H Q E,sp vs H Q E->vs.length=ps.length)
  (hbody:∀(A:Around) (outer:List Env) (s:Shared) (H:Hp) (vs:List V) (Q:VK) (E:XK),Room k (A.deeper (envOfC qual scope s.heap.objs.size f cdv))->sp vs H Q E -> ∃t,PSs (F4 CX P w K mg base N qual scope f cdv A outer s H E) body t/\t { nx:=λ_ H'=>Q .non H',rt:=Q } (start N vs) H) :
  FnOk P w K mg base CX (k+1) f (PySem.W.fnOf name qual params body scope dV kV doc pm an cdv ct) ps sp:=by
 refine⟨len,λA outer s H args us vs Q E hr e0 hb r hsp=>?_⟩
 have hl:=len _ _ _ _ hsp
 have KX:K.In s.heap:=e0.mod.kin.keeps λb o e=>(e0.bs b o e).1
 have lim:s.heap.NoLimit:=e0.mod.nolimit.keeps λb o e=>(e0.bs b o e).1
 have hkind:∀y∈ps.zip us,scope.names.lookup y.1=some .local\/(scope.names.lookup y.1=some .cell/\((cellsFrom (s.heap.objs.size+1) scope.names []).lookup y.1).isSome=true):=λ⟨n,v⟩ hy=>by
  rcases S.par n (Ly hy).1 with q | q
  ·exact .inl q
  exact .inr ⟨q,PySem.W.cellsFrom_some _ _ _ (.inl q)⟩
 refine codeAny_call_function hr.depth (KX _ _ lk) rfl S.co S.gen rfl (PySem.W.codeRec_of KX hcd) (hb _ _ _ _ ?_)
 refine wpAny_newFunctionEnv_cells S.kind hkind λenv he s1 x=>?_
 subst he
 refine⟨lim.keeps x.toInCall.keep,codeAny_func ?_⟩
 obtain⟨t,ht,hq⟩:=hbody A outer s H vs Q E (hr.deeper _) hsp
 have I:Inv (F4 CX P w K mg base N qual scope f cdv A outer s H E) [] (start N vs) H s1:=jG S hr.hd e0 hl r x
 refine DB (ht [] s1 (start N vs) H _ I hq) (λfl s' hs=>?_) λe s' hs=>hs
 have fin:∀{σ':St}{H':Hp}{v:V}{u:Value},Inv (F4 CX P w K mg base N qual scope f cdv A outer s H E) [] σ' H' s'->RelV v u->Q v H'->CE outer P w H s Q u s':=
  λ{σ' H' v u} J rv q=>⟨v,H',J.os,J.bare,J.base,J.hok,rv,q⟩
 cases fl with
 | ret u=>obtain⟨v,σ',H',J,rv,q⟩:=hs;exact fin J rv q
 | next=>obtain⟨σ',H',J,q⟩:=hs;exact fin (v:=V.non) (u:=Value.none) J rfl q
 | brk=>obtain⟨_,_,_,q⟩:=hs;exact False.elim q
 | cont=>obtain⟨_,_,_,q⟩:=hs;exact False.elim q
section
variable {X:Cx}{x:Str}{p pos:Pos}{e:Expr}{es:List Expr}{t:TA}{id T:String}{r:List V->Hp->VK->Prop}
def SO (r:List V->Hp->VK->Prop)(t:TA):TE:=λσ H Q=>t σ H λvs H1=>r vs H1 Q
def AV (hc:Cp X (.builtin id) r)(hg:Gl X x)(hm:X.mg x=none)(hv:bootBuiltins x=some (.builtin id))(ha:PA X (e::es) t)(hn:x ≠ "__name__" := by decide)(hdb:(x == ("__debug__" : Str))=false:=by decide)
  (he:starEach (e::es) X.env=(false,eval e X.env)::starEach es X.env:=by rfl)(hpl:(backTo pos (starEach es X.env)).any (·.1)=false:=by rfl):PE X (.Call (.Name x p) (e::es) [] pos) (SO r t):=by
 intro aa s σ H Q I h
 refine LL (HS I hg hm hv ?_ hn hdb)
 exact PyProof.Rows.callWith_builtin1 (Aw (ha pos aa s σ H _ I h) λus s1 hp0=>by obtain⟨vs,H1,I1,r1,q1⟩:=hp0;exact hc aa s1 σ H1 vs us Q I1 r1 q1) he hpl
def BW (hc:Cp X (.type T) r)(hg:Gl X x)(hm:X.mg x=none)(hv:bootBuiltins x=some (.type T))(ha:PA X (e::es) t)(hn:x ≠ "__name__" := by decide)(hdb:(x == ("__debug__" : Str))=false:=by decide)
  (he:starEach (e::es) X.env=(false,eval e X.env)::starEach es X.env:=by rfl)(hpl:(backTo pos (starEach es X.env)).any (·.1)=false:=by rfl):PE X (.Call (.Name x p) (e::es) [] pos) (SO r t):=by
 intro aa s σ H Q I h
 refine LL (HS I hg hm hv ?_ hn hdb)
 exact LW (Aw (ha pos aa s σ H _ I h) λus s1 hp0=>by obtain⟨vs,H1,I1,r1,q1⟩:=hp0;exact hc aa s1 σ H1 vs us Q I1 r1 q1) he hpl
end
end L2
namespace HT
open PySem PyProof.Rows
section
open PySem.SeqAt
open PySem.AutoSeq1 (wpAny_loadPart')
open PySem.MeetsSeq PySem.MeetsSeq2 PySem.MeetsSeq3
end
section
variable {prog:Program}{w:World}{A:Around}{E:Value->Shared->Prop}{s:Shared}
def cat_tup {t:Addr} (ht:IsTup s.heap t vs.toArray)(hb:IsTup s.heap b ws.toArray)(hv:vs≠[])
  (h1:ws=[]->Q (.ref t) s)(h2:ws≠[]->Q (.ref s.heap.objs.size) { s with heap:=s.heap.push { cls:=.type "tuple",data:=.seq (vs++ws).toArray } })
  (hsz:vs.length+ws.length<=sizeLine):wpAny (model prog w) A (binaryOp .Add (.ref t) (.ref b)) Q E s:=by
 obtain⟨⟨cls,dd,data,sl⟩,ho,hc,n,hd⟩:=id ht
 obtain⟨⟨cls2,dd2,data2,sl2⟩,ho2,hc2,n2,hd2⟩:=id hb
 simp only at hc hd hc2 hd2
 subst hc hd hc2 hd2
 have e:vs.toArray++ws.toArray=(vs++ws).toArray:=by simp
 by_cases hw:ws=[]
 ·exact concat_meets ⟨_,ho,rfl⟩ ⟨_,ho2,rfl⟩ noFill_tuple_add seq_tuple_add RO RQ (RU _ _)
   (tuple_addW1 t b vs.toArray ws.toArray n n2 dd dd2 sl sl2 (by simpa using hv) (by simp[hw])) ⟨ho,ho2,h1 hw⟩
 refine concat_meets ⟨_,ho,rfl⟩ ⟨_,ho2,rfl⟩ noFill_tuple_add seq_tuple_add RO RQ (RU _ _)
  (tuple_addW2 t b vs.toArray ws.toArray n n2 dd dd2 sl sl2 (by simpa using hv) (by simpa using hw) (by rw[BB,BB];exact hsz)) ⟨ho,ho2,?_⟩
 rw[e]
 exact h2 hw
def sIx (n d:Nat):Option Int->Nat
 | none=>d
 | some v=>if v<0 then(v+(n:Int)).toNat else min v.toNat n
def sIx_none (n d:Nat):sIx n d none=d:=rfl
def sIx_nat (n d k:Nat):sIx n d (some (k:Int))=min k n:=by show(if (k:Int)<0 then((k:Int)+(n:Int)).toNat else min (k:Int).toNat n)=min k n;rw[Am (by lia),Co]
def Yi (n d:Nat)(hd:d<=n)(o:Option Int):sIx n d o<=n:=by
 cases o with
 | none=>exact hd
 | some v=>
  show(if v<0 then(v+(n:Int)).toNat else min v.toNat n)<=n;by_cases hv:v<0
  ·rw[As hv];lia
  rw[Am hv];exact Nat.min_le_right _ _
def VA (v:Int)(n d:Nat):(if v<0 then max (v+(n:Int)) 0 else min v (n:Int))=((sIx n d (some v):Nat):Int):=by
 show(if v<0 then max (v+(n:Int)) 0 else min v (n:Int))=(((if v<0 then(v+(n:Int)).toNat else min v.toNat n):Nat):Int);by_cases hv:v<0
 ·simp only[As hv];lia
 simp only[Am hv];lia
def nV (lo hi:Option Int)(n:Nat):Builtin.Slice.sliceAdjust lo hi 1 (n:Int)=(((sIx n 0 lo:Nat):Int),((sIx n n hi:Nat):Int)):=by
 have h1:¬((1:Int)<0):=by lia
 unfold Builtin.Slice.sliceAdjust;simp only[h1,Ec];refine Prod.ext ?_ ?_
 ·cases lo with
  | none=>rfl
  | some v=>exact VA v n 0
 cases hi with
 | none=>rfl
 | some v=>exact VA v n n
def Y6 (i j:Nat):Builtin.Slice.slicePlaces (i:Int) (j:Int) 1=j-i:=by
 unfold Builtin.Slice.slicePlaces;have h1:(1:Int) > 0:=by lia
 simp only[h1,FF,Int.ediv_one];split <;> lia
def S1 (p:IsPart v o)(h:Q o s):wpAny (model prog w) A (Builtin.Slice.slicePartIndex v) Q E s:=by
 cases p with
 | none=>exact slicePart_none h
 | int i t=>exact slicePart_int h
def Xy {sl:Addr}{vl vu:Value}{lo hi:Option Int}{n:Nat}{Q:Int×Int×Nat->Shared->Prop}(hs:s.heap.IsSliceOf sl vl vu .none)(pl:IsPart vl lo)(pu:IsPart vu hi)
  (h:Q (((sIx n 0 lo:Nat):Int),1,sIx n n hi-sIx n 0 lo) s):wpAny (model prog w) A (Builtin.Slice.sliceApplied (.ref sl) (pure (n:Int))) Q E s:=by
 obtain⟨os,hos,hcs,hds⟩:=id hs
 unfold Builtin.Slice.sliceApplied Builtin.Slice.sliceFields
 refine Ae (Ae (DW hos hds (x:=vl) rfl (Ae (DW hos hds (x:=vu) rfl (Ae (DW hos hds (x:=.none) rfl (An ?_)))))))
 refine Ae (slicePart_none ?_)
 show wpAny _ _ (if ((1:Int) == 0)=true then _ else _) _ _ s
 rw[Am (by decide)]
 refine Ae (S1 pl (Ae (S1 pu (Ae (An ?_)))))
 show wpAny _ _ (match Builtin.Slice.sliceAdjust lo hi 1 (n:Int)with | (lo,hi)=>pure (lo,(1:Int),Builtin.Slice.slicePlaces lo hi 1)) _ _ s
 rw[nV lo hi n]
 show wpAny _ _ (pure (((sIx n 0 lo:Nat):Int),(1:Int),Builtin.Slice.slicePlaces ((sIx n 0 lo:Nat):Int) ((sIx n n hi:Nat):Int) 1)) _ _ s
 rw[Y6]
 exact An h
def Y9 (xs:Array Value)(i k:Nat):((List.range k).filterMap λ(m:Nat)=>xs[((i:Int)+(m:Int)*1).toNat]?).toArray=((xs.toList.drop i).take k).toArray:=by
 have e:(λ(m:Nat)=>xs[((i:Int)+(m:Int)*1).toNat]?)=λm=>xs[i+m]?:=by
  funext m;have:((i:Int)+(m:Int)*1).toNat=i+m:=by lia
  rw[this]
 rw[e];have:=pick_run xs i k;rw[List.filterMap_map]at this;have e2:((λx=>xs[x]?) ∘ λx=>i+x)=λm=>xs[i+m]?:=rfl;rw[e2]at this;rw[this]
def getItem_tuple_cut {t:Addr} {lo:Option Int} (ht:IsTup s.heap t items)(hs:s.heap.IsSliceOf sl vl vu .none)(pl:IsPart vl lo)(pu:IsPart vu hi)
  (hw:¬(sIx items.size 0 lo=0/\sIx items.size items.size hi=items.size))
  (h:Q (.ref s.heap.objs.size) { s with heap:=s.heap.push { cls:=.type "tuple",data:=.seq ((items.toList.drop (sIx items.size 0 lo)).take (sIx items.size items.size hi-sIx items.size 0 lo)).toArray } })
  (hsz:items.size<=sizeLine):wpAny (model prog w) A (getItem (.ref t) (.ref sl)) Q E s:=by
 have htake:sizeOk (.seq ((items.toList.drop (sIx items.size 0 lo)).take (sIx items.size items.size hi-sIx items.size 0 lo)).toArray):=by show((items.toList.drop (sIx items.size 0 lo)).take (sIx items.size items.size hi-sIx items.size 0 lo)).toArray.size<=sizeLine;rw[BB,Bu,DC,DY];lia
 have hj:sIx items.size items.size hi<=items.size:=Yi _ _ (Au _) hi
 obtain⟨os,hos,hcs,hds⟩:=id hs
 have hTs:s.TypeIs (.ref sl) "slice" := ⟨os,hos,hcs⟩
 unfold getItem
 try with_reducible refine DE ?_
 first | refine Ae (An ?_) | skip
 refine Ae (wpAny_sequenceKey ht.typeIs (by decide) ?_)
 refine Ae (FD (name:=Str.ofString "__getitem__") ht.typeIs OD (CV OD ht.typeIs entry_tuple_getitem ?_ (args_tuple_getitem _ _)))
 show wpAny _ _ (Builtin.Tuple.tupleItemsOf (.ref t) >>= _) _ _ s
 refine Ae (tupleItemsOf_ ht ?_)
 refine Ae (G1 hTs ?_)
 rw[As (by decide)]
 refine Ae (Xy hs pl pu ?_)
 have hno:¬((((sIx items.size 0 lo:Nat):Int) == 0 && (1:Int) == 1 && (sIx items.size items.size hi-sIx items.size 0 lo) == items.size)=true):=by intro q;rw[BZ,BZ]at q;have q1:((sIx items.size 0 lo:Nat):Int)=0:=eq_of_beq q.1.1;have q2:sIx items.size items.size hi-sIx items.size 0 lo=items.size:=eq_of_beq q.2;exact hw ⟨by lia,by lia⟩
 show wpAny _ _ (if (((sIx items.size 0 lo:Nat):Int) == 0 && (1:Int) == 1 && (sIx items.size items.size hi-sIx items.size 0 lo) == items.size)=true then _ else _) _ _ s
 rw[Am hno,Y9]
 first
  | exact Ae (m:=Builtin.Tuple.tupleExact _) (CW (An ⟨_,rfl,An h⟩) htake)
  | exact Ae (m:=Builtin.Tuple.tupleExact _) (CW (Ae (An (An ⟨_,rfl,An h⟩))) htake)
  | exact Ae (Ae (m:=Builtin.Tuple.tupleExact _) (CW (An (An ⟨_,rfl,An h⟩)) htake))
  | exact Ae (Ae (m:=Builtin.Tuple.tupleExact _) (CW (An ⟨_,rfl,An h⟩) htake))
end
end HT
namespace L2
open PySem PySem.Spec PyProof.Rows
abbrev TO:=St->Hp->(Option Int->Hp->Prop)->Prop
def PO (X:Cx)(e:Option Expr)(t:TO):Prop:=
 ∀(aa:List (Addr×Obj)) (s:Shared) (σ:St) (H:Hp) (Q:Option Int->Hp->Prop),Inv X aa σ H s->t σ H Q ->
  wpAny (model X.prog X.w) X.A (evalPart e X.env) (λu s'=>∃o H',Inv X aa σ H' s'/\IsPart u o/\Q o H') X.xe s
def WO:TO:=λ_ H Q=>Q none H
def WJ (t:TE):TO:=λσ H Q=>t σ H λx H1=>∃i,x=.int i/\Q (some i) H1
def jI :∀{us:List Value},Vals (ns.map V.int) us->IntsAre us ns:=by
 induction ns with
 | nil=>intro us r;rw[FE]at r;cases r;exact .nil
 | cons n ns ih=>
  intro us r;rw[A9]at r;cases r with
  | cons r1 r2=>obtain⟨t,e⟩:=r1;subst e;exact .cons n t (ih r2)
section
variable {X:Cx}{e:Expr}{te:TE}{lo hi:Option Expr}{tl th:TO}{pos p2:Pos}
def Di:PO X none WO:=by intro aa s σ H Q I h;rw[evalPart_none];exact An ⟨none,H,I,.none,h⟩
def Dh (h:PE X e te):PO X (some e) (WJ te):=by intro aa s σ H Q I hw;rw[evalPart_some];refine Aw (h aa s σ H _ I hw) λu s1 hp0=>?_;obtain⟨x,H1,I1,r1,q1⟩:=hp0;obtain⟨i,rfl,q⟩:=q1;obtain⟨t,rfl⟩:=r1;exact⟨some i,H1,I1,.int i t,q⟩
def R6 (X:Cx)(r:V->Option Int->Option Int->Hp->VK->Prop):Prop:=
 ∀(aa:List (Addr×Obj)) (s:Shared) (σ:St) (H:Hp) (x:V) (v vl vu:Value) (lo hi:Option Int) (sl:Addr) (Q:VK),Inv X aa σ H s->RelV x v->s.heap.IsSliceOf sl vl vu .none->IsPart vl lo->IsPart vu hi->r x lo hi H Q ->
  ∃T id,typeLookup (.type T) "__getitem__" = pure (some (.builtin id))/\s.TypeIs v T/\wpAny (model X.prog X.w) X.A (getItem v (.ref sl)) (EP X aa σ Q) X.xe s
def WI (r:V->Option Int->Option Int->Hp->VK->Prop)(te:TE)(tl th:TO):TE:=λσ H Q=>te σ H λx H1=>tl σ H1 λl H2=>th σ H2 λu H3=>r x l u H3 Q
def Dk (hr:R6 X r)(he:PE X e te)(hl:PO X lo tl)(hu:PO X hi th):PE X (.Subscript e (.Slice lo hi none p2) pos) (WI r te tl th):=by intro aa s σ H Q I h;refine Subscript_ (Aw (he aa s σ H _ I h) λv s1 hp0=>?_);obtain⟨x,H1,I1,r1,q1⟩:=hp0;refine wpAny_Slice (Aw (hl aa s1 σ H1 _ I1 q1) λvl s2 hp0=>?_);obtain⟨l,H2,I2,pl,q2⟩:=hp0;refine Aw (hu aa s2 σ H2 _ I2 q2) λvu s3 hp1=>?_;obtain⟨u,H3,I3,pu,q3⟩:=hp1;rw[evalPart_none];refine An ?_;have I4:Inv X aa σ H3 { s3 with heap:=s3.heap.push { cls:=.type "slice",data:=.fields #[vl,vu,.none] } }:=I3.kept (t':=s3.toks) λb ob q=>AU _ q;obtain⟨T,id,hT,ht,hg⟩:=hr aa { s3 with heap:=s3.heap.push { cls:=.type "slice",data:=.fields #[vl,vu,.none] } } σ H3 x v vl vu l u s3.heap.objs.size Q I4 r1 (Heap.IsSliceOf.new ..) pl pu q3;show wpAny (model X.prog X.w) X.A (subscriptTail e (.Slice lo hi none p2) v (.ref s3.heap.objs.size)) (EP X aa σ Q) X.xe { s3 with heap:=s3.heap.push { cls:=.type "slice",data:=.fields #[vl,vu,.none] } };exact tail_any (ops:=[.ref s3.heap.objs.size,v]) ht hT hg (by with_unfolding_all rfl)
def Bh (xs:List V)(lo hi:Option Int):List V:=(xs.drop (HT.sIx xs.length 0 lo)).take (HT.sIx xs.length xs.length hi-HT.sIx xs.length 0 lo)
def Vt (xs:List V)(lo hi:Option Int):(Bh xs lo hi).length<=xs.length:=by unfold Bh;rw[Bu,DC];lia
def YG (K:W.Frag):V->Option Int->Option Int->Hp->VK->Prop:=λx lo hi H Q=>∃a xs,x=.ref a/\SqT K H a xs /\
 ¬(HT.sIx xs.length 0 lo=0/\HT.sIx xs.length xs.length hi=xs.length)/\∀p,H p=none->Q (.ref p) (Ab H p (.tup (Bh xs lo hi)))
def Ff:R6 X (YG X.K):=by
 intro aa s σ H x v vl vu lo hi sl Q I rx hs pl pu h;obtain⟨a,xs,rfl,hx,hw,q⟩:=h;cases rx;obtain⟨its,r,ht,hz⟩:=I.tuple hx;have hlen:its.toArray.size=xs.length:=by rw[BB];exact r.length.symm
 refine⟨"tuple",_,OD.lookup,ht.typeIs,?_⟩;refine HT.getItem_tuple_cut ht hs pl pu (by rw[hlen];exact hw) ?_ (by rw[hlen];exact hz);rw[hlen];refine⟨.ref s.heap.objs.size,_,I.laid (t':=s.toks) (o:=.tup (Bh xs lo hi)) (λb ob q=>AU _ q) (Au _) ?_,rfl,q _ (I.hok.fresh (Au _))⟩;exact⟨Eb (Vt xs lo hi) hz,_,(r.drop (HT.sIx xs.length 0 lo)).take (HT.sIx xs.length xs.length hi-HT.sIx xs.length 0 lo),IsTup.new _ _⟩
def YS (K:W.Frag):R2:=λx y H Q=>∃a b xs ys,x=.ref a/\y=.ref b/\SqT K H a xs/\SqT K H b ys/\xs≠[]/\xs.length+ys.length<=sizeLine /\
 (ys=[]->Q (.ref a) H)/\(ys≠[]->∀p,H p=none->Q (.ref p) (Ab H p (.tup (xs++ys))))
def Vals.nil_iff (r:Vals xs us):us=[]↔xs=[]:=by
 cases r with
 | nil=>simp
 | cons _ _=>simp
def Zz:Bt X (binaryOp .Add) (YS X.K):=by intro aa s σ H x y v u Q I rx ry h;obtain⟨a,b,xs,ys,rfl,rfl,ha,hb,hx,hz,q1,q2⟩:=h;cases rx;cases ry;obtain⟨its,r1,p1,_⟩:=I.tuple ha;obtain⟨its2,r2,p2,_⟩:=I.tuple hb;refine HT.cat_tup p1 p2 (λz=>hx (r1.nil_iff.mp z)) (λz=>⟨.ref a,H,I,rfl,q1 (r2.nil_iff.mp z)⟩) (λz=>?_) (by rw[<- r1.length,<- r2.length];exact hz);refine⟨.ref s.heap.objs.size,_,I.laid (t':=s.toks) (o:=.tup (xs++ys)) (λb ob q=>AU _ q) (Au _) ?_,rfl,q2 (λw=>z (r2.nil_iff.mpr w)) _ (I.hok.fresh (Au _))⟩;exact⟨by rw[AY];exact hz,_,r1.append r2,IsTup.new _ _⟩
end
def Fq (n:Nat)(i:Int):Option Nat:=if 0<=i then(if i<n then some i.toNat else none)else if -(n:Int)<=i then some (i+n).toNat else none
def atI {α:Type}(xs:List α)(i:Int):Option α:=(Fq xs.length i).bind λj=>xs[j]?
def jC {n:Nat} (h:Fq n i=some j):seqIndex? i n=some j/\j<n/\-(n:Int)<=i/\i<n:=by
 unfold Fq at h;by_cases h0:0<=i
 ·rw[As h0]at h;by_cases h1:i<n
  ·rw[As h1]at h;have e:i.toNat=j:=Bs h;exact⟨by rw[seqIndex_of h0 h1,e],by lia,by lia,h1⟩
  rw[Am h1]at h;cases h
 rw[Am h0]at h;by_cases h1:-(n:Int)<=i
 ·rw[As h1]at h;have e:(i+n).toNat=j:=Bs h;exact⟨by rw[seqIndex_neg (by lia) h1,e],by lia,h1,by lia⟩
 rw[Am h1]at h;cases h
def Rf {α:Type}{xs:List α}{i:Int}{v:α}(h:atI xs i=some v):∃j,seqIndex? i xs.length=some j/\xs[j]? = some v/\j<xs.length/\-(xs.length:Int)<=i/\i<xs.length:=by
 unfold atI at h;cases e:Fq xs.length i with
 | none=>rw[e]at h;cases h
 | some j=>rw[e]at h;obtain⟨h1,h2,h3,h4⟩:=jC e;exact⟨j,h1,h,h2,h3,h4⟩
def Az {α:Type}{xs:List α}{j:Nat}{v:α}(h:xs[j]? = some v):atI xs (j:Int)=some v:=by
 have hj:j<xs.length:=(AG.mp h).1;have e:Fq xs.length (j:Int)=some j:=by unfold Fq;rw[As (by lia),As (by lia)];simp
 unfold atI;rw[e];exact h
def Re {α:Type}(xs:List α)(v:α):atI (xs++[v]) (-1)=some v:=by
 have hl:(xs++[v]).length=xs.length+1:=by simp
 have e:Fq (xs++[v]).length (-1)=some xs.length:=by unfold Fq;rw[hl,Am (by decide),As (by lia)];congr 1;lia
 unfold atI;rw[e];show(xs++[v])[xs.length]? = some v;simp
def oB (b:Expr):Prop:=∀o i,subscripted b false o i=operate [o,i] (getItem o i)
def J2 (X:Cx)(r:R2):Prop:=
 ∀(value slice:Expr) (aa:List (Addr×Obj)) (s:Shared) (σ:St) (H:Hp) (x y:V) (v u:Value) (Q:VK),Inv X aa σ H s->RelV x v->RelV y u->r x y H Q ->
  subscripted slice false v u=operate [v,u] (getItem v u)->wpAny (model X.prog X.w) X.A (subscriptTail value slice v u) (EP X aa σ Q) X.xe s
def He (X:Cx)(id:String)(r:V->List V->Hp->VK->Prop):Prop:=
 ∀(aa:List (Addr×Obj)) (s:Shared) (σ:St) (H:Hp) (x:V) (xs:List V) (v:Value) (us:List Value) (Q:VK),Inv X aa σ H s->RelV x v->Vals xs us->r x xs H Q ->
  wpAny (model X.prog X.w) X.A (call (.builtin id) (v::us)) (EP X aa σ Q) X.xe s
section
variable {X:Cx}{a b:Expr}{ta tb:TE}{pos:Pos}
def Aq (hr:J2 X r)(ha:PE X a ta)(hb:PE X b tb)(hs:oB b):PE X (.Subscript a b pos) (Mf r ta tb):=by intro aa s σ H Q I h;exact Subscript_ (Rc ha hb I h λv u s2 x y H2 I2 rx ry q=>hr a b aa s2 σ H2 x y v u Q I2 rx ry q (hs _ _))
inductive Qh (K:W.Frag)(x:V)(y:V)(H:Hp)(Q:VK):Prop
 | mk (p:_) (xs:_) (i:_) (v:_) (c0:x=.ref p) (c1:y=.int i) (c2:SqL K H p xs) (c3:atI xs i=some v) (c4:Q v H):Qh K x y H Q
inductive Qg (K:W.Frag)(x:V)(y:V)(H:Hp)(Q:VK):Prop
 | mk (p:_) (xs:_) (i:_) (v:_) (c0:x=.ref p) (c1:y=.int i) (c2:SqT K H p xs) (c3:atI xs i=some v) (c4:Q v H):Qg K x y H Q
def YM:R2:=λx y H Q=>∃z i c,x=.str z/\y=.int i/\z.length<=sizeLine/\atI z.cps.toList i=some c/\Q (.str ⟨#[c]⟩) H
def Bc:J2 X (Qh X.K):=by
 intro value slice aa s σ H x y v u Q I rx ry h hs;obtain⟨p,xs,i,z,rfl,rfl,hq,he,q⟩:=h;cases rx;obtain⟨t,rfl⟩:=ry;obtain⟨its,r,pl,hz⟩:=I.list hq;obtain⟨j,h1,h2,h3,h4,h5⟩:=Rf he;obtain⟨w,ew,rw'⟩:=r.get h2;have hl:=r.length;have hn:=K8;have fin:EP X aa σ Q w s:=⟨z,H,I,rw',q⟩;by_cases h0:0<=i
 ·have hj:i.toNat=j:=by rw[seqIndex_of h0 h5]at h1;exact Bs h1
  exact item_listR pl.isList h0 (by lia) (by rw[hj];simpa using ew) fin hs
 have hj:(i+(its.toArray.size:Int)).toNat=j:=by rw[seqIndex_neg (by lia) h4]at h1;rw[BB,<- hl];exact Bs h1
 exact subscriptTail_builtinR (x:=w) pl.isList.typeIs slot_list_getitem.lookup
  (wpAny_getItem_list_neg (Q:=λr s'=>r=w/\EP X aa σ Q r s') pl.isList (by lia) (by rw[BB] <;> lia) (by lia) (by rw[hj];simpa using ew) ⟨rfl,fin⟩) hs
def AJ:J2 X (Qg X.K):=by
 intro value slice aa s σ H x y v u Q I rx ry h hs;obtain⟨p,xs,i,z,rfl,rfl,hq,he,q⟩:=h;cases rx;obtain⟨t,rfl⟩:=ry;obtain⟨its,r,pl,hz⟩:=I.tuple hq;obtain⟨j,h1,h2,h3,h4,h5⟩:=Rf he;obtain⟨w,ew,rw'⟩:=r.get h2;have hl:=r.length;have hn:=K8;have fin:EP X aa σ Q w s:=⟨z,H,I,rw',q⟩
 exact subscriptTail_builtinR (x:=w) pl.typeIs OD.lookup
  (getItem_tuple (j:=j) (Q:=λr s'=>r=w/\EP X aa σ Q r s') pl (by lia) (by lia) (by rw[BB,<- hl];exact h1) (by simpa using ew) ⟨rfl,fin⟩) hs
def UG:J2 X YM:=by
 intro value slice aa s σ H x y v u Q I rx ry h hs;obtain⟨z,i,c,rfl,rfl,hz,he,q⟩:=h;obtain⟨t,rfl⟩:=rx;obtain⟨t',rfl⟩:=ry;obtain⟨j,h1,h2,h3,h4,h5⟩:=Rf he;have hl:z.cps.toList.length=z.length:=by simp[Str.length]
 rw[hl]at h1 h4 h5;have hn:=K8;exact tail_any (Lx s z t) slot_str_getitem.lookup (getItem_str (c:=c) (by have e1:decide (i < -(2^63:Int))=false:=BC (by lia);have e2:decide (i≥2^63)=false:=BC (by lia);rw[e1,e2,N7]) (by rw[h1];simpa using h2) ⟨.str ⟨#[c]⟩,H,I.tok _,⟨_,rfl⟩,q⟩) hs
def Xw (lo hi:Option Int)(n:Nat):(sliceBounds lo hi none n).1=((HT.sIx n 0 lo:Nat):Int)/\(sliceBounds lo hi none n).2.1=((HT.sIx n n hi:Nat):Int)/\(sliceBounds lo hi none n).2.2=1:=by
 refine⟨?_,?_,rfl⟩
 ·cases lo with
  | none=>simp[sliceBounds,HT.sIx]
  | some i=>
   simp only[sliceBounds,HT.sIx,Option.getD_none,show(1:Int) > 0 by decide,FF];by_cases h:i<0
   ·simp only[h,FF] <;> lia
   simp only[h,Ec] <;> lia
 cases hi with
 | none=>simp[sliceBounds,HT.sIx]
 | some i=>
  simp only[sliceBounds,HT.sIx,Option.getD_none,show(1:Int) > 0 by decide,FF];by_cases h:i<0
  ·simp only[h,FF] <;> lia
  simp only[h,Ec] <;> lia
def Xx (its:List Value)(lo hi:Option Int):slicePick its.toArray lo hi none=((its.drop (HT.sIx its.length 0 lo)).take (HT.sIx its.length its.length hi-HT.sIx its.length 0 lo)).toArray:=by obtain⟨h1,h2,h3⟩:=Xw lo hi its.toArray.size;unfold slicePick;rw[h1,h2,h3];simp only[sliceRange_one,pick_run,BB] <;> rfl
def YH (K:W.Frag):V->Option Int->Option Int->Hp->VK->Prop:=λx lo hi H Q=>∃a xs,x=.ref a/\SqL K H a xs/\∀p,H p=none->Q (.ref p) (Ab H p (.lst (Bh xs lo hi)))
def IB:R6 X (YH X.K):=by intro aa s σ H x v vl vu lo hi sl Q I rx hs pl pu h;obtain⟨a,xs,rfl,hx,q⟩:=h;cases rx;obtain⟨its,r,ht,hz⟩:=I.list hx;have hlen:=r.length;refine⟨"list",_,slot_list_getitem.lookup,ht.isList.typeIs,?_⟩;refine wpAny_getItem_list_slice ht.isList hs pl pu .none (by simp) ?_ (by rw[BB] <;> lia);rw[Xx,<- hlen];refine⟨.ref s.heap.objs.size,_,I.laid (t':=s.toks) (o:=.lst (Bh xs lo hi)) (λb ob q=>AU _ q) (Au _) ?_,rfl,q _ (I.hok.fresh (Au _))⟩;exact⟨Eb (Vt xs lo hi) hz,_,0,(r.drop (HT.sIx xs.length 0 lo)).take (HT.sIx xs.length xs.length hi-HT.sIx xs.length 0 lo),Bg _ rfl⟩
def E6:V->Bool
 | .non=>true
 | .bl _=>true
 | .int _=>true
 | .str _=>true
 | _=>false
def ED:V->V->Bool
 | .non,.non=>true
 | .bl a,.bl b=>a == b
 | .bl a,.int b=>(if a then 1 else 0) == b
 | .int a,.bl b=>a == (if b then 1 else 0)
 | .int a,.int b=>a == b
 | .str a,.str b=>a == b
 | _,_=>false
def lQ (ry:RelV y u)(rx:RelV x v)(fy:E6 y=true)(fx:E6 x=true):SeqAt.EqAt A s u v (ED y x):=by
 cases y with
 | non=>
  cases ry;cases x with
  | non=>cases rx;exact SeqAt.EqAt.same _
  | bl b=>cases rx;exact SeqAt.EqAt.none_bool b
  | int b=>obtain⟨t,rfl⟩:=rx;exact SeqAt.EqAt.none_int b t
  | str b=>obtain⟨t,rfl⟩:=rx;exact SeqAt.EqAt.none_str b t
  | _=>exact absurd (show false=true from fx) BE
 | bl a=>
  cases ry;cases x with
  | non=>cases rx;exact SeqAt.EqAt.bool_none a
  | bl b=>cases rx;exact SeqAt.EqAt.bool_bool a b
  | int b=>obtain⟨t,rfl⟩:=rx;exact SeqAt.EqAt.bool_int a b t
  | str b=>obtain⟨t,rfl⟩:=rx;exact SeqAt.EqAt.bool_str a b t
  | _=>exact absurd (show false=true from fx) BE
 | int a=>
  obtain⟨t',rfl⟩:=ry;cases x with
  | non=>cases rx;exact SeqAt.EqAt.int_none a t'
  | bl b=>cases rx;exact SeqAt.EqAt.int_bool a t' b
  | int b=>obtain⟨t,rfl⟩:=rx;exact SeqAt.EqAt.int_int a t' b t
  | str b=>obtain⟨t,rfl⟩:=rx;exact SeqAt.EqAt.int_str a t' b t
  | _=>exact absurd (show false=true from fx) BE
 | str a=>
  obtain⟨t',rfl⟩:=ry;cases x with
  | non=>cases rx;exact SeqAt.EqAt.str_none a t'
  | bl b=>cases rx;exact SeqAt.EqAt.str_bool a t' b
  | int b=>obtain⟨t,rfl⟩:=rx;exact SeqAt.EqAt.str_int a t' b t
  | str b=>obtain⟨t,rfl⟩:=rx;exact SeqAt.EqAt.str_str a t' b t
  | _=>exact absurd (show false=true from fx) BE
 | _=>exact absurd (show false=true from fy) BE
def Da (x:V)(u:Value):Bool:=match u with
 | .none=>ED .non x
 | .bool b=>ED (.bl b) x
 | .int i _=>ED (.int i) x
 | .str z _=>ED (.str z) x
 | _=>false
def QU (r:RelV y u)(f:E6 y=true):Da x u=ED y x:=by
 cases y with
 | non=>cases r;rfl
 | bl b=>cases r;rfl
 | int i=>obtain⟨t,rfl⟩:=r;rfl
 | str z=>obtain⟨t,rfl⟩:=r;rfl
 | _=>exact absurd (show false=true from f) BE
theorem Lq :∀{xs:List V}{us:List Value},Vals xs us->xs.all E6=true->us.any (Da x)=xs.any λy=>ED y x
 | _,_,.nil,_=>rfl
 | y::xs,u::us,.cons r t,f=>by rw[JK,BZ]at f;rw[JH,JH,QU r f.1,Lq t f.2]
theorem Jt (rx:RelV x v)(fx:E6 x=true):∀{xs:List V}{us:List Value},Vals xs us->xs.all E6=true->∀u∈us,SeqAt.EqAt A s u v (Da x u)
 | _,_,.nil,_=>λu hu=>by cases hu
 | y::xs,u::us,.cons r t,f=>λu' hu=>by
  rw[JK,BZ]at f;rcases(AL.mp hu)with rfl | hu
  ·rw[QU r f.1];exact lQ r rx f.1 fx
  exact Jt rx fx t f.2 u' hu
def Fs (x:V)(xs:List V):Bool:=xs.any λy=>ED y x
inductive Kw (K:W.Frag)(neg:Bool)(x:V)(y:V)(H:Hp)(Q:VK):Prop
 | mk (p:_) (xs:_) (c0:y=.ref p) (c1:(SqL K H p xs\/SqT K H p xs)) (c2:E6 x=true) (c3:xs.all E6=true) (c4:Q (.bl (if neg then !Fs x xs else Fs x xs)) H):Kw K neg x y H Q
def K4:Bt X (compareOp .In) (Kw X.K false):=by
 intro aa s σ H x y v u Q I rx ry h;obtain⟨p,xs,rfl,hq,fx,fs,q⟩:=h;cases ry;rcases hq with hq | hq
 ·obtain⟨its,r,pl,hz⟩:=I.list hq;refine SeqAt.in_listAt (Da x) pl.isList (λw hw=>Jt rx fx r fs w (by simpa using hw)) ⟨.bl _,H,I,rfl,?_⟩;rw[show its.toArray.any (Da x)=its.any (Da x) by simp,Lq r fs];exact q
 obtain⟨its,r,pl,hz⟩:=I.tuple hq;refine SeqAt.in_tupleAt (Da x) pl (λw hw=>Jt rx fx r fs w (by simpa using hw)) ⟨.bl _,H,I,rfl,?_⟩;rw[show its.toArray.any (Da x)=its.any (Da x) by simp,Lq r fs];exact q
def T4:Bt X (compareOp .NotIn) (Kw X.K true):=by
 intro aa s σ H x y v u Q I rx ry h;obtain⟨p,xs,rfl,hq,fx,fs,q⟩:=h;cases ry;rcases hq with hq | hq
 ·obtain⟨its,r,pl,hz⟩:=I.list hq;refine SeqAt.notIn_listAt (Da x) pl.isList (λw hw=>Jt rx fx r fs w (by simpa using hw)) ⟨.bl _,H,I,rfl,?_⟩;rw[show its.toArray.any (Da x)=its.any (Da x) by simp,Lq r fs];exact q
 obtain⟨its,r,pl,hz⟩:=I.tuple hq;refine SeqAt.notIn_tupleAt (Da x) pl (λw hw=>Jt rx fx r fs w (by simpa using hw)) ⟨.bl _,H,I,rfl,?_⟩;rw[show its.toArray.any (Da x)=its.any (Da x) by simp,Lq r fs];exact q
def Fz:Cp X (.type "list") (λxs H Q=>∃p ys,xs=[.ref p]/\(SqL X.K H p ys\/SqT X.K H p ys)/\∀l,H l=none->Q (.ref l) (Ab H l (.lst ys))):=by
 intro aa s σ H xs us Q I r h;obtain⟨p,ys,rfl,hq,q⟩:=h;obtain⟨u,rfl,rx⟩:=CB r;cases rx
 have fin:∀(its:List Value),Vals ys its->ys.length<=sizeLine->∀(h':Heap) (c':Nat),(∀b o',s.heap.get? b=some o'->h'.get? b=some o') ->
   h'.get? s.heap.objs.size=some { cls:=.type "list",dict:=none,data:=.seq its.toArray c',slots:=#[] }->EP X aa σ Q (.ref s.heap.objs.size) { s with heap:=h' }:=λits r' hz h' c' kp e=>
  ⟨.ref s.heap.objs.size,_,I.laid (t':=s.toks) kp (Au _) (show ObjOk X.prog X.w _ h' _ (.lst ys) from ⟨hz,its,c',r',e⟩),rfl,q _ (I.hok.fresh (Au _))⟩
 rcases hq with hq | hq
 ·obtain⟨its,r',pl,hz⟩:=I.list hq;have hlen:=r'.length;obtain⟨o,ho,hc,n,hd⟩:=pl.isList;exact call_list_seq p (.inl rfl) ho hc hd (λh' c' kp e=>fin its r' hz h' c' kp e) (by simp only[BB] <;> lia)
 obtain⟨its,r',pl,hz⟩:=I.tuple hq;have hlen:=r'.length;obtain⟨o,ho,hc,n,hd⟩:=pl;exact call_list_seq p (.inr rfl) ho hc hd (λh' c' kp e=>fin its r' hz h' c' kp e) (by simp only[BB] <;> lia)
def JB:Cp X (.type "tuple") (λxs H Q=>∃p ys,xs=[.ref p]/\((SqL X.K H p ys/\∀l,H l=none->Q (.ref l) (Ab H l (.tup ys)))\/(SqT X.K H p ys/\Q (.ref p) H))):=by
 intro aa s σ H xs us Q I r h;obtain⟨p,ys,rfl,h⟩:=h;obtain⟨u,rfl,rx⟩:=CB r;cases rx;rcases h with⟨hq,q⟩ | ⟨hq,q⟩
 ·obtain⟨its,r',pl,hz⟩:=I.list hq;have hlen:=r'.length;refine call_tuple_list pl.isList (λh' kp=>?_) (by simp only[BB] <;> lia);have I1:Inv X aa σ H { s with heap:=h' }:=I.kept (t':=s.toks) kp
  have I2:Inv X aa σ (Ab H h'.objs.size (.tup ys)) { s with heap:=h'.push { cls:=.type "tuple",data:=.seq its.toArray } }:=
   I1.laid (t':=s.toks) (λb o e=>AU _ e) (Au _) (show ObjOk X.prog X.w _ _ _ (.tup ys) from ⟨hz,its,r',IsTup.new _ _⟩)
  exact⟨.ref h'.objs.size,_,I2,rfl,q _ (I1.hok.fresh (Au _))⟩
 obtain⟨its,r',pl,hz⟩:=I.tuple hq;exact call_tuple_same pl ⟨.ref p,H,I,rfl,q⟩
def OM (K:W.Frag)(T:String)(x:V)(H:Hp):Prop:=match x with
 | .str _=>T = "str"
 | .int _=>T = "int"
 | .ref p=>(T = "list" /\ ∃xs,SqL K H p xs)\/(T = "tuple" /\ ∃o,K.lookup p=some o/\o.cls=.type "tuple" /\ o.dict=none) \/
   (T = "dict" /\ ((∃kvs,H p=some (.dK kvs))\/∃kvs,H p=some (.dT kvs)))\/(T = "set" /\ ∃S n,H p=some (.set S n))
 | _=>False
def Sn (I:Inv X aa σ H s)(r:RelV x v)(ty:OM X.K T x H) :
  s.TypeIs v T/\∀a,v=.ref a->∃ob,s.heap.get? a=some ob/\ob.dict=none:=by
 cases x with
 | str z=>obtain⟨t,rfl⟩:=r;cases (show T = "str" from ty);exact⟨Lx s z t,λ_ e=>nomatch e⟩
 | int i=>obtain⟨t,rfl⟩:=r;cases (show T = "int" from ty);exact⟨typeIs_int s i t,λ_ e=>nomatch e⟩
 | ref p=>
  cases r;rcases ty with⟨rfl,xs,hq⟩ | ⟨rfl,o,hk,hc,hd⟩ | ⟨rfl,hk⟩ | ⟨rfl,S,n,hk⟩
  ·obtain⟨its,_,pl,_⟩:=I.list hq;refine⟨pl.isList.typeIs,λa e=>?_⟩;cases e;obtain⟨o,n,e,c,hd,_⟩:=pl;exact⟨o,e,hd⟩
  ·refine⟨⟨o,I.kIn p o hk,hc⟩,λa e=>?_⟩;cases e;exact⟨o,I.kIn _ o hk,hd⟩
  ·have z:∃o,s.heap.get? p=some o/\o.ExactDict:=by
    rcases hk with⟨kvs,hk⟩ | ⟨kvs,hk⟩
    ·obtain⟨_,_,_,_,o,_,_,e,ex,_⟩:=I.hok p _ hk;exact⟨o,e,ex⟩
    obtain⟨_,_,_,_,o,_,_,e,ex,_⟩:=I.hok p _ hk;exact⟨o,e,ex⟩
   obtain⟨o,e,ex⟩:=z;refine⟨⟨o,e,ex.1⟩,λa e2=>?_⟩;cases e2;exact⟨o,e,ex.2.1⟩
  obtain⟨o,_,_,_,e,ex,_⟩:=I.hok p _ hk;refine⟨⟨o,e,ex.1⟩,λa e2=>?_⟩;cases e2;exact⟨o,e,ex.2.1⟩
 | _=>exact False.elim ty
def Xc (K:W.Frag)(T:String)(r:V->List V->Hp->VK->Prop)(to:TE):TE:=λσ H Q=>to σ H λx H1=>OM K T x H1/\r x [] H1 Q
def OS (K:W.Frag)(T:String)(r:V->List V->Hp->VK->Prop)(to:TE)(t:TA):TE:=λσ H Q=>to σ H λx H1=>OM K T x H1/\t σ H1 λxs H2=>r x xs H2 Q
variable {o e:Expr}{es:List Expr}{to:TE}{t:TA}{name:Str}{apos cpos:Pos}{T id:String}{r:V->List V->Hp->VK->Prop}
def Qs (pa:PlainAttrs T)(slot:Slot T name id)(hty:typeOf (.builtin id)=pure (.type "method_descriptor"))(hm:He X id r)(ho:PE X o to)
  (hbase:attributeBase o name X.env (eval o X.env)=eval o X.env:=by rfl)(hline:(apos.endLine == cpos.line)=true:=by rfl):PE X (.Call (.Attribute o name apos) [] [] cpos) (Xc X.K T r to):=by
 intro aa s σ H Q I h
 refine wpAny_Call_method0_late hbase hline (Aw (ho aa s σ H _ I h) λv s1 hp0=>?_)
 obtain⟨x,H1,I1,r1,ty,q1⟩:=hp0
 obtain⟨h1,h2⟩:=Sn I1 r1 ty
 exact⟨T,id,pa,slot,hty,h1,h2,JW rfl (PySem.evalArgs_none (hm aa s1 σ H1 x [] v [] Q I1 r1 .nil q1))⟩
def C1 (pa:PlainAttrs T)(slot:Slot T name id)(hty:typeOf (.builtin id)=pure (.type "method_descriptor"))(hm:He X id r)(ho:PE X o to)(ha:PA X (e::es) t)
  (hbase:attributeBase o name X.env (eval o X.env)=eval o X.env:=by rfl)
  (hfew:((backTo cpos (starEach (e::es) X.env)).all (λx=>!x.1) && (backToKw cpos (keywordEach [] X.env)).all (λx=>x.1.isSome) && decide ((e::es).length+([]:List Keyword).length+(if ([]:List Keyword).isEmpty then 0 else 1)<30))=true:=by rfl)
  (hline:(apos.endLine == cpos.line)=true:=by rfl)(hs:starEach (e::es) X.env=(false,eval e X.env)::starEach es X.env:=by rfl)(hplain:(backTo cpos (starEach es X.env)).any (·.1)=false:=by rfl) :
  PE X (.Call (.Attribute o name apos) (e::es) [] cpos) (OS X.K T r to t):=by
 intro aa s σ H Q I h
 refine wpAny_Call_method_late hbase hfew hline rfl (Aw (ho aa s σ H _ I h) λv s1 hp0=>?_)
 obtain⟨x,H1,I1,r1,ty,q1⟩:=hp0
 obtain⟨h1,h2⟩:=Sn I1 r1 ty
 refine⟨T,id,pa,slot,hty,h1,h2,?_⟩
 have hA:=ha cpos aa s1 σ H1 _ I1 q1
 rw[hs]at hA ⊢
 refine JW (by show(false || (backTo cpos (starEach es X.env)).any (·.1))=false;rw[hplain] <;> rfl) (Ou ?_)
 exact Aw hA λus s2 hp0=>by obtain⟨vs,H2,I2,r2,q2⟩:=hp0;exact hm aa s2 σ H2 x vs v us Q I2 r1 r2 q2
end
def R9 (X:Cx)(id:String)(r:V->List V->Hp->VK->Prop):Prop:=
 ∀(aa:List (Addr×Obj)) (s:Shared) (σ:St) (H:Hp) (x:V) (xs:List V) (v:Value) (us:List Value) (Q:VK),Inv X aa σ H s->RelV x v->Vals xs us->r x xs H Q ->
  wpAny (model X.prog X.w) X.A (call (.builtin id) (v::us)) (EP X aa σ Q) X.xe s
theorem Vals.one:∀{x:V}{us:List Value},Vals [x] us->∃u,us=[u]/\RelV x u
 | _,_,.cons r .nil=>⟨_,rfl,r⟩
theorem Vals.zero:∀{us:List Value},Vals [] us->us=[]
 | _,.nil=>rfl
def Vals.reverse (h:Vals xs us):Vals xs.reverse us.reverse:=by
 induction h with
 | nil=>exact .nil
 | cons r t ih=>rw[On,On];exact Vals.append ih (.cons r .nil)
section
variable {X:Cx}{aa:List (Addr×Obj)}{σ:St}{H:Hp}{s:Shared}{l b:Addr}{xs ys zs:List V}
def Inv.lset {its its':List Value}{n:Nat}{f:Array Value->Array Value}{t':Nat}(I:Inv X aa σ H s)(hH:H l=some (.lst xs))
  (e:s.heap.get? l=some { cls:=.type "list",data:=.seq its.toArray n })(hf:f its.toArray=its'.toArray)(hv:Vals ys its')(hz:ys.length<=sizeLine) :
  Inv X aa σ (Ab H l (.lst ys)) { s with heap:=s.heap.update l (Obj.mapSeq f),toks:=t' }:=by
 have q:=PySem.IsL.update e f
 rw[hf]at q
 refine I.write (x:=l) (e:=l) (by rw[hH];exact trivial) (.inl rfl) (λb' u hb hu=>(LS s.heap (Obj.mapSeq f) (Ea hb)).trans hu) ⟨_,q⟩ ?_
 exact⟨hz,its',_,hv,q⟩
def Inv.lnew (I:Inv X aa σ H s)(hv:Vals ys its)(hz:ys.length<=sizeLine) :
  Inv X aa σ (Ab H s.heap.objs.size (.lst ys)) { s with heap:=s.heap.push { cls:=.type "list",data:=.seq its.toArray },toks:=t' }:=
 I.laid (λ_ _ q=>AU _ q) (Au _) ⟨hz,its,0,hv,Bg _ rfl⟩
def Inv.fresh (I:Inv X aa σ H s):H s.heap.objs.size=none:=I.hok.fresh (Au _)
def Inv.lstM (I:Inv X aa σ H s)(hH:H l=some (.lst xs)):xs.length<=sizeLine/\∃(its:List Value) (n:Nat),Vals xs its/\xs.length=its.length/\s.heap.get? l=some { cls:=.type "list",data:=.seq its.toArray n }:=by obtain⟨z,its,n,r,e⟩:=I.hok l _ hH;exact⟨z,its,n,r,r.length,e⟩
end
section
variable {X:Cx}
def YU:V->List V->Hp->VK->Prop:=λx vs H Q=>∃l xs y,x=.ref l/\vs=[y]/\H l=some (.lst xs)/\xs.length<sizeLine/\Q .non (Ab H l (.lst (xs++[y])))
def HM:R9 X "list.append" YU:=by intro aa s σ H x vs v us Q I rx rv h;obtain⟨l,xs,y,rfl,rfl,hH,hz,q⟩:=h;cases rx;obtain⟨u,rfl,ru⟩:=rv.one;obtain⟨z,its,n,r,hl,e⟩:=I.lstM hH;refine GU Ia ⟨_,e,rfl⟩ F.entry_list_append (F.args_list_append_2 _ _) (PySem.list_append l its.toArray n u (by rw[BB];lia)) ⟨e,?_⟩;refine⟨.non,_,I.lset (its':=its++[u]) hH e (by simp) (r.append (.cons ru .nil)) ?_,rfl,q⟩;rw[AY,Oj];lia
def YI:V->List V->Hp->VK->Prop:=λx vs H Q=>∃l xs,x=.ref l/\vs=[]/\H l=some (.lst xs)/\Q .non (Ab H l (.lst xs.reverse))
def gJ:R9 X "list.reverse" YI:=by intro aa s σ H x vs v us Q I rx rv h;obtain⟨l,xs,rfl,rfl,hH,q⟩:=h;cases rx;have hus:=rv.zero;subst hus;obtain⟨z,its,n,r,hl,e⟩:=I.lstM hH;refine GU F.slot_list_reverse ⟨_,e,rfl⟩ F.entry_list_reverse (F.args_list_reverse_1 _) (AutoSeq1.list_reverse_list_0 l its.toArray n (by rw[BB];lia)) ⟨e,?_⟩;refine⟨.non,_,I.lset (its':=its.reverse) hH e (by simp) r.reverse ?_,rfl,q⟩;rw[Ip];lia
def YT:R2:=λx y H Q=>∃l b xs zs,x=.ref l/\y=.ref b/\H l=some (.lst xs)/\H b=some (.lst zs)/\xs.length+zs.length<=sizeLine/\∀p,H p=none->Q (.ref p) (Ab H p (.lst (xs++zs)))
def Jo:Bt X (binaryOp .Add) YT:=by
 intro aa s σ H x y v u Q I rx ry h;obtain⟨l,b,xs,zs,rfl,rfl,hH,hB,hz,q⟩:=h;cases rx;cases ry;obtain⟨z,its,n,r,hl,e⟩:=I.lstM hH;obtain⟨z2,its2,n2,r2,hl2,e2⟩:=I.lstM hB;refine PySem.P.add_list e e2 ?_ (by rw[BB,BB];lia);have ea:its.toArray++its2.toArray=(its++its2).toArray:=by simp
 rw[ea];exact⟨.ref _,_,I.lnew (t':=s.toks) (r.append r2) (by rw[AY];lia),rfl,q _ I.fresh⟩
end
section
variable {κ:Type} [DecidableEq κ]
def Ay (kvs:List (κ×V))(k:κ):Option V:=(kvs.find? λkv=>decide (kv.1=k)).map (·.2)
def BL (kvs:List (κ×V))(k:κ)(v:V):List (κ×V):=
 if (kvs.any λkv=>decide (kv.1=k))=true then kvs.map (λkv=>if kv.1=k then(kv.1,v)else kv)else kvs++[(k,v)]
def B0 {k:κ}(e:p.1=k):Ay (p::r) k=some p.2:=by simp[Ay,F9,e]
def Bn {k:κ}(e:¬p.1=k):Ay (p::r) k=Ay r k:=by simp[Ay,F9,e]
theorem Fe (k:κ):∀kvs:List (κ×V),(kvs.any λkv=>decide (kv.1=k))=(Ay kvs k).isSome
 | []=>rfl
 | p::r=>by
  rw[JH];by_cases e:p.1=k
  ·simp only[B0 e,AR e,Bool.true_or,Option.isSome_some]
  rw[Bn e,BC e,Bool.false_or];exact Fe k r
theorem Sl (k j:κ)(y:V):∀kvs:List (κ×V),Ay (kvs.map λkv=>if kv.1=k then(kv.1,y)else kv) j=(Ay kvs j).map λx=>if j=k then y else x
 | []=>rfl
 | p::r=>by
  have ih:=Sl k j y r;rw[A9];by_cases h:p.1=k
  ·rw[As h];by_cases e:p.1=j
   ·rw[B0 (p:=(p.1,y)) e,B0 e,map_some,As (e.symm.trans h)]
   rw[Bn (p:=(p.1,y)) e,Bn e,ih]
  rw[Am h];by_cases e:p.1=j
  ·rw[B0 (p:=p) e,B0 e,map_some,Am (λz=>h (e.trans z))]
  rw[Bn (p:=p) e,Bn e,ih]
theorem Sj (k j:κ)(y:V):∀kvs:List (κ×V),Ay kvs k=none->Ay (kvs++[(k,y)]) j=if j=k then some y else Ay kvs j
 | [],_=>by
  by_cases e:k=j
  ·rw[As e.symm];exact B0 (p:=(k,y)) e
  rw[Am (λz=>e z.symm)];exact Bn (p:=(k,y)) e
 | p::r,hn=>by
  rw[Ij];have hk:¬p.1=k:=λz=>by rw[B0 z]at hn;cases hn
  rw[Bn hk]at hn;have ih:=Sj k j y r hn;by_cases e:p.1=j
  ·rw[B0 e,B0 e,Am (λz=>hk (e.trans z))]
  rw[Bn e,Bn e,ih]
def Ed (kvs:List (κ×V))(k j:κ)(y:V):Ay (BL kvs k y) j=if j=k then some y else Ay kvs j:=by
 unfold BL;by_cases a:(kvs.any λkv=>decide (kv.1=k))=true
 ·rw[As a,Sl];rw[Fe]at a;by_cases e:j=k
  ·obtain⟨x,hx⟩:=isSome_iff_exists.mp a;rw[As e,e,hx,map_some,As rfl]
  rw[Am e];cases Ay kvs j with
  | none=>rfl
  | some x=>rw[map_some,Am e]
 rw[Am a];refine Sj k j y kvs ?_;rw[Fe]at a;cases q:Ay kvs k with
 | none=>rfl
 | some x=>rw[q]at a;exact(a rfl).elim
def Ju (kvs:List (κ×V))(k:κ)(v:V):(BL kvs k v).length<=kvs.length+1:=by
 unfold BL;split
 ·rw[Ak];lia
 rw[AY,CS,length_nil];lia
def Eg {k:κ}(v:V)(h:Ay kvs k=none):BL kvs k v=kvs++[(k,v)]:=by unfold BL;rw[Fe,h];exact Am (by decide)
def RelO.isSome_eq (r:RelO o u):o.isSome=u.isSome:=by
 cases o with
 | none=>cases u with
  | none=>rfl
  | some _=>exact(show False from r).elim
 | some _=>cases u with
  | none=>exact(show False from r).elim
  | some _=>rfl
def RelO.getD (r:RelO o u)(rd:RelV d d'):RelV (o.getD d) (u.getD d'):=by
 cases o with
 | none=>cases u with
  | none=>exact rd
  | some _=>exact(show False from r).elim
 | some _=>cases u with
  | none=>exact(show False from r).elim
  | some _=>exact r
def KV.val (r:KV kvs vs)(k:κ):RelO (Ay kvs k) (valueAt vs k):=by
 unfold KV at r;induction r with
 | nil=>exact GV
 | @cons p q ps qs h t ih=>
  obtain⟨h1,h2⟩:=h;by_cases e:p.1=k
  ·have e':q.1=k:=h1.symm.trans e;have b:valueAt (q::qs) k=some q.2:=by simp[valueAt,F9,e']
   rw[B0 e,b];exact h2
  have e':¬q.1=k:=λz=>e (h1.trans z);have b:valueAt (q::qs) k=valueAt qs k:=by simp[valueAt,F9,e']
  rw[Bn e,b];exact ih
def KV.any (r:KV kvs vs)(k:κ):(kvs.any λkv=>decide (kv.1=k))=vs.any λkv=>decide (kv.1=k):=by
 unfold KV at r;induction r with
 | nil=>rfl
 | cons h t ih=>rw[JH,JH,ih,h.1]
def KV.repl (r:KV kvs vs)(k:κ) (ry:RelV y u) :
  KV (kvs.map λkv=>if kv.1=k then(kv.1,y)else kv) (vs.map λkv=>if kv.1=k then(kv.1,u)else kv):=by
 unfold KV at r ⊢
 induction r with
 | nil=>exact .nil
 | @cons p q ps qs h t ih=>
  rw[A9,A9];refine .cons ?_ ih;obtain⟨h1,h2⟩:=h;by_cases e:p.1=k
  ·rw[As e,As (h1.symm.trans e)];exact⟨h1,ry⟩
  rw[Am e,Am (λz=>e (h1.trans z))];exact⟨h1,h2⟩
def KV.put (r:KV kvs vs)(k:κ) (ry:RelV y u):KV (BL kvs k y) (stored vs k u):=by
 unfold BL stored;rw[r.any k];by_cases e:(vs.any λkv=>decide (kv.1=k))=true
 ·rw[As e,As e];exact r.repl k ry
 rw[Am e,Am e];exact Paired.snoc r ⟨rfl,ry⟩
def KV.keys {kvs:List (κ×V)}{vs:List (κ×Value)}(r:KV kvs vs):kvs.map (·.1)=vs.map (·.1):=by
 unfold KV at r;induction r with
 | nil=>rfl
 | cons h t ih=>rw[A9,A9,ih,h.1]
def KV.length (r:KV kvs vs):kvs.length=vs.length:=G6 r
end
def Ek {k:Af} (r:RelV (kV k) u):(Bv P w).is k u=true:=by
 cases k with
 | inl i=>obtain⟨t,e⟩:=(show ∃t,u=Value.int i t from r);subst e;exact gR P w i t
 | inr x=>obtain⟨t,e⟩:=(show ∃t,u=Value.str x t from r);subst e;exact gQ P w x t
abbrev KT (H:Hp):List (PyData×V)->List (PyData×Addr×Value)->Prop:=Paired λp q=>p.1=q.1/\RdT H q.2.1 p.1/\RelV p.2 q.2.2
def KT.val (r:KT H kvs xs)(k:PyData):RelO (Ay kvs k) ((atKey xs k).map (·.2)):=by
 induction r with
 | nil=>exact GV
 | @cons p q ps qs h t ih=>
  obtain⟨h1,_,h2⟩:=h;by_cases e:p.1=k
  ·have e':q.1=k:=h1.symm.trans e;have b:atKey (q::qs) k=some q.2:=by simp[atKey,F9,e']
   rw[B0 e,b];exact h2
  have e':¬q.1=k:=λz=>e (h1.trans z);have b:atKey (q::qs) k=atKey qs k:=by simp[atKey,F9,e']
  rw[Bn e,b];exact ih
def KT.repl (r:KT H kvs xs)(k:PyData) (ry:RelV y u) :
  KT H (kvs.map λkv=>if kv.1=k then(kv.1,y)else kv) (xs.map (putAt k u)):=by
 induction r with
 | nil=>exact .nil
 | @cons p q ps qs h t ih=>
  rw[A9,A9];refine .cons ?_ ih;obtain⟨h1,h2,h3⟩:=h;unfold putAt;by_cases e:p.1=k
  ·rw[As e,As (h1.symm.trans e)];exact⟨h1,h2,ry⟩
  rw[Am e,Am (λz=>e (h1.trans z))];exact⟨h1,h2,h3⟩
def KT.put (r:KT H kvs xs)(k:PyData) (hb:RdT H b k)(ry:RelV y u) :
  KT H (BL kvs k y) (storedH xs k b u):=by
 have e:(kvs.any λkv=>decide (kv.1=k))=(atKey xs k).isSome:=by rw[Fe,(r.val k).isSome_eq,isSome_map]
 unfold BL storedH
 rw[e]
 by_cases q:(atKey xs k).isSome=true
 ·rw[As q,As q];exact r.repl k ry
 rw[Am q,Am q];exact Paired.snoc r ⟨rfl,hb,ry⟩
def KT.keeps (r:KT H kvs xs)(ht:∀b ys,H b=some (.tup ys)->H' b=some (.tup ys)):KT H' kvs xs:=
 Paired.mapP r λ_ _ z=>⟨z.1,z.2.1.same ht,z.2.2⟩
section
variable {P:Program}{w:World}{H:Hp}{h:Heap}{a:Addr}
def Tp (ok:HOk P w H h)(e:Rd H a u):ObjOk P w H h a u:=e.ok ok
def E7 (ok:HOk P w H h)(e:Rd H a (.dK kvs)):kvs.length<=sizeLine/\(a == sysModules)=false/\∃vs,KV kvs vs/\h.DictOf (Bv P w) a vs:=
 show ObjOk P w H h a (.dK kvs) from Tp ok e
def F3 (ok:HOk P w H h)(e:H a=some (.dK kvs)):kvs.length<=sizeLine/\(a == sysModules)=false/\∃vs,KV kvs vs/\h.DictOf (Bv P w) a vs:=E7 ok (.inl e)
mutual
theorem RdD.reads (ok:HOk P w H h):∀{x:V}{d:PyData}{u:Value},RdD H x d->RelV x u->∃as,Reads h u d as
 | _,_,_,.non,r=>by cases r;exact⟨_,.none⟩
 | _,_,_,.str x,r=>by obtain⟨t,rfl⟩:=r;exact⟨_,.str x t⟩
 | _,_,_,.tup (a:=a) e rs,r=>by cases r;obtain⟨z,its,rv,o,ho,hc,n,hd⟩:=ok a _ e;obtain⟨as,ra⟩:=RdDs.reads ok rs rv;exact⟨as,.tuple ho hc hd (by simpa using ra)⟩
theorem RdDs.reads (ok:HOk P w H h):∀{xs:List V}{ds:List PyData}{us:List Value},RdDs H xs ds->Vals xs us->∃as,ReadsAll h us ds as
 | _,_,_,.nil,r=>by cases r;exact⟨_,.nil⟩
 | _,_,_,.cons a b,r=>by
  cases r with
  | cons r1 r2=>obtain⟨as,h1⟩:=RdD.reads ok a r1;obtain⟨bs,h2⟩:=RdDs.reads ok b r2;exact⟨_,.cons h1 h2⟩
end
def key_of {k:PyData}(ok:HOk P w H h)(e:RdT H a k):(WK.dataKind P w).is h k a:=⟨e.ok,e.lay,e.dp,e.de,e.rd.reads ok rfl⟩
def GD (ok:HOk P w H h)(e:Rd H a (.dT kvs)):kvs.length<=sizeLine/\(a == sysModules)=false /\
  ∃xs,KT H kvs xs/\h.DictOfH (WK.dataKind P w) a xs:=by
 obtain⟨z,y,xs,r,o,es,ep,h1,h2,h3,h4,h5⟩:=(show ObjOk P w H h a (.dT kvs) from Tp ok e)
 refine⟨z,y,xs,r,o,es,ep,h1,h2,h3,h4,λx hx=>?_,h5⟩
 have all:∀{l:List (PyData×V)}{m:List (PyData×Addr×Value)},KT H l m->∀x∈m,(WK.dataKind P w).is h x.1 x.2.1:=by
  intro l m q;induction q with
  | nil=>intro x hx;exact nomatch hx
  | @cons p q ps qs hq t ih=>
   intro x hx;rcases(AL.mp hx)with e | hx
   ·subst e;exact key_of ok (by rw[<- hq.1];exact hq.2.1)
   exact ih x hx
 exact all r x hx
def lW (ok:HOk P w H h)(e:H a=some (.dT kvs)):kvs.length<=sizeLine/\(a == sysModules)=false /\
  ∃xs,KT H kvs xs/\h.DictOfH (WK.dataKind P w) a xs:=GD ok (.inl e)
end
def DGet (H:Hp)(a:Addr)(y:V)(r:Option V):Prop:=
 (∃kvs k,Rd H a (.dK kvs)/\y=kV k/\r=Ay kvs k)\/∃kvs k b,Rd H a (.dT kvs)/\y=.ref b/\RdT H b k/\r=Ay kvs k
def DPut (H:Hp)(a:Addr)(y v:V)(H':Hp):Prop:=
 (∃kvs k,H a=some (.dK kvs)/\y=kV k/\kvs.length<sizeLine/\H'=Ab H a (.dK (BL kvs k v))) \/
 ∃kvs k b,H a=some (.dT kvs)/\y=.ref b/\RdT H b k/\kvs.length<sizeLine/\H'=Ab H a (.dT (BL kvs k v))
theorem DGet.k {k:Af}(e:H a=some (.dK kvs)):DGet H a (kV k) (Ay kvs k):=.inl ⟨kvs,k,.inl e,rfl,rfl⟩
def DGet.t {k:PyData}(e:H a=some (.dT kvs))(eb:RdT H b k):DGet H a (.ref b) (Ay kvs k):=.inr ⟨kvs,k,b,.inl e,rfl,eb,rfl⟩
theorem DPut.k {k:Af} (e:H a=some (.dK kvs))(hl:kvs.length<sizeLine):DPut H a (kV k) v (Ab H a (.dK (BL kvs k v))):=.inl ⟨kvs,k,e,rfl,hl,rfl⟩
def DPut.t {k:PyData} (e:H a=some (.dT kvs))(eb:RdT H b k)(hl:kvs.length<sizeLine) :
  DPut H a (.ref b) v (Ab H a (.dT (BL kvs k v))):=.inr ⟨kvs,k,b,e,rfl,eb,hl,rfl⟩
section
variable {X:Cx}{aa:List (Addr×Obj)}{σ:St}{H:Hp}{s:Shared}{a:Addr}{y v:V}{u r:Value}{o:Option V}{A:Around}{E:Value->Shared->Prop}
def Inv.big (I:Inv X aa σ H s):sysModules<s.heap.objs.size:=by have h:mainGlobals<s.heap.objs.size:=(I.mod.glob.keeps I.bk).lt;exact Ib (by decide) h
def mM (hu:A.units+20<cLine)(I:Inv X aa σ H s)(g:DGet H a y (some v))(ry:RelV y u)(h:∀w' s',Inv X aa σ H s'->RelV v w'->Q w' s') :
  wpAny (model X.prog X.w) A (getItem (.ref a) u) Q E s:=by
 rcases g with⟨kvs,k,e,ey,l⟩ | ⟨kvs,k,b,e,ey,eb,l⟩
 ·subst ey;obtain⟨z,hd,vs,rel,dd⟩:=E7 I.hok e;obtain⟨w',hw,rw'⟩:=RelO.some_of (v:=v) (o:=valueAt vs k) (by rw[l];exact rel.val k);exact wpAny_getItem_of (Ek ry) dd.mapOf hw (h w' _ (I.tok _) rw')
 subst ey
 cases (show u=Value.ref b from ry)
 obtain⟨z,hd,xs,rel,dd⟩:=GD I.hok e
 obtain⟨w',hw,rw'⟩:=RelO.some_of (v:=v) (o:=(atKey xs k).map (·.2)) (by rw[l];exact rel.val k)
 obtain⟨p,hp,hp2⟩:=JN.mp hw
 refine wpAny_getItem_heap (WK.room_in1 hu) (key_of I.hok eb) dd hp ?_
 rw[hp2]
 exact h w' _ (I.tok _) rw'
def mK (hu:A.units+20<cLine)(I:Inv X aa σ H s)(g:DGet H a y o)(ry:RelV y u)(h:∀s',Inv X aa σ H s'->Q (.bool o.isSome) s') :
  wpAny (model X.prog X.w) A (compareOp .In u (.ref a)) Q E s:=by
 rcases g with⟨kvs,k,e,ey,l⟩ | ⟨kvs,k,b,e,ey,eb,l⟩
 ·subst ey;obtain⟨z,hd,vs,rel,dd⟩:=E7 I.hok e;refine wpAny_in_of (Ek ry) hd dd.mapOf ?_;rw[<- (rel.val k).isSome_eq,<- l];exact h _ (I.tok _)
 subst ey
 cases (show u=Value.ref b from ry)
 obtain⟨z,hd,xs,rel,dd⟩:=GD I.hok e
 refine wpAny_in_heap (WK.room_in1 hu) (key_of I.hok eb) hd dd ?_
 have q:=(rel.val k).isSome_eq
 rw[isSome_map]at q
 rw[<- q,<- l]
 exact h _ (I.tok _)
def mI (hu:A.units+20<cLine)(I:Inv X aa σ H s)(g:DGet H a y o)(ry:RelV y u)(h:∀s',Inv X aa σ H s'->Q (.bool (!o.isSome)) s') :
  wpAny (model X.prog X.w) A (compareOp .NotIn u (.ref a)) Q E s:=by
 rcases g with⟨kvs,k,e,ey,l⟩ | ⟨kvs,k,b,e,ey,eb,l⟩
 ·subst ey;obtain⟨z,hd,vs,rel,dd⟩:=E7 I.hok e;refine wpAny_notIn_of (Ek ry) hd dd.mapOf ?_;rw[<- (rel.val k).isSome_eq,<- l];exact h _ (I.tok _)
 subst ey
 cases (show u=Value.ref b from ry)
 obtain⟨z,hd,xs,rel,dd⟩:=GD I.hok e
 refine wpAny_notIn_heap (WK.room_in1 hu) (key_of I.hok eb) hd dd ?_
 have q:=(rel.val k).isSome_eq
 rw[isSome_map]at q
 rw[<- q,<- l]
 exact h _ (I.tok _)
def Q0 (I:Inv X aa σ H s)(mu:LZ (H a))(hs:Heap.SameBut a s.heap h')(he:∃q,h'.get? a=some q)(new:ObjOk X.prog X.w (Ab H a ob) h' a ob) :
  Inv X aa σ (Ab H a ob) { s with heap:=h',toks:=t' }:=
 I.write (x:=a) (e:=a) mu (.inl rfl) (λb q hb z=>(hs.2 b hb).trans z) he new
def Vg (z:kvs.length<=sizeLine)(hd:(a == sysModules)=false)(rel:KV kvs vs)(dd:h'.DictOf (Bv P w) a vs) :
  ObjOk P w H' h' a (.dK kvs):=⟨z,hd,vs,rel,dd⟩
def mH (hu:A.units+20<cLine)(I:Inv X aa σ H s)(g:DPut H a y v H')(ry:RelV y u)(rv:RelV v r)(h:∀s',Inv X aa σ H' s'->Q () s') :
  wpAny (model X.prog X.w) A (setItem (.ref a) u r) Q E s:=by
 rcases g with⟨kvs,k,e,ey,l,eH⟩ | ⟨kvs,k,b,e,ey,eb,l,eH⟩
 ·subst ey eH;obtain⟨z,hd,vs,rel,dd⟩:=F3 I.hok e;have hz:vs.length<=sizeLine:=by rw[<- rel.length];exact z
  have hl:(BL kvs k v).length<=sizeLine:=by have:=Ju kvs k v;lia
  refine wpAny_setItem_pairs (hsz:=hz) (Ek ry) dd λh' dd' hs=>h _ ?_;have he:∃q,h'.get? a=some q:=let ⟨q,_,_,hq,_⟩:=dd';⟨q,hq⟩;exact Q0 I (by rw[e];exact GV) hs he (Vg hl hd (rel.put k rv) dd')
 subst ey eH
 cases (show u=Value.ref b from ry)
 obtain⟨z,hd,xs,rel,dd⟩:=lW I.hok e
 have hz:xs.length<=sizeLine:=by rw[<- G6 rel];exact z
 have hl:(BL kvs k v).length<=sizeLine:=by have:=Ju kvs k v;lia
 refine wpAny_setItem_heap (hsz:=hz) (WK.room_in1 hu) (key_of I.hok eb) dd λh' dd' hs=>h _ ?_
 obtain⟨q,es,ep,hq,h2,h3,h4,_,h5⟩:=dd'
 refine Q0 I (by rw[e];exact GV) hs ⟨q,hq⟩ ⟨hl,hd,_,(rel.put k eb rv).keeps λc ys ec=>?_,q,es,ep,hq,h2,h3,h4,h5⟩
 rw[Ai (A7 ec e (λz=>nomatch z))]
 exact ec
end
section
variable {X:Cx}{aa:List (Addr×Obj)}{σ:St}{H:Hp}{s:Shared}{a:Addr}{kvs:List (Af×V)}{k:Af}{u:Value}{A:Around}{E:Value->Shared->Prop}
def mJ (I:Inv X aa σ H s)(e:Rd H a (.dK kvs))(h:∀t s',Inv X aa σ H s'->Q (.int kvs.length t) s'):wpAny (model X.prog X.w) A (call (.builtin "len") [.ref a]) Q E s:=by obtain⟨z,hd,vs,rel,dd⟩:=E7 I.hok e;refine call_len_dict hd dd (by rw[<- rel.length];rw[AK]at z;lia) ?_;rw[<- rel.length];exact h _ _ (I.tok _)
end
def R8 (i:Expr):Prop:=∀ov iv,subscripted i false ov iv=operate [ov,iv] (getItem ov iv)
def SS {prog:Program}{w:World}{A:Around}{E:Value->Shared->Prop}{s:Shared}{env:Env}{value slice:Expr}{pos:Pos}{T id:String}{Q:Value->Shared->Prop}
  (hl:typeLookup (.type T) "__getitem__" = pure (some (.builtin id)))(hs:R8 slice)
  (h:wpAny (model prog w) A (eval value env) (λo s₁=>wpAny (model prog w) A (eval slice env) (λi s₂=>s₂.TypeIs o T/\wpAny (model prog w) A (getItem o i) Q E s₂) E s₁) E s) :
  wpAny (model prog w) A (eval (.Subscript value slice pos) env) Q E s:=by
 refine Subscript_ (DB h (λo s₁ h₁=>DB h₁ (λi s₂ h₂=>?_) λ_ _ x=>x) λ_ _ x=>x)
 obtain⟨hT,h₂⟩:=h₂
 unfold subscriptTail
 refine Ae ?_
 rw[getitemInPython_of_ne hT.not_modules]
 refine Ae (EL hT hl ?_)
 have fin:wpAny (model prog w) A (subscripted slice false o i) (λr s₃=>wpAny (model prog w) A (letTemporaryGo value o r >>= λ_=>pure r) Q E s₃) E s₂:=by rw[hs o i];exact wpAny_operating (DB h₂ (λr s₃ h₃=>Ae (wpAny_letTemporaryGo (An h₃))) λ_ _ x=>x)
 first
  | exact An (Ae fin)
  | exact Ae (An (Ae fin))
  | exact Ae fin
def mD (I:Inv X aa σ H s)(g:DGet H a y o):s.TypeIs (.ref a) "dict" := by
 rcases g with⟨kvs,k,e,_,_⟩ | ⟨kvs,k,b,e,_,_,_⟩
 ·obtain⟨_,_,vs,_,dd⟩:=E7 I.hok e;exact dd.typeIs
 obtain⟨_,_,xs,_,dd⟩:=GD I.hok e;exact dd.typeIs
inductive UP (Q:VK)(x y:V)(H2:Hp):Prop
 | mk (a:_) (v:_) (c0:x=.ref a) (c1:DGet H2 a y (some v)) (c2:Q v H2):UP Q x y H2
def Xa (td ty:TE):TE:=λσ H Q=>td σ H λx H1=>ty σ H1 λy H2=>UP Q x y H2
inductive UL (Q:VK)(x y:V)(H2:Hp):Prop
 | mk (a:_) (o:_) (c0:x=.ref a) (c1:DGet H2 a y o) (c2:Q (.bl o.isSome) H2):UL Q x y H2
def W7 (ty td:TE):TE:=λσ H Q=>ty σ H λy H1=>td σ H1 λx H2=>UL Q x y H2
def W4 (ty td:TE):TE:=λσ H Q=>ty σ H λy H1=>td σ H1 λx H2=>∃a o,x=.ref a/\DGet H2 a y o/\Q (.bl (!o.isSome)) H2
def Yn (td ty tv:TE):TS:=λD σ H=>tv σ H λv H1=>td σ H1 λx H2=>ty σ H2 λy H3=>∃a H4,x=.ref a/\DPut H3 a y v H4/\D.nx σ H4
section
variable {X:Cx}{o i e value:Expr}{pos pos' tpos:Pos}{td ty tv:TE}
def B6 (hu:X.A.units+20<cLine)(ho:PE X o td)(hi:PE X i ty)(hs:R8 i):PE X (.Subscript o i pos) (Xa td ty):=by intro aa s σ H Q I h;refine SS VZ.lookup hs (Aw (ho aa s σ H _ I h) λu s1 hp0=>?_);obtain⟨x,H1,I1,rx,q1⟩:=hp0;refine Aw (hi aa s1 σ H1 _ I1 q1) λiv s2 hp1=>?_;obtain⟨y,H2,I2,ry,a,v,ex,g,q2⟩:=hp1;subst ex;obtain rfl:u=Value.ref a:=rx;exact⟨mD I2 g,mM hu I2 g ry λw' s3 I3 rw'=>⟨v,H2,I3,rw',q2⟩⟩
def KE (hu:X.A.units+20<cLine)(hi:PE X i ty)(ho:PE X o td):PC X .In i o (W7 ty td):=by intro aa s σ H Q I h;refine Aw (hi aa s σ H _ I h) λiv s1 hp0=>?_;obtain⟨y,H1,I1,ry,q1⟩:=hp0;refine Aw (ho aa s1 σ H1 _ I1 q1) λu s2 hp1=>?_;obtain⟨x,H2,I2,rx,a,ov,ex,g,q2⟩:=hp1;subst ex;obtain rfl:u=Value.ref a:=rx;exact mK hu I2 g ry λs3 I3=>⟨.bl ov.isSome,H2,I3,rfl,q2⟩
def Ng (hu:X.A.units+20<cLine)(hi:PE X i ty)(ho:PE X o td):PC X .NotIn i o (W4 ty td):=by intro aa s σ H Q I h;refine Aw (hi aa s σ H _ I h) λiv s1 hp0=>?_;obtain⟨y,H1,I1,ry,q1⟩:=hp0;refine Aw (ho aa s1 σ H1 _ I1 q1) λu s2 hp1=>?_;obtain⟨x,H2,I2,rx,a,ov,ex,g,q2⟩:=hp1;subst ex;obtain rfl:u=Value.ref a:=rx;exact mI hu I2 g ry λs3 I3=>⟨.bl (!ov.isSome),H2,I3,rfl,q2⟩
def Dg (hu:X.A.units+20<cLine)(ho:PE X o td)(hi:PE X i ty)(hv:PE X value tv)(hs:swapsWith value (some (.Subscript o i pos')) pos.line X.env=pure false) :
  PS X (.Assign [.Subscript o i pos'] value pos) (Yn td ty tv):=by
 intro aa s σ H D I h
 refine wpAny_Assign_Subscript (Aw (hv aa s σ H _ I h) λr s1 hp0=>?_) hs
 obtain⟨v,H1,I1,rv,q1⟩:=hp0
 refine Aw (ho aa s1 σ H1 _ I1 q1) λu s2 hp1=>?_
 obtain⟨x,H2,I2,rx,q2⟩:=hp1
 refine Aw (hi aa s2 σ H2 _ I2 q2) λiv s3 hp2=>?_
 obtain⟨y,H3,I3,ry,a,H4,ex,g,q3⟩:=hp2
 subst ex
 obtain rfl:u=Value.ref a:=rx
 exact mH hu I3 g ry rv λs4 I4=>⟨σ,H4,I4,q3⟩
end
def Vh (h:Heap)(hb:sysModules<h.objs.size):ObjOk P w H (h.push { cls:=.type "dict",data:=.dict #[] }) h.objs.size (.dK []):=
 ⟨A5 _,GH.mpr (Ea (Be hb)),[],.nil,Heap.DictOf.new h⟩
def lX (h:Heap)(hb:sysModules<h.objs.size):ObjOk P w H (h.push { cls:=.type "dict",data:=.dict #[] }) h.objs.size (.dT []):=
 ⟨A5 _,GH.mpr (Ea (Be hb)),[],.nil,_,#[],0,Bg _ rfl,⟨rfl,rfl,rfl⟩,rfl,rfl,GS⟩
def W6:TE:=λ_ H Q=>∀p,H p=none->Q (.ref p) (Ab H p (.dK []))
def W5:TE:=λ_ H Q=>∀p,H p=none->Q (.ref p) (Ab H p (.dT []))
section
variable {X:Cx}{pos:Pos}
def FR:PE X (.Dict [] [] pos) W6:=λaa s σ H Q I h=>wpAny_Dict_empty ⟨.ref s.heap.objs.size,_,I.laid (a:=s.heap.objs.size) (o:=.dK []) (t':=s.toks) (λ_ _ q=>AU _ q) (Au _) (Vh s.heap I.big),rfl,h _ (I.hok.fresh (Au _))⟩
def Qr:PE X (.Dict [] [] pos) W5:=λaa s σ H Q I h=>wpAny_Dict_empty ⟨.ref s.heap.objs.size,_,I.laid (a:=s.heap.objs.size) (o:=.dT []) (t':=s.toks) (λ_ _ q=>AU _ q) (Au _) (lX s.heap I.big),rfl,h _ (I.hok.fresh (Au _))⟩
end
def OQ:List (TE×TE)->St->Hp->(List (V×V)->Hp->Prop)->Prop
 | [],_,H,Q=>Q [] H
 | (tk,tv)::r,σ,H,Q=>tk σ H λx H1=>tv σ H1 λy H2=>OQ r σ H2 λps H3=>Q ((x,y)::ps) H3
abbrev VV:List (V×V)->List (Value×Value)->Prop:=Paired λp q=>RelV p.1 q.1/\RelV p.2 q.2
def OI (X:Cx)(pos:Pos)(keys:List (Option Expr))(values:List Expr)(trs:List (TE×TE)):Prop:=
 ∀(aa:List (Addr×Obj)) (s:Shared) (σ:St) (H:Hp) (Q:List (V×V)->Hp->Prop),Inv X aa σ H s->OQ trs σ H Q ->
  wpAny (model X.prog X.w) X.A (evalPairs (pairTrees keys values X.env pos)) (λvs s'=>∃ps H',Inv X aa σ H' s'/\VV ps vs/\Q ps H') X.xe s
def Y2 :OI X pos [] [] []:=λaa s σ H Q I h=>pairTrees_nil_walk ⟨[],H,I,.nil,h⟩
def Kx {k:Expr} {tk:TE} (hk:PE X k tk)(hv:PE X v tv)(hr:OI X pos ks vs trs) :
  OI X pos (some k::ks) (v::vs) ((tk,tv)::trs):=λaa s σ H Q I h=>
 pairTrees_cons_walk (Aw (hk aa s σ H _ I h) λu s1 ⟨x,H1,I1,rx,q1⟩=>Aw (hv aa s1 σ H1 _ I1 q1) λw2 s2 ⟨y,H2,I2,ry,q2⟩=>Aw (hr aa s2 σ H2 _ I2 q2) λws s3 hp0=>by obtain⟨ps,H3,I3,rel,q3⟩:=hp0;exact⟨(x,y)::ps,H3,I3,.cons ⟨rx,ry⟩ rel,q3⟩)
def Js (kvs more:List (Af×V)):List (Af×V):=more.foldl (λacc kv=>BL acc kv.1 kv.2) kvs
def KV.merge:∀{more:List (Af×V)}{rs:List (Af×Value)}{kvs:List (Af×V)}{vs:List (Af×Value)},KV more rs->KV kvs vs->KV (Js kvs more) (merged vs rs):=by
 intro more rs kvs vs r;unfold KV at r;induction r generalizing kvs vs with
 | nil=>intro q;exact q
 | @cons p q ps qs h t ih=>
  intro r0;have e:KV (BL kvs p.1 p.2) (stored vs q.1 q.2):=by have:=r0.put p.1 h.2;rw[<- h.1];exact this
  exact ih e
theorem Ur:∀(more kvs:List (Af×V)),(Js kvs more).length<=kvs.length+more.length
 | [],kvs=>by show kvs.length<=kvs.length+0;lia
 | p::r,kvs=>by have h1:=Ur r (BL kvs p.1 p.2);have h2:=Ju kvs p.1 p.2;show(Js (BL kvs p.1 p.2) r).length<=_;rw[CS];lia
theorem VD :∀{kvs:List (Af×V)}{ws:List (Value×Value)},VV (kvs.map λkv=>(kV kv.1,kv.2)) ws->∃rs,Carries (Bv P w) ws rs/\KV kvs rs
 | [],_,r=>by rw[FE]at r;cases r;exact⟨[],GV,.nil⟩
 | p::kvs,_,r=>by
  rw[A9]at r;cases r with
  | @cons a b as bs h t=>obtain⟨rs,c,q⟩:=VD (P:=P) (w:=w) t;obtain⟨b1,b2⟩:=b;exact⟨(p.1,b2)::rs,⟨Ek h.1,rfl,c⟩,.cons ⟨rfl,h.2⟩ q⟩
def W3 (trs:List (TE×TE)):TE:=λσ H Q=>∀p,H p=none->OQ trs σ (Ab H p (.dK [])) λps H2=>H2 p=some (.dK [])/\∃kvs:List (Af×V),ps=kvs.map (λkv=>(kV kv.1,kv.2))/\kvs.length<=15/\Q (.ref p) (Ab H2 p (.dK (Js [] kvs)))
def Zh {keys:List (Option Expr)} (h:OI X pos keys values trs)(hall:keys.all (·.isSome)=true)(hl:keys.length=values.length)(h0:keys≠[])
  (h15:keys.length<=15):PE X (.Dict keys values pos) (W3 trs):=by
 intro aa s σ H Q I q
 have hn:=I.hok.fresh (Au s.heap.objs.size)
 have I1:=I.laid (a:=s.heap.objs.size) (o:=.dK []) (h':=s.heap.push { cls:=.type "dict",data:=.dict #[] }) (t':=s.toks) (λ_ _ q=>AU _ q) (Au _) (Vh s.heap I.big)
 refine wpAny_Dict_walk (knd:=Bv X.prog X.w) hall hl h0 h15 (Aw (h aa _ σ _ _ I1 (q _ hn)) λws s2 hp0=>?_)
 obtain⟨ps,H2,I2,rel,e,kvs,ep,lk,q2⟩:=hp0
 subst ep
 obtain⟨rs,c,rk⟩:=VD (P:=X.prog) (w:=X.w) rel
 obtain⟨z,hd,vs0,r0,dd⟩:=F3 I2.hok e
 cases r0
 refine⟨rs,c,dd,λh' dd' hs=>⟨.ref s.heap.objs.size,_,?_,rfl,q2⟩⟩
 have hz:(Js [] kvs).length<=sizeLine:=by have h1:=Ur kvs [];rw[length_nil]at h1;rw[AK];lia
 have he:∃q,h'.get? s.heap.objs.size=some q:=let ⟨q,_,_,hq,_⟩:=dd';⟨q,hq⟩
 exact Q0 I2 (by rw[e];exact GV) hs he (Vg hz hd (rk.merge .nil) dd')
structure M1 (X:Cx)(o:Expr)(m:Str)(apos:Pos)(e:Expr)(cpos:Pos):Prop where
 base:attributeBase o m X.env (eval o X.env)=eval o X.env
 few:((backTo cpos (starEach [e] X.env)).all (λx=>!x.1) && (backToKw cpos (keywordEach [] X.env)).all (λx=>x.1.isSome)
  && decide (([e]:List Expr).length+([]:List Keyword).length+(if ([]:List Keyword).isEmpty then 0 else 1)<30))=true
 line:(apos.endLine == cpos.line)=true
 trees:backTo cpos (starEach [e] X.env)=[(false,eval e X.env)]
structure M2 (X:Cx)(o:Expr)(m:Str)(apos:Pos)(e f:Expr)(cpos:Pos):Prop where
 base:attributeBase o m X.env (eval o X.env)=eval o X.env
 few:((backTo cpos (starEach [e,f] X.env)).all (λx=>!x.1) && (backToKw cpos (keywordEach [] X.env)).all (λx=>x.1.isSome)
  && decide (([e,f]:List Expr).length+([]:List Keyword).length+(if ([]:List Keyword).isEmpty then 0 else 1)<30))=true
 line:(apos.endLine == cpos.line)=true
 trees:backTo cpos (starEach [e,f] X.env)=[(false,eval e X.env),(false,eval f X.env)]
def Sb (H:Hp)(a:Addr):Prop:=(∃kvs,Rd H a (.dK kvs))\/∃kvs,Rd H a (.dT kvs)
def QK (I:Inv X aa σ H s)(d:Sb H a) :
  s.TypeIs (.ref a) "dict" /\ (∀b,Value.ref a=.ref b->∃ob,s.heap.get? b=some ob/\ob.dict=none)/\(a == sysModules)=false:=by
 rcases d with⟨kvs,e⟩ | ⟨kvs,e⟩
 ·obtain⟨_,hd,vs,_,dd⟩:=E7 I.hok e;refine⟨dd.typeIs,λb q=>?_,hd⟩;cases q;obtain⟨ob,_,_,h1,h2,_⟩:=dd;exact⟨ob,h1,h2.2.1⟩
 obtain⟨_,hd,xs,_,dd⟩:=GD I.hok e
 refine⟨dd.typeIs,λb q=>?_,hd⟩
 cases q
 obtain⟨ob,_,_,h1,h2,_⟩:=dd
 exact⟨ob,h1,h2.2.1⟩
section
variable {X:Cx}{aa:List (Addr×Obj)}{σ:St}{H:Hp}{s:Shared}{a:Addr}{y d:V}{u r:Value}{o:Option V}{A:Around}{E:Value->Shared->Prop}
def mO (hu:A.units+20<cLine)(I:Inv X aa σ H s)(g:DGet H a y o)(ry:RelV y u)(h:∀w' s',Inv X aa σ H s'->RelV (o.getD .non) w'->Q w' s') :
  wpAny (model X.prog X.w) A (call (.builtin "dict.get") [.ref a,u]) Q E s:=by
 rcases g with⟨kvs,k,e,ey,l⟩ | ⟨kvs,k,b,e,ey,eb,l⟩
 ·subst ey;obtain⟨z,hd,vs,rel,dd⟩:=E7 I.hok e;refine Ge GJ dd.typeIs LR (RP _ _) (meets_dict_get (Bv X.prog X.w) a (Ek ry) hd) ⟨_,dd.mapOf,h _ _ (I.tok _) ?_⟩;rw[l];exact(rel.val k).getD rfl
 subst ey
 cases (show u=Value.ref b from ry)
 obtain⟨z,hd,xs,rel,dd⟩:=GD I.hok e
 refine Ge GJ dd.typeIs LR (RP _ _) (meetsH_dict_get (WK.dataKind X.prog X.w) a b hd) ⟨WK.room_in1 hu,k,xs,key_of I.hok eb,dd,h _ _ (I.tok _) ?_⟩
 rw[l]
 exact(rel.val k).getD rfl
def mN (hu:A.units+20<cLine)(I:Inv X aa σ H s)(g:DGet H a y o)(ry:RelV y u)(rd:RelV d r)(h:∀w' s',Inv X aa σ H s'->RelV (o.getD d) w'->Q w' s') :
  wpAny (model X.prog X.w) A (call (.builtin "dict.get") [.ref a,u,r]) Q E s:=by
 rcases g with⟨kvs,k,e,ey,l⟩ | ⟨kvs,k,b,e,ey,eb,l⟩
 ·subst ey;obtain⟨z,hd,vs,rel,dd⟩:=E7 I.hok e;refine Ge GJ dd.typeIs LR (PySem.F.args_dict_get_3 _ _ _) (meets_dict_get_default (Bv X.prog X.w) a (Ek ry) hd r) ⟨_,dd.mapOf,h _ _ (I.tok _) ?_⟩;rw[l];exact(rel.val k).getD rd
 subst ey
 cases (show u=Value.ref b from ry)
 obtain⟨z,hd,xs,rel,dd⟩:=GD I.hok e
 refine Ge GJ dd.typeIs LR (PySem.F.args_dict_get_3 _ _ _) (meetsH_dict_get_default (WK.dataKind X.prog X.w) a b hd r) ⟨WK.room_in1 hu,k,xs,key_of I.hok eb,dd,h _ _ (I.tok _) ?_⟩
 rw[l]
 exact(rel.val k).getD rd
end
def W9 (td ty:TE):TE:=λσ H Q=>td σ H λx H1=>∃a,x=.ref a/\Sb H1 a/\ty σ H1 λy H2=>∃o,DGet H2 a y o/\Q (o.getD .non) H2
def W8 (td ty tx:TE):TE:=λσ H Q=>td σ H λx H1=>∃a,x=.ref a/\Sb H1 a/\ty σ H1 λy H2=>tx σ H2 λz H3=>∃o,DGet H3 a y o/\Q (o.getD z) H3
section
variable {X:Cx}{o e f:Expr}{apos cpos:Pos}{td ty tx:TE}
def Zj (hu:X.A.units+20<cLine)(ho:PE X o td)(he:PE X e ty)(m:M1 X o "get" apos e cpos):PE X (.Call (.Attribute o "get" apos) [e] [] cpos) (W9 td ty):=by intro aa s σ H Q I h;refine Rz m.base m.few m.line JE GJ RM (Aw (ho aa s σ H _ I h) λu s1 hp0=>?_);obtain⟨x,H1,I1,rx,a,ex,d,q1⟩:=hp0;subst ex;obtain rfl:u=Value.ref a:=rx;obtain⟨t1,t2,_⟩:=QK I1 d;refine⟨t1,t2,?_⟩;rw[m.trees];refine JW rfl (Ou (JS (Aw (he aa s1 σ H1 _ I1 q1) λiv s2 hp0=>?_)));obtain⟨y,H2,I2,ry,ov,g,q2⟩:=hp0;refine LJ ?_;exact mO hu I2 g ry λw' s3 I3 rw'=>⟨_,H2,I3,rw',q2⟩
def Zi (hu:X.A.units+20<cLine)(ho:PE X o td)(he:PE X e ty)(hf:PE X f tx)(m:M2 X o "get" apos e f cpos):PE X (.Call (.Attribute o "get" apos) [e,f] [] cpos) (W8 td ty tx):=by intro aa s σ H Q I h;refine Rz m.base m.few m.line JE GJ RM (Aw (ho aa s σ H _ I h) λu s1 hp0=>?_);obtain⟨x,H1,I1,rx,a,ex,d,q1⟩:=hp0;subst ex;obtain rfl:u=Value.ref a:=rx;obtain⟨t1,t2,_⟩:=QK I1 d;refine⟨t1,t2,?_⟩;rw[m.trees];refine JW rfl (Ou (JS (Aw (he aa s1 σ H1 _ I1 q1) λiv s2 ⟨y,H2,I2,ry,q2⟩=>JS (Aw (hf aa s2 σ H2 _ I2 q2) λfv s3 ⟨z,H3,I3,rz,ov,g,q3⟩=>LJ ?_))));exact mN hu I3 g ry rz λw' s4 I4 rw'=>⟨_,H3,I4,rw',q3⟩
end
end L2
namespace Att
open PySem PySem.W PySem.Calls PyProof.Rows
def jH :∀(ns:List Int) (vs:List Value),WellAll P h vs (ns.map WData.int)->IntsAre vs ns:=by
 intro ns;induction ns with
 | nil=>intro vs w;rw[FE]at w;cases w;exact .nil
 | cons n ns ih=>
  intro vs w;rw[A9]at w;cases w with
  | cons a b=>cases a;exact .cons _ _ (ih _ b)
def XH {l:OpenLaw}{n:Nat}(hn:l.most=some n){P:Params}{h:Heap}{args:List WData}{vals:List Value}
  (hpre:l.row.toRowW.claim.pre args=true)(hwl:WellAll P h vals args) :
  ∃a vs ns,vals=[Value.ref a]/\args=[WData.list (ns.map WData.int)]/\h.get? a=some { cls:=.type "list",data:=.seq vs.toArray }/\IntsAre vs ns/\ns.length<=n:=by
 have hsh:WShape.hasAll [] args [.list .int]=true:=(pre_splitW hpre).1
 have hc:l.pre.holds [] { args:=args } = true:=(pre_splitW hpre).2
 obtain⟨d,r,rfl,h1,h2⟩:=hasAllW_cons hsh
 obtain rfl:=hasAllW_nil h2
 obtain⟨xs,rfl,h3⟩:=hasW_list h1
 obtain⟨ns,rfl⟩:=items_int h3
 have hlen:ns.length<=n:=by
  unfold OpenLaw.pre at hc;have h4:(WTm.not (.lt (.lit (.int (n:Int))) (.len (.arg 0)))).holds [] { args:=[.list (ns.map .int)] } = true:=by have h4:=(holds_andW hc).1;rw[hn]at h4;exact h4
  have h5:=condW_of h4 (w_not (w_lt w_lit (w_len_list (w_arg rfl))));rw[Ak]at h5;refine le_of_not_lt λq=>?_;have q':(n:Int)<((ns.length:Nat):Int):=by lia
  first
   | (rw[AR q']at h5;exact absurd h5 (by decide))
   | (simp at h5;lia)
 cases hwl with
 | cons w1 w2=>
  cases w2;cases w1 with
  | list ho hall=>exact⟨_,_,ns,rfl,rfl,ho,jH ns _ hall,hlen⟩
def Y4 (l:OpenLaw)(args:List WData):l.row.toRowW.claim.post args (.bool true) args=true:=
 postW_of (r:=l.row.toRowW) (X:=(true == true))
  (show WShape.has [] (.bool true) .bool=true by first | rfl | decide | simp[WShape.has,WShape.arms,WShape.armsAll])
  (show(WTm.eq .res (.lit (.bool true))).value [] { args:=args,res:=some (.bool true),after:=args } = some (.bool (true == true)) from w_eq_bool (w_res rfl) w_lit) rfl
def attach_call {l:OpenLaw}{n:Nat}{q:Program}{loose:List Str}{XP:(Str->Option Value)->Heap->Prop}{YP:World->Heap->Prop}{d:DefRec}
  (hn:l.most=some n)(hdf:d.params.defaults=[])
  (call:∀(w:World) (s₀ s₁:Shared) (mg mb:Str->Option Value) (fa:Addr) (o:Obj) (pm cd doc:Value) (a:Addr) (vs:List Value) (ns:List Int),Ground q loose [] XP w s₀ mg mb s₁.heap->YP w s₁.heap -> s₁.heap.get? fa=some o->o.data=.func (docDef d.name d.params d.body d.scope pm cd doc)->s₁.heap.CodeRec cd d.name->mg d.name=some (.ref fa) -> s₁.heap.get? a=some { cls:=.type "list",data:=.seq vs.toArray }->IntsAre vs ns->ns.length<=n->s₁.gens=#[] -> codeAny (model l.prog w) callerA (.call (.ref fa) ⟨[.ref a],[]⟩) (λr s'=>r=.ok (.ret (.bool true))/\OldK s₁.heap s'.heap/\s'.os=s₁.os/\AllBare s'.gens) s₁) :
  WalkO q loose XP YP l.row.toRowW d [] (λf vs=>PySem.call f vs):=by
 intro w s₀ s₁ mg mb G Y fa o pm cd doc dV kV ho hd hcd hD hmg hg args vals as hpre hlay hrd hwl hlo
 obtain rfl:dV=.none:=Dflts.none hD hdf
 obtain rfl:kV=.none:=Dflts.noKw hD
 obtain⟨a,vs,ns,rfl,rfl,hobj,hints,hlen⟩:=XH hn hpre hwl
 refine enter_call (G2 (call w s₀ s₁ mg mb fa o pm cd doc a vs ns G Y ho (fd_plain hd) hcd hmg hobj hints hlen hg) λr s' hq=>?_)
 obtain⟨rfl,h2,h3,h4⟩:=hq
 exact⟨.inl ⟨.bool true,.bool true,[],rfl,λ_=>rfl,.bool true,Y4 l _,λ_=>⟨List.Pairwise.nil,λ_ hm=>(nomatch hm)⟩⟩,h2,h3,h4⟩
end Att
namespace L2
open PySem PySem.Spec PyProof.Rows
theorem OK:∀{vs:List Value}{ns:List Int},IntsAre vs ns->Vals (ns.map V.int) vs
 | _,_,.nil=>.nil
 | _,_,.cons n t h=>.cons ⟨t,rfl⟩ (OK h)
def R7 (H:Hp):Prop:=∀b,H b=none\/∃o xs,H b=some (.frz o (.lst xs))
def iR {P:Program}{w:World}{K:W.Frag}{mg mb:Str->Option Value}{CX:Et}{k:Nat}{fa a:Addr}{fd:FuncData}{x:Str}{sp:Sp}{s₁:Shared}{vs:List Value}{ns:List Int}
  (KX:K.In s₁.heap)(hns:s₁.heap.Ns mainGlobals mg)(hb:s₁.heap.Ns builtinsNs mb)(hbb:∀x:Str,x ≠ "__name__" -> mb x=bootBuiltins x)(hlim:s₁.heap.NoLimit)(hg:s₁.gens=#[])
  (ha:s₁.heap.get? a=some { cls:=.type "list",data:=.seq vs.toArray })(hi:IntsAre vs ns)(hl:ns.length<=sizeLine)(hr:Room k callerA)
  (F:∀base:Heap,K.In base->base.Ns mainGlobals mg->FnOk P w K mg base CX k fa fd [x] sp)(hbind:∀(s:Shared) (u:Value),BindsTo s fd ⟨[u],[]⟩ [(x,u)])
  (hsp:∀H:Hp,R7 H->SqL K H a (ns.map V.int)->sp [.ref a] H (λv _=>v=.bl true) λ_ _ _=>False)
  (hCX:∀H e s',CX [] H s₁ (λ_ _ _=>False) e s'->False) :
  codeAny (model P w) callerA (.call (.ref fa) ⟨[.ref a],[]⟩) (λr s'=>r=.ok (.ret (.bool true))/\OldK s₁.heap s'.heap/\s'.os=s₁.os/\AllBare s'.gens) s₁:=by
 have rv:=OK hi
 have lenV:=hi.length
 have core:∀H:Hp,R7 H->SqL K H a (ns.map V.int)->HOk P w H s₁.heap->(∀b,H b≠none->b=a)->(H a≠none->K.lookup a=none) ->
   codeAny (model P w) callerA (.call (.ref fa) ⟨[.ref a],[]⟩) (λr s'=>r=.ok (.ret (.bool true))/\OldK s₁.heap s'.heap/\s'.os=s₁.os/\AllBare s'.gens) s₁:=by
  intro H hO hS hok hA hK
  have base_of:∀{b:Addr}{o:Obj},s₁.heap.get? b=some o->H b=none->(F2 s₁.heap H).get? b=some o:=λe n=>jY e n
  have noA:∀{b:Addr}{o:Obj}{es:Array DictEntry}{ep:Nat},s₁.heap.get? b=some o->o.data=.dict es ep->H b=none:=λ{b o es ep} e d=>by
   cases q:H b with
   | none=>rfl
   | some u=>
    have e':b=a:=hA b (by rw[q];simp)
    subst e'
    rw[ha]at e;cases e
    have d':Data.seq vs.toArray _=Data.dict es ep:=d
    cases d'
  have nsK:∀{b:Addr}{m:Str->Option Value},s₁.heap.Ns b m->(F2 s₁.heap H).Ns b m:=λ{b m} ⟨o,es,ep,e,d,r⟩=>⟨o,es,ep,base_of e (noA e d),d,r⟩
  have hKb:K.In (F2 s₁.heap H):=λb o e=>base_of (KX b o e) (by
   cases q:H b with
   | none=>rfl
   | some u=>
    have e':b=a:=hA b (by rw[q];simp)
    subst e'
    rw[hK (by rw[q];simp)]at e;cases e)
  have hM:Mod K mg (F2 s₁.heap H):=⟨hKb,nsK hns,⟨mb,nsK hb,hbb⟩,let ⟨mc,h1,h2⟩:=hlim;⟨mc,nsK h1,h2⟩⟩
  have e0:Env0 P w K mg (F2 s₁.heap H) callerA [] s₁ H:=⟨rfl,hM,λb o e=>cE e,le_of_eq (jX _ _),trivial,λb hb=>absurd (show b∈([]:List Addr) from hb) (by simp),hok,.of_eq hg⟩
  refine G2 ((F _ hKb (nsK hns)).run callerA [] s₁ H ⟨[.ref a],[]⟩ [.ref a] [.ref a] _ _ hr e0 (hbind s₁ (.ref a)) (.cons rfl .nil) (hsp H hO hS)) λr s' h=>?_
  cases r with
  | error e=>exact(hCX H e s' h).elim
  | ok fl=>
   cases fl with
   | next=>exact False.elim h
   | brk=>exact False.elim h
   | cont=>exact False.elim h
   | ret u=>
    obtain⟨v,H',os,bare,un,hok',r',q⟩:=h
    have q':v=.bl true:=q
    subst q'
    obtain rfl:u=Value.bool true:=r'
    refine⟨rfl,OldK.of_keep λb o e=>?_,os,bare⟩
    cases q:H b with
    | none=>exact un.keep b o e q (by intro z;exact absurd (show b∈([]:List Addr) from z) (by simp)) (by simp)
    | some u=>
     rcases hO b with z | ⟨ob,xs,z⟩
     ·rw[q]at z;cases z
     have z2:=un.frzs b ob _ z
     obtain⟨e1,_⟩:=hok b _ z
     obtain⟨e2,_⟩:=hok' b _ z2
     rw[e]at e1;cases e1
     exact e2
 cases hk:K.lookup a with
 | some o=>have e:=KX a o hk;rw[ha]at e;cases e;refine core (λ_=>none) (λ_=>.inl rfl) (.inr ⟨_,vs.toArray,_,hk,rfl,rfl,rfl,by rw[BB,lenV];exact hl,by simpa using rv⟩) (λb u z=>by have z':(none:Option HO)=some u:=z;cases z') (λb z=>absurd rfl z) λz=>absurd rfl z
 | none=>
  refine core (λb=>if b=a then some (.frz { cls:=.type "list",data:=.seq vs.toArray } (.lst (ns.map V.int)))else none) (λb=>?_) (.inl (.inr ⟨{ cls:=.type "list",data:=.seq vs.toArray },As rfl⟩)) (λb u z=>?_) (λb z=>?_) λ_=>hk
  ·by_cases hb:b=a
   ·exact .inr ⟨_,_,As hb⟩
   exact .inl (Am hb)
  ·by_cases hb:b=a
   ·have z':=(As hb).symm.trans z;cases z';subst hb;exact⟨ha,by rw[Ak];exact hl,vs,_,rv,ha⟩
   have z':=(Am hb).symm.trans z;cases z'
  by_cases hb:b=a
  ·exact hb
  exact absurd (Am hb) z
def walk_of {l:PySem.W.OpenLaw}{n k:Nat}{q:Program}{loose:List Str}{XP:(Str->Option Value)->Heap->Prop}{YP:World->Heap->Prop}{d:DefRec}{K:Params->W.Frag}{CX:World->Et}{sp:World->Sp}{x:Str}
  (hn:l.most=some n)(hn2:n<=sizeLine)(hdf:d.params.defaults=[])(hr:Room k callerA)
  (hY:∀(w:World) (h:Heap),YP w h->(K w.params).In h)
  (F:∀(w:World) (mg:Str->Option Value) (fa:Addr) (h:Heap),(K w.params).In h->h.Ns mainGlobals mg->mg d.name=some (.ref fa) -> ∃fd:FuncData,(∀(s:Shared) (u:Value),BindsTo s fd ⟨[u],[]⟩ [(x,u)]) /\ ∀base:Heap,(K w.params).In base->base.Ns mainGlobals mg->FnOk l.prog w (K w.params) mg base (CX w) k fa fd [x] (sp w))
  (hsp:∀(w:World) (H:Hp) (a:Addr) (ns:List Int),ns.length<=n->R7 H->SqL (K w.params) H a (ns.map V.int)->sp w [.ref a] H (λv _=>v=.bl true) λ_ _ _=>False)
  (hCX:∀(w:World) (H:Hp) (s:Shared) (e:Value) (s':Shared),CX w [] H s (λ_ _ _=>False) e s'->False) :
  PySem.W.WalkO q loose XP YP l.row.toRowW d [] (λf vs=>PySem.call f vs):=by
 refine Att.attach_call hn hdf λw s₀ s₁ mg mb fa o pm cd doc a vs ns G Y ho hd hcd hmg hobj hints hlen hg=>?_
 have KX:=hY w _ Y
 obtain⟨fd,hb,hF⟩:=F w mg fa _ KX G.T.g hmg
 exact iR KX G.T.g G.T.b G.T.builtins G.T.nolimit hg hobj hints (Eb hlen hn2) hr hF hb (λH hO hS=>hsp w H a ns hlen hO hS) λH e s'=>hCX w H s₁ e s'
def F1 (s:Stmt)(j:Nat):Stmt:=match s with
 | .ClassDef _ _ _ body _ _ _ _ _ _ _=>body.getD j (.Pass ⟨0,0,0,0⟩)
 | _=>.Pass ⟨0,0,0,0⟩
def Fu (s:Stmt):Arguments:=match s with
 | .FunctionDef _ a _ _ _ _ _ _ _ _=>a
 | _=>{ posonlyargs:=[],args:=[],vararg:=none,kwonlyargs:=[],kw_defaults:=[],kwarg:=none,defaults:=[] }
def Cj (s:Stmt):List Stmt:=match s with
 | .FunctionDef _ _ b _ _ _ _ _ _ _=>b
 | _=>[]
def Av (s:Stmt):Scope:=match s with
 | .FunctionDef _ _ _ _ _ _ sc _ _ _=>sc
 | _=>{ kind:=.function,names:=[],isGenerator:=false,isCoroutine:=false }
abbrev CX0:Et:=λ_ _ _ _ _ _=>False
abbrev E0:XK:=λ_ _ _=>False
def Ar :Hd CX0 X E0:=λ_ _ _ _ _ _ _ h=>h.elim
structure Fun (K:W.Frag)(x qual:Str)(st:Stmt)(f:Addr)(fd:FuncData):Prop where
 ex:∃(oc:Value) (od:Option Addr) (kV doc pm:Value) (an:Option Addr) (cdv ct:Value) (osl:Array (Option Value)),
  fd=PySem.W.fnOf x qual (Fu st) (Cj st) (Av st) .none kV doc pm an cdv ct/\K.lookup f=some ⟨oc,od,.func fd,osl⟩/\PySem.W.codeIn K cdv qual=true
 kp:PySem.W.keepIn K (.ref f)=true
section
variable {P:Program}{w:World}{K:W.Frag}{mg:Str->Option Value}{base:Heap}
def Fun.ok {x qual:Str}{st:Stmt}{f:Addr}{fd:FuncData}{N ps:List Str}{k:Nat}{sp:Sp}(F:Fun K x qual st f fd)(S:AM N ps (Av st))(len:∀vs H Q E,sp vs H Q E->vs.length=ps.length)
  (hbody:∀(cdv:Value) (A:Around) (outer:List Env) (s:Shared) (H:Hp) (vs:List V) (Q:VK) (E:XK),Room k (A.deeper (envOfC qual (Av st) s.heap.objs.size f cdv))->sp vs H Q E -> ∃t,PSs (F4 CX0 P w K mg base N qual (Av st) f cdv A outer s H E).nox (Cj st) t/\t { nx:=λ_ H'=>Q .non H',rt:=Q } (start N vs) H):FnOk P w K mg base CX0 (k+1) f fd ps sp:=by
 obtain⟨oc,od,kV,doc,pm,an,cdv,ct,osl,rfl,lk,hcd⟩:=F.ex
 refine kY lk hcd S len λA outer s H vs Q E hr hsp=>?_
 obtain⟨t,h,q⟩:=hbody cdv A outer s H vs Q E hr hsp
 exact⟨t,h.nox,q⟩
def Fun.binds {x qual:Str}{st:Stmt}{f:Addr}{fd:FuncData}{ps:List Str}(F:Fun K x qual st f fd)
  (h:∀(kV doc pm:Value) (an:Option Addr) (cdv ct:Value) (us:List Value),us.length=ps.length->bindArgs (PySem.W.fnOf x qual (Fu st) (Cj st) (Av st) .none kV doc pm an cdv ct) ⟨us,[]⟩=pure (ps.zip us)):Binds K fd ps []:=by
 obtain⟨oc,od,kV,doc,pm,an,cdv,ct,osl,rfl,lk,hcd⟩:=F.ex
 exact .all (h kV doc pm an cdv ct)
def Ft {x qual:Str}{st:Stmt}{f:Addr}{oc:Value}{od an:Option Addr}{osl:Array (Option Value)}{kV doc pm cdv ct:Value}(l:K.lookup f=some ⟨oc,od,.func (PySem.W.fnOf x qual (Fu st) (Cj st) (Av st) .none kV doc pm an cdv ct),osl⟩)
  (c:PySem.W.codeIn K cdv qual=true)(k:PySem.W.keepIn K (.ref f)=true):Fun K x qual st f (PySem.W.fnOf x qual (Fu st) (Cj st) (Av st) .none kV doc pm an cdv ct):=⟨⟨oc,od,kV,doc,pm,an,cdv,ct,osl,rfl,l,c⟩,k⟩
end
def CL {k:Nat}(hr:Room k A):A.units+20<cLine:=lt_of_le_of_lt (Nat.add_le_add_left (by decide:20<=64) _) hr.units
section
variable {X:Cx}
def pv (i:Nat) (hN:X.N[i]? = some x:=by rfl)(hv:R4 X.env.scope x:=by first | exact Or.inl rfl | exact ET (Or.inl rfl) | exact ET (ET rfl))(hd:(x == ("__debug__" : Str))=false:=by decide)
  (hcd:(x == ("__classdict__" : Str))=false:=by decide):PE X (.Name x pos) (Iw i):=Ze hN hv hd hcd
def NV:Cp X (.builtin "len") (λxs H Q=>∃a kvs,xs=[V.ref a]/\H a=some (.dK kvs)/\Q (.int kvs.length) H):=by intro aa s σ H xs us Q I r h;obtain⟨a,kvs,rfl,ha,q⟩:=h;obtain⟨u,rfl,ru⟩:=CB r;cases ru;exact mJ I (.inl ha) λt s' I'=>⟨.int kvs.length,H,I',⟨t,rfl⟩,q⟩
end
def AN {A B:Prop}(h:B):if false=true then A else B:=by rw[Am BE];exact h
def Bb {A B:Prop}(h:A):if true=true then A else B:=by rw[As rfl];exact h
def Bd {c A B:Prop}[Decidable c](h1:c->A)(h2:¬c->B):if c then A else B:=by
 by_cases h:c
 ·rw[As h];exact h1 h
 rw[Am h];exact h2 h
def jE {c A B:Prop}[Decidable c](hc:c)(h:B):if (!decide c)=true then A else B:=by rw[AR hc];exact AN h
def Same (H H':Hp):Prop:=∀b o,H b=some o->H' b=some o
def Same.refl (H:Hp):Same H H:=λ_ _ h=>h
def Same.trans (a:Same H H1)(b:Same H1 H2):Same H H2:=λc o h=>b c o (a c o h)
def Same.free (e:Same H H') (h:H' l=Option.none):H l=Option.none:=by
 cases q:H l with
 | none=>rfl
 | some o=>rw[e l o q]at h;cases h
def Same.seq {K:W.Frag}{H H':Hp}{a:Addr}{xs:List V}(e:Same H H')(h:SqL K H a xs):SqL K H' a xs:=by
 rcases h with(h | ⟨o,h⟩) | h
 ·exact .inl (.inl (e _ _ h))
 ·exact .inl (.inr ⟨o,e _ _ h⟩)
 exact .inr h
section
variable {κ:Type} [DecidableEq κ]
def Ma {k:κ} (h:Ay kvs k=some v):k∈kvs.map (·.1):=by
 have q:(kvs.any λkv=>decide (kv.1=k))=true:=by rw[Fe,h];all_goals rfl
 obtain⟨p,hp,e⟩:=Ie.mp q;exact Bi.mpr ⟨p,hp,A4 e⟩
theorem QC:∀{l:List κ}{k:κ},l.Nodup->¬k∈l->(l++[k]).Nodup
 | [],k,_,_=>by simp
 | a::r,k,h,hk=>by
  obtain⟨h1,h2⟩:=Bq.mp h;show(a::(r++[k])).Nodup;refine Bq.mpr ⟨λm=>?_,QC h2 λm=>hk (AL.mpr (ET m))⟩;rcases(BK.mp m)with q | q
  ·exact h1 q
  exact hk (AL.mpr (Or.inl (AX.mp q).symm))
end
def CM (cells:List (Str×Addr)):List (Str×NameKind)->List (Str×Addr)->List (Str×Addr)
 | [],cs=>cs
 | (n,k)::r,cs=>CM cells r (if k == NameKind.free then(n,(cells.lookup n).getD 0)::cs else cs)
theorem Vz :∀(ns:List (Str×NameKind)) (cs:List (Str×Addr)),(∀y∈ns,y.2=NameKind.free->(env.cells.lookup y.1).isSome=true) ->
  (forIn ns cs λ(p:Str×NameKind) (r:List (Str×Addr))=>if (p.2 == NameKind.free)=true then(do let a <- cellOf env p.1;pure (ForInStep.yield ((p.1,a)::r)):Sem _)else pure (ForInStep.yield r))=(pure (CM env.cells ns cs):Sem _)
 | [],cs,_=>by simp[CM]
 | (n,k)::r,cs,h=>by
  have ih:=λcs'=>Vz r cs' λy hy=>h y (A6 _ hy);rw[List.forIn_cons];by_cases hk:k=NameKind.free
  ·subst hk;have hs:=h (n,NameKind.free) Bj rfl;cases e:env.cells.lookup n with
   | none=>rw[e]at hs;cases hs
   | some c=>
    have e1:cellOf env n=pure c:=by unfold cellOf;rw[e]
    have e2:CM env.cells ((n,NameKind.free)::r) cs=CM env.cells r ((n,c)::cs):=by simp[CM,e]
    rw[e2,<- ih ((n,c)::cs)];(simp only[LG,FF]);rw[e1];rfl
  have hb:(k == NameKind.free)=false:=by simpa using hk
  have e2:CM env.cells ((n,k)::r) cs=CM env.cells r cs:=by simp[CM,hb]
  rw[e2,<- ih cs];(simp only[hb,EK,Ec]);rfl
def Vw (h:∀y∈scope.names,y.2=NameKind.free->(env.cells.lookup y.1).isSome=true):closureFor scope env=pure (CM env.cells scope.names []):=by have e:=Vz (env:=env) scope.names [] h;unfold closureFor;simp only[bind_pure];exact e
theorem Vx :∀{ns:List (Str×NameKind)}{cs:List (Str×Addr)},(∀y∈ns,y.2=NameKind.free->(cells.lookup y.1).isSome=true)->(cs.lookup x=some c->cells.lookup x=some c) ->
  (CM cells ns cs).lookup x=some c->cells.lookup x=some c
 | [],_,_,h,e=>h e
 | (n,k)::r,cs,hn,h,e=>by
  refine Vx (ns:=r) (λy hy=>hn y (A6 _ hy)) ?_ e;by_cases hk:k=NameKind.free
  ·subst hk;(simp only[LG,FF]);intro q;rw[GZ]at q;by_cases hx:x=n
   ·subst hx;have hs:=hn (x,NameKind.free) Bj rfl;simp only[LG]at q;cases e1:cells.lookup x with
    | none=>rw[e1]at hs;cases hs
    | some d=>rw[e1]at q;exact q
   have hb:(x == n)=false:=by simpa using hx
   rw[hb]at q;exact h q
  have hb:(k == NameKind.free)=false:=by simpa using hk
  (simp only[hb,EK,Ec]);exact h
theorem Vy :∀{ns:List (Str×NameKind)}{cs:List (Str×Addr)},(cs.lookup x).isSome=true->((CM cells ns cs).lookup x).isSome=true
 | [],_,h=>h
 | (n,k)::r,cs,h=>by
  refine Vy (ns:=r) ?_;split
  ·rw[GZ];split
   ·rfl
   exact h
  exact h
theorem Q7 :∀{ns:List (Str×NameKind)}{cs:List (Str×Addr)},(x,NameKind.free)∈ns->((CM cells ns cs).lookup x).isSome=true
 | [],_,h=>nomatch h
 | (n,k)::r,cs,h=>by
  rcases(AL.mp h)with e | e
  ·cases e;refine Vy (ns:=r) ?_;simp
  exact Q7 (ns:=r) e
theorem M9 {env:Env}{x:Str}{k:NameKind}:∀{ns:List (Str×NameKind)},(∀y∈ns,y.2≠NameKind.cell)->k=NameKind.cell\/k=NameKind.free ->
  (ns.map λ(p:Str×NameKind)=>if (p.2 == NameKind.free && env.scope.kind == .function && env.kindOf p.1 == some .cell)then(p.1,NameKind.cell)else(p.1,p.2)).lookup x=some k->(x,NameKind.free)∈ns
 | [],_,_,e=>by simp at e
 | (n,j)::r,hn,hk,e=>by
  rw[A9]at e;by_cases hx:x=n
  ·subst hx
   have hj:j=NameKind.free:=by
    by_cases hc:(j == NameKind.free && env.scope.kind == .function && env.kindOf x == some .cell)=true
    ·simp only[BZ,GY]at hc;exact hc.1.1
    simp only[hc]at e;simp at e;subst e;rcases hk with q | q
    ·exact absurd q (hn (x,j) Bj)
    exact q
   subst hj;exact Bj
  refine A6 _ (M9 (env:=env) (λy hy=>hn y (A6 _ hy)) hk ?_);by_cases hc:(j == NameKind.free && env.scope.kind == .function && env.kindOf n == some .cell)=true
  ·simp only[hc,FF]at e;rw[GZ]at e;have hb:(x == n)=false:=by simpa using hx
   rw[hb]at e;exact e
  simp only[hc]at e;simp at e;rw[GZ]at e;have hb:(x == n)=false:=by simpa using hx
  rw[hb]at e;simpa using e
def C5 (X:Cx)(N:List Str)(scope:Scope)(C:Addr)(s:Shared)(H:Hp)(fp:List Addr):Cx where
 prog:=X.prog
 w:=X.w
 K:=X.K
 mg:=X.mg
 base:=X.base
 A:=X.A
 N:=N
 s₀:=s
 H₀:=H
 env:=compEnvC scope (CM X.env.cells scope.names []) C X.env
 outer:=X.stack
 stack:=X.stack
 ex:=fp
 fn:=λ_=>false
 calm:=X.calm
 pn:=[]
 xe:=λ_ _=>False
def Fy (n:Nat)(js:List Nat)(σ:St):St:=replicate n none++js.map λj=>(σ[j]?).getD none
structure LcOk (X:Cx)(N:List Str)(sc scope:Scope)(own:List Str)(fr:List Str)(js:List Nat):Prop where
 around:X.env.scope=sc
 names:N=own++fr
 kind:scope.kind=.function
 okind:sc.kind=.function
 nocell:∀y∈scope.names,y.2≠NameKind.cell
 free:∀y∈scope.names,y.2=NameKind.free->sc.names.lookup y.1=some NameKind.cell
 loc:∀y∈scope.names,y.2=NameKind.local->scope.names.lookup y.1=some NameKind.local
 at':js.map (λj=>X.N[j]?)=fr.map some
 cap:∀x∈fr,sc.names.lookup x=some NameKind.cell/\scope.names.lookup x=some NameKind.free
theorem Th {env:Env}{x:Str}(hk:env.scope.kind=.function)(hx:env.kindOf x=some NameKind.cell):∀{ns:List (Str×NameKind)},ns.lookup x=some NameKind.free ->
  (ns.map λ(p:Str×NameKind)=>if (p.2 == NameKind.free && env.scope.kind == .function && env.kindOf p.1 == some .cell)then(p.1,NameKind.cell)else(p.1,p.2)).lookup x=some NameKind.cell
 | [],e=>by simp at e
 | (n,j)::r,e=>by
  rw[A9];rw[GZ]at e;by_cases hn:x=n
  ·subst hn;simp only[LG]at e;cases e;have hc:(NameKind.free == NameKind.free && env.scope.kind == .function && env.kindOf x == some .cell)=true:=by rw[hk,hx];rfl
   simp only[hc,FF];rw[GZ];simp
  have hb:(x == n)=false:=by simpa using hn
  rw[hb]at e;have ih:=Th hk hx (ns:=r) e;by_cases hc:(j == NameKind.free && env.scope.kind == .function && env.kindOf n == some .cell)=true
  ·simp only[hc,FF];rw[GZ,hb];exact ih
  rw[Am hc,GZ,hb];exact ih
def LcOk.cellAt (L:LcOk X N sc scope own fr js)(ok:X.Ok):∀y∈scope.names,y.2=NameKind.free->(X.env.cells.lookup y.1).isSome=true:=λy hy hf=>by obtain⟨c,e⟩:=ok.has y.1 (.inl (show X.env.scope.names.lookup y.1=_ by rw[L.around];exact L.free y hy hf));rw[e];rfl
def LcOk.sub (L:LcOk X N sc scope own fr js)(ok:X.Ok) (e:(CM X.env.cells scope.names []).lookup x=some c):X.env.cells.lookup x=some c:=
 Vx (L.cellAt ok) (λz=>by simp at z) e
def LcOk.len (L:LcOk X N sc scope own fr js):js.length=fr.length:=by have:=BJ List.length L.at';simpa using this
theorem iO (L:LcOk X N sc scope own fr js)(I:Inv X aa σ H s)(hf:∀b∈fp,FpOk X aa H b)
  (ho:∀b∈fp,b<s.heap.objs.size) (hC:s.heap.objs.size<=C):(C5 X N scope C s H fp).Ok where
 mod:=I.mod
 kind:=L.kind
 glob:=I.ok.glob
 blt:=I.ok.blt
 above:=hC
 inj:=λx y c e1 e2=>I.ok.inj x y c (L.sub I.ok e1) (L.sub I.ok e2)
 has:=λx hx=>by
  have hm:(x,NameKind.free)∈scope.names:=by
   rcases hx with q | q
   ·exact M9 L.nocell (.inl rfl) q
   exact M9 L.nocell (.inr rfl) q
  have:=Q7 (cells:=X.env.cells) (cs:=[]) hm;cases e:(CM X.env.cells scope.names []).lookup x with
  | none=>rw[e]at this;cases this
  | some c=>exact⟨c,e⟩
 cab:=λ_ _ z _=>nomatch z
 hd:=I.ok.hd
 frames:=I.ok.frames
 stk:=.inl rfl
 exf:=λb hb=>⟨Be (CU (ho b hb) hC),λx c e=>(hf b hb).2.2.2.2.1 x c (L.sub I.ok e)⟩
 bs:=I.bs
 bsz:=Eb I.ok.bsz I.sz
 noex:=λb o e hb=>by
  rcases(hf b hb).2.2.2.1 with q | q
  ·exact I.ok.noex b o e q
  exact absurd (CU (A1 (I.ok.bs b o e).1) q) (Es _)
 exfs:=λb hb hs=>by
  rcases AL.mp (I.stkSub b hs)with q | q
  ·exact(hf b hb).2.1 q
  exact(hf b hb).2.2.1 q
 funs:=I.stack
 frf:=I.stkFree
def getD_none (h:o.getD none=some v):o=some (some v):=by
 cases o with
 | none=>cases h
 | some u=>cases u with
  | none=>cases h
  | some w=>cases h;rfl
def mX (e:(Fy n js σ)[i]? = some (some v)):∃k j,i=n+k/\js[k]? = some j/\σ[j]? = some (some v):=by
 unfold Fy at e;by_cases hi:i<n
 ·rw[Dq (by simpa using hi)]at e;rw[RD]at e;split at e <;> cases e
 rw[ES (by simpa using hi)]at e;simp only[F5,AI]at e;cases q:js[i-n]? with
 | none=>rw[q]at e;cases e
 | some j=>rw[q]at e;exact⟨i-n,j,by lia,q,getD_none (Bs e)⟩
def iM (L:LcOk X N sc scope own fr js)(I:Inv X aa σ H s)(hf:∀b∈fp,FpOk X aa H b)
  (ho:∀b∈fp,b<s.heap.objs.size) {tk:Nat}(hn:h'.Ns (s.heap.objs.size+1) m)(hk:∀b o,s.heap.get? b=some o->h'.get? b=some o)
  (hl:h'.get? s.heap.objs.size=some { cls:=.type "list",data:=.seq ([]:List Value).toArray }) :
  Inv (C5 X N scope (s.heap.objs.size+1) s H fp) [] (Fy own.length js σ) (Ab H s.heap.objs.size (.lst [])) { s with heap:=h',toks:=tk }:=by
 have fresh:∀a,s.heap.objs.size<=a->H a=none:=λa ha=>I.hok.fresh ha
 have cellAt:∀x c,(CM X.env.cells scope.names []).lookup x=some c->∃v,s.heap.IsCell c v:=λx c e=>I.cell x c (L.sub I.ok e)
 refine⟨iO L I hf ho (Fc _),rfl,I.bare,Un.laid hk (Au _) (fresh _ (Au _)),⟨m,hn,λi x v e1 e2 e3=>?_⟩,λx c e=>?_,?_,λx c e=>?_,λp hp=>?_,I.hok.laid hk (Au _) ?_,?_⟩
 ·obtain⟨k,j,rfl,hj,hv⟩:=mX e2;have hN:(own++fr)[own.length+k]? = some x:=by have e1':N[own.length+k]? = some x:=e1;rw[L.names]at e1';exact e1'
  rw[ES (by lia),Nat.add_sub_cancel_left]at hN;have hx:x∈fr:=Bz hN;have hjx:X.N[j]? = some x:=by have:=BJ (λl=>l[k]?) L.at';simp only[AI,hj,hN,map_some]at this;exact Bs this
  obtain⟨kc',kr'⟩:=L.cap x hx;have kc:X.env.kindOf x=some NameKind.cell:=by show X.env.scope.names.lookup x=_;rw[L.around];exact kc'
  have kr:(relabel scope X.env).names.lookup x=some NameKind.cell:=Th (by rw[L.around];exact L.okind) kc kr';obtain⟨m0,_,hl0⟩:=I.loc;obtain⟨u,r,l⟩:=hl0 j x v hjx hv (.inr (.inl kc));refine⟨u,r,.inr ⟨.inl kr,?_⟩⟩;rcases l with⟨kk,_⟩ | ⟨_,c,hc,z⟩
  ·rw[kc]at kk;cases kk
  have hs:((CM X.env.cells scope.names []).lookup x).isSome=true:=Q7 (M9 L.nocell (.inl rfl) kr);cases e:(CM X.env.cells scope.names []).lookup x with
  | none=>rw[e]at hs;cases hs
  | some d=>have ed:=L.sub I.ok e;rw[hc]at ed;cases ed;obtain⟨o,ho',hd⟩:=z;exact⟨c,e,o,hk c o ho',hd⟩
 ·obtain⟨v,o,ho',hd⟩:=cellAt x c e;exact⟨v,o,hk c o ho',hd⟩
 ·show Ab H s.heap.objs.size _ (s.heap.objs.size+1)=none;rw[Ai (Nat.succ_ne_self _)];exact fresh _ (Fc _)
 ·obtain⟨v,o,ho',hd⟩:=cellAt x c e;rw[Ai (Be (A1 ho'))];exact I.freeC x c (L.sub I.ok e)
 ·exact nomatch hp
 ·exact⟨A5 _,[],0,.nil,hl⟩
 show(Fy own.length js σ).length=N.length
 rw[L.names]
 simp[Fy,L.len]
def LY (X:Cx)(ifs:List Expr)(t:TT):Prop:=
 ∀(aa:List (Addr×Obj)) (s:Shared) (σ:St) (H:Hp) (Q:Bool->Hp->Prop),Inv X aa σ H s->t σ H Q ->
  wpAny (model X.prog X.w) X.A (forIn ifs true λc r=>if r=true then do let ok <- isTrue c X.env (eval c X.env);pure (ForInStep.yield ok)else pure (ForInStep.yield r)) (TP X aa σ Q) X.xe s
def SE:TT:=λ_ H Q=>Q true H
def B5 :LY X [] SE:=λ_ _ _ H _ I h=>wpAny_tests_nil ⟨H,I,h⟩
def Qk {t:TT}(h:PT X c t):LY X [c] t:=λaa s σ H Q I q=>wpAny_tests_one (h aa s σ H Q I q)
def iN (J:Nat->Shared->Prop)
  (turn:∀n s,J n s->wpAny (model prog w) A (pyNext it) (λr s1=>match r with
   | none=>R (.ok .next) s1
   | some v=>wpAny (model prog w) A (letOwnedTupleGo tg it v) (λ_ s2=>wpAny (model prog w) A (assign tg env v) (λ_ s3=>
     wpAny (model prog w) A (forIn ifs true λc r=>if r=true then do let ok <- isTrue c env (eval c env);pure (ForInStep.yield ok)else pure (ForInStep.yield r)) (λok s4=>
      if ok=true then wpAny (model prog w) A (eval elt env) (λx s5=>wpAny (model prog w) A (call (.builtin "list.append") [acc,x]) (λ_ s6=>∃m,m<n/\J m s6) (λ_ _=>False) s5) (λ_ _=>False) s4
      else ∃m,m<n/\J m s4) (λ_ _=>False) s3) (λ_ _=>False) s2) (λ_ _=>False) s1) (λ_ _=>False) s)
  (n:Nat)(h:J n s):codeAny (model prog w) A (.compLoop (.ListComp elt [⟨tg,iter,ifs,0⟩] scope pos) 0 it acc env) R s:=by
 refine codeAny_loop rfl J (λn s hJ=>?_) n h
 show wpAny _ A ((compTurn (.ListComp elt [⟨tg,iter,ifs,0⟩] scope pos) 0 it acc env).onRaise (λx=>do noteFrame x env;theTreesLotGoes x)) _ _ s
 refine wpAny_noted ?_
 rw[compTurn_list]
 refine Ae (wpAny_standAt (Ae (DB (turn n s hJ) (λr s1 h1=>?_) λ_ _ f=>f.elim)))
 cases r with
 | none=>exact An h1
 | some v=>
  refine Ae (DB h1 (λ_ s2 h2=>Ae (DB h2 (λ_ s3 h3=>Ae (DB h3 (λok s4 h4=>?_) λ_ _ f=>f.elim)) λ_ _ f=>f.elim)) λ_ _ f=>f.elim);cases ok with
  | false=>exact An ⟨rfl,h4⟩
  | true=>exact Ae (Ae (DB h4 (λx s5 h5=>Ae (DB h5 (λ_ s6 h6=>An (An ⟨rfl,h6⟩)) λ_ _ f=>f.elim)) λ_ _ f=>f.elim))
def Iy (J:It)(D:Addr)(σ0:St)(g:TG)(tc:TT)(te:TE)(fin:Hp->Prop)(W:Nat->Nat->List V->Hp->Prop):Prop:=
 ∀i m ys H,W i m ys H->(J.stop i H/\fin H)\/(J.go i H/\∃N:List V->Hp->Prop,(∀ys' H',N ys' H'->∃m',m'<m/\W (i+1) m' ys' H') /\ ∀x H1,J.yld i H x H1->g x σ0 H1 λσ2 H2=>(σ2.length=σ0.length/\∀(i:Nat) v,σ0[i]? = some (some v)->σ2[i]? = some (some v)) /\ tc σ2 H2 λb H3=>if b=true then te σ2 H3 λy H4=>∃zs,H4 D=some (.lst zs)/\zs.length<sizeLine/\N (zs++[y]) (Ab H4 D (.lst (zs++[y])))else N ys H3)
def Uv {X:Cx}{N:List Str}{sc scope:Scope}{own fr:List Str}{js:List Nat}{aa:List (Addr×Obj)}{σ:St}{H:Hp}{s:Shared}{fp:List Addr}{tg iter elt:Expr}{ifs:List Expr}{pos:Pos}{J:It}{it:Addr}{tn:Nat->Heap->Prop}
  {g:TG}{tc:TT}{te:TE}{RR:Value->Addr->Result->Shared->Prop}{E:Value->Shared->Prop}{fin:Addr->Hp->Prop}
  (L:LcOk X N sc scope own fr js)(hc:X.calm=true)(I:Inv X aa σ H s)(T:FG X.prog X.w X.K tg J fp it tn)(st:tn 0 s.heap)(hf:∀b∈fp,FpOk X aa H b)
  (hg:∀C s H fp,PG (C5 X N scope C s H fp) tg g)(hi:∀C s H fp,LY (C5 X N scope C s H fp) ifs tc)(he:∀C s H fp,PE (C5 X N scope C s H fp) elt te)
  (h:∀D,H D=none->∃W:Nat->Nat->List V->Hp->Prop,(∃m,W 0 m [] (Ab H D (.lst [])))/\Iy J D (Fy own.length js σ) g tc te (fin D) W)
  (hRR:∀D C s' H',(∃m,s'.heap.Ns C m)->Inv X aa σ H' s'->FpOk X aa H' C->fin D H'->RR (.ref D) C (.ok .next) s') :
  wpAny (model X.prog X.w) X.A (newList []) (λacc s3=>wpAny (model X.prog X.w) X.A (newFunctionEnv scope X.env.globals (CM X.env.cells scope.names []) [] X.env.qual none .none (some X.env)) (λcenv s4=>codeAny (model X.prog X.w) X.A (.compStart (.ListComp elt [⟨tg,iter,ifs,0⟩] scope pos) 0 (.ref it) acc { cenv with scope:=relabel scope X.env }) (RR acc cenv.locals) s4) E s3) E s:=by
 have hlt:∀b∈fp,b<s.heap.objs.size:=λb hb=>by obtain⟨o,e,_⟩:=T.obj 0 _ st b hb;exact A1 e
 refine CW (wpAny_newFunctionEnv L.nocell (λ_ z=>nomatch z) (λh1 n1 b1=>?_) L.kind)
 dsimp only at n1 b1 ⊢
 have hsz:(s.heap.push { cls:=.type "list",dict:=none,data:=.seq ([]:List Value).toArray }).objs.size=s.heap.objs.size+1:=G7 ..
 rw[hsz]at n1 b1
 rw[hsz]
 have kept:∀b o,s.heap.get? b=some o->h1.get? b=some o:=λb o e=>b1.extBut b o (Be (G5 (A1 e))) (AU _ (AU _ e))
 have isl:h1.get? s.heap.objs.size=some { cls:=.type "list",data:=.seq ([]:List Value).toArray }:=b1.extBut _ _ (Be (G3 _)) (AU _ (Bg _ rfl))
 have IY:=iM (tk:=s.toks+([]:List (Str×Value)).length) L I hf hlt n1 kept isl
 have fresh:H s.heap.objs.size=none:=I.hok.fresh (Au _)
 obtain⟨W,⟨m0,w0⟩,turn⟩:=h s.heap.objs.size fresh
 have stat:∀{H':Hp},(∀b∈fp,H' b=none)->∀b∈fp,FpOk (C5 X N scope (s.heap.objs.size+1) s H fp) [] H' b:=λhn b hb=>
  ⟨hn b hb,Be (G5 (hlt b hb)),λz=>by
   rcases AL.mp (I.stkSub b z)with q | q
   ·exact(hf b hb).2.1 q
   exact(hf b hb).2.2.1 q,.inl hb,λx c e=>(hf b hb).2.2.2.2.1 x c (L.sub I.ok e),λ_ z=>nomatch z⟩
 have st1:tn 0 h1:=T.keep 0 _ _ st λb _ o e=>kept b o e
 have loop:∀s2:Shared,s2={ s with heap:=h1,toks:=s.toks+([]:List (Str×Value)).length } ->
   codeAny (model X.prog X.w) X.A (.compLoop (.ListComp elt [⟨tg,iter,ifs,0⟩] scope pos) 0 (.ref it) (.ref s.heap.objs.size) (C5 X N scope (s.heap.objs.size+1) s H fp).env) (RR (.ref s.heap.objs.size) (s.heap.objs.size+1)) s2:=by
  rintro s2 rfl
  refine iN (λn s'=>∃i ys H',Inv (C5 X N scope (s.heap.objs.size+1) s H fp) [] (Fy own.length js σ) H' s'/\tn i s'.heap/\(∀b∈fp,H' b=none)/\W i n ys H') ?_ m0
   ⟨0,[],_,IY,st1,λb hb=>by rw[Ai (Be (hlt b hb))];exact(hf b hb).1,w0⟩
  rintro n s3 ⟨i,ys,H3,I3,st3,fr3,w3⟩
  rcases turn i n ys H3 w3 with⟨stop,qn⟩ | ⟨go,Nx,hN,step⟩
  ·refine Aw (T.done (C5 X N scope (s.heap.objs.size+1) s H fp) rfl rfl rfl hc i [] s3 _ H3 _ I3 (stat fr3) st3 stop) λr s4 hp0=>?_
   obtain⟨hr,I4⟩:=hp0
   subst hr
   have IX:Inv X aa σ H3 s4:=I.call' (ch:=fp) I4.os I4.base I4.hok I4.bare λb hb=>⟨(hf b hb).2.2.2.1,(hf b hb).2.1,(hf b hb).2.2.2.2.1,(hf b hb).2.2.2.2.2⟩
   obtain⟨m,hm,_⟩:=I4.loc
   exact hRR _ _ s4 H3 ⟨m,hm⟩ IX (I.fpOk (Fc _) I4.free) qn
  refine Aw (T.item (C5 X N scope (s.heap.objs.size+1) s H fp) rfl rfl rfl hc i [] s3 _ H3 _ I3 (stat fr3) st3 go) λr s4 hp0=>?_
  obtain⟨u,hr,h4⟩:=hp0
  subst hr
  refine Aw h4 λ_ s5 hp0=>?_
  obtain⟨x,H5,I5,r5,y5,st5,fr5⟩:=hp0
  have I5':=I5.pinned (stat fr5) (T.obj _ _ st5)
  refine Aw (hg _ _ _ _ _ s5 _ H5 x u _ I5' r5 (step x H5 y5)) λ_ s6 hp0=>?_
  obtain⟨σ6,H6,I6,⟨hl6,hs6⟩,q6⟩:=hp0
  have next:∀{s7:Shared}{H7:Hp}{zs:List V},Inv (C5 X N scope (s.heap.objs.size+1) s H fp) ([]++KB fp s5.heap) σ6 H7 s7->Nx zs H7 ->
    ∃m,m<n/\∃i ys H',Inv (C5 X N scope (s.heap.objs.size+1) s H fp) [] (Fy own.length js σ) H' s7/\tn i s7.heap/\(∀b∈fp,H' b=none)/\W i m ys H':=λ{s7 H7 zs} I7 n7=>by
   obtain⟨m',hm,w7⟩:=hN zs H7 n7
   refine⟨m',hm,i+1,zs,H7,I7.unpinned.weak hl6.symm hs6,T.keep _ _ _ st5 λb hb o e=>(I7.pin (b,o) (EO _ (EO _ (Nw hb e)))).1,λb hb=>?_,w7⟩
   obtain⟨o,e,d⟩:=T.obj _ _ st5 b hb
   exact(I7.pin (b,o) (EO _ (EO _ (Nw hb e)))).2.1
  refine Aw (hi _ _ _ _ _ s6 σ6 H6 _ I6 q6) λok s7 hp0=>?_
  obtain⟨H7,I7,q7⟩:=hp0
  cases ok with
  | false=>
   rw[Am BE]at q7
   exact next I7 q7
  | true=>
   rw[As rfl]at q7
   rw[As rfl]
   refine Aw (he _ _ _ _ _ s7 σ6 H7 _ I7 q7) λy s8 hp0=>?_
   obtain⟨v8,H8,I8,r8,zs,hz,hzl,q8⟩:=hp0
   refine Aw (HM _ s8 σ6 H8 (.ref s.heap.objs.size) [v8] _ [y] (λ_ H9=>Nx (zs++[v8]) H9) I8 rfl (.cons r8 .nil) ⟨_,zs,v8,rfl,rfl,hz,hzl,q8⟩) λ_ s9 hp0=>?_
   obtain⟨_,H9,I9,_,q9⟩:=hp0
   exact next I9 q9
 exact codeAny_compStart_list (loop _ rfl) (T.self X.A 0 _ _ _ st1 (loop _ rfl))
def tLc (wi:TI)(n:Nat)(js:List Nat)(g:TG)(tc:TT)(te:TE):TE:=λσ H Q=>wi σ H λJ H1=>∀D,H1 D=none ->
 ∃W:Nat->Nat->List V->Hp->Prop,(∃m,W 0 m [] (Ab H1 D (.lst [])))/\Iy J D (Fy n js σ) g tc te (λH2=>Q (.ref D) H2) W
def CZ 
  (L:LcOk X N sc scope own fr js)(hc:X.calm=true)(hI:PI X tg iter wi)
  (hg:∀C s H fp,PG (C5 X N scope C s H fp) tg g)(hi:∀C s H fp,LY (C5 X N scope C s H fp) ifs tc)(he:∀C s H fp,PE (C5 X N scope C s H fp) elt te)
  (hs:∀x,foldedSetIterable iter X.env x=pure x:=by intro _;rfl):PE X (.ListComp elt [⟨tg,iter,ifs,0⟩] scope pos) (tLc wi own.length js g tc te):=by
 intro aa s σ H Q I h
 rw[eval_ListComp]
 refine wpAny_comprehension_free (use:=none) rfl hs (Vw (L.cellAt I.ok)) L.kind L.loc ?_
 refine Aw (hI aa s σ H _ I h) λv s1 h1=>Aw h1 λitv s2 h2=>?_
 obtain⟨it,fp,tn,J,H2,e,I2,T,st,f2,q⟩:=h2
 subst e
 refine Uv (RR:=λacc C=>compPost (model X.prog X.w) X.A X.xe none (EP X aa σ Q) acc C) (fin:=λD H'=>Q (.ref D) H') L hc I2 T st f2 hg hi he q ?_
 intro D C s' H' hm IX fC q'
 obtain⟨m,hm⟩:=hm
 obtain⟨f0,f1,_,f3,f4,f5⟩:=fC
 exact⟨m,hm,λh' sb=>⟨.ref D,H',IX.turned (t':=s'.toks) (λb o hb e=>(sb.2 b hb).trans e) f0 f1 f3 f4 f5,rfl,q'⟩⟩
def WT (i:Nat)(wi:TI)(n:Nat)(js:List Nat)(g:TG)(tc:TT)(te:TE):TS:=λE σ H=>wi σ H λJ H1=>∀D,H1 D=none ->
 ∃W:Nat->Nat->List V->Hp->Prop,(∃m,W 0 m [] (Ab H1 D (.lst [])))/\Iy J D (Fy n js σ) g tc te (λH2=>E.nx (σ.set i (some (.ref D))) H2) W
def FP 
  (hN:X.N.Nodup)(hy:X.N[i]? = some y)(hl:X.env.scope.names.lookup y=some .local)
  (L:LcOk X N sc scope own fr js)(hc:X.calm=true)(hI:PI X tg iter wi)
  (hg:∀C s H fp,PG (C5 X N scope C s H fp) tg g)(hi:∀C s H fp,LY (C5 X N scope C s H fp) ifs tc)(he:∀C s H fp,PE (C5 X N scope C s H fp) elt te)
  (hw:swapsWith (.ListComp elt [⟨tg,iter,ifs,0⟩] scope pos) (some (.Name y py)) spos.line X.env=pure true:=by rfl)
  (hs:∀x,foldedSetIterable iter X.env x=pure x:=by intro _;rfl):PS X (.Assign [.Name y py] (.ListComp elt [⟨tg,iter,ifs,0⟩] scope pos) spos) (WT i wi own.length js g tc te):=by
 intro aa s σ H E I h
 rw[exec_Assign_Name_used _ _ _ _ hw]
 (refine Ae (wpAny_standAt (Ae ?_)))
 show wpAny _ X.A (do let _ <- comprehension (.ListComp elt [⟨tg,iter,ifs,0⟩] scope pos) scope X.env _ (newList []) false (eval iter X.env) (some (assign (.Name y py) X.env))) _ _ s
 refine Ae (DB (wpAny_comprehension_free (use:=some (assign (.Name y py) X.env)) (Q:=λ_ s'=>SP X aa E .next s') rfl hs (Vw (L.cellAt I.ok)) L.kind L.loc ?_) (λ_ s' q=>An (An q)) λ_ _ e=>e)
 refine Aw (hI aa s σ H _ I h) λv s1 h1=>Aw h1 λitv s2 h2=>?_
 obtain⟨it,fp,tn,J,H2,e,I2,T,st,f2,q⟩:=h2
 subst e
 refine Uv (RR:=λacc C=>compPost (model X.prog X.w) X.A X.xe (some (assign (.Name y py) X.env)) (λ_ s'=>SP X aa E .next s') acc C) (fin:=λD H'=>E.nx (σ.set i (some (.ref D))) H') L hc I2 T st f2 hg hi he q ?_
 intro D C s' H' hm IX fC q'
 obtain⟨m,hm⟩:=hm
 obtain⟨f0,f1,_,f3,f4,f5⟩:=fC
 show wpAny _ X.A (assign (.Name y py) X.env (.ref D)) _ _ s'
 refine wpAny_assign_Name (SU IX hN hy (.inl hl) (v:=.ref D) rfl (λs3 I3 ha=>?_) (.inr hl))
 obtain⟨a,sb,ha⟩:=ha
 have hCa:C≠a:=by
  rcases ha with z | z
  ·rw[z];exact f1
  exact λq=>f4 y a z q.symm
 refine⟨m,hm.sameBut sb hCa,λh' sb'=>⟨_,H',I3.turned (t':=s3.toks) (λb o hb e=>(sb'.2 b hb).trans e) f0 f1 f3 f4 f5,q'⟩⟩
section
variable {X:Cx}
def YN:V->List V->Hp->VK->Prop:=λx vs H Q=>∃l xs i y,x=.ref l/\vs=[.int i,y]/\0<=i/\i<=(xs.length:Int)/\H l=some (.lst xs)/\xs.length<sizeLine/\Q .non (Ab H l (.lst (xs.take i.toNat++y::xs.drop i.toNat)))
def jJ (its:List Value)(i:Int)(u:Value)(h0:0<=i)(h1:i<=(its.length:Int)) :
  (λxs:Array Value=>have k:=if i<0 then(i+((xs.size:Nat):Int)).toNat else min i.toNat xs.size;(xs.extract 0 k).push u++xs.extract k) its.toArray=(its.take i.toNat++u::its.drop i.toNat).toArray:=by
 have e:(if i<0 then(i+((its.toArray.size:Nat):Int)).toNat else min i.toNat its.toArray.size)=i.toNat:=by rw[Am (by lia),BB];lia
 show(its.toArray.extract 0 (if i<0 then(i+((its.toArray.size:Nat):Int)).toNat else min i.toNat its.toArray.size)).push u++its.toArray.extract (if i<0 then(i+((its.toArray.size:Nat):Int)).toNat else min i.toNat its.toArray.size)=_
 rw[e]
 apply LF.mp
 simp
 (exact FB (by simp))
def Ug:R9 X "list.insert" YN:=by intro aa s σ H x vs v us Q I rx rv h;obtain⟨l,xs,i,y,rfl,rfl,h0,h1,hH,hz,q⟩:=h;cases rx;obtain⟨u1,u,rfl,⟨t,rfl⟩,ru⟩:=L9 rv;obtain⟨z,its,n,r,hl,e⟩:=I.lstM hH;have h63:=K8;refine GU RN ⟨_,e,rfl⟩ F.entry_list_insert (F.args_list_insert_3 _ _ _) (PySem.AutoListH.list_insert_list_int_val_1 l its.toArray n i t u (by rw[fitsIndex_both (by lia) (by lia)];decide) (by rw[BB];lia)) ⟨e,?_⟩;refine⟨.non,_,I.lset (its':=its.take i.toNat++u::its.drop i.toNat) hH e (jJ its i u h0 (by lia)) ((r.take i.toNat).append (.cons ru (r.drop i.toNat))) ?_,rfl,q⟩;(rw[AY,CS,Bu,DC]);lia
def Zt:Bt X (binaryOp .Mult) (λx y H Q=>∃z i,x=.str z/\y=.int i/\1<=i/\i<=1000/\z.length<=1000/\Q (.str (Txt.mul z i)) H):=by
 intro aa s σ H x y v u Q I rx ry h;obtain⟨z,i,rfl,rfl,h1,h2,h3,q⟩:=h;obtain⟨t,rfl⟩:=rx;obtain⟨t',rfl⟩:=ry;have hs:sizeLine=16777216:=AK;have hp:z.length*i.toNat<=1000*1000:=Nat.mul_le_mul h3 (by lia);refine SB.mul ⟨?_,λ_ _=>?_,λ_ _=>?_⟩ λt' k=>⟨.str (Txt.mul z i),H,I.tok _,⟨_,rfl⟩,q⟩
 ·have e1:decide (i < -(2^63:Int))=false:=BC (by lia);have e2:decide (i≥2^63)=false:=BC (by lia);rw[e1,e2,N7]
 ·have e3:(z.length:Int)*i=((z.length*i.toNat:Nat):Int):=by rw[Int.natCast_mul,En (by lia)]
  have e4:(z.length:Int)<=(2^63-1) / i:=Int.le_ediv_of_mul_le (by lia) (by rw[e3];lia);lia
 show decide (z.length*i.toNat > sizeLine)=false;exact BC (by lia)
def gI:He X "str.startswith" (λx xs H Q=>∃a b,x=.str a/\xs=[.str b]/\Q (.bl (Txt.startswith a b)) H):=by intro aa s σ H x xs v us Q I rx rv h;obtain⟨a,b,rfl,rfl,q⟩:=h;obtain⟨t,rfl⟩:=rx;obtain⟨u,rfl,t',rfl⟩:=CB rv;exact SC.startswith ⟨.bl _,H,I,rfl,q⟩
theorem Sf:∀(tk:Nat) (xs:List Str),Vals (xs.map V.str) (strsFrom tk xs)
 | _,[]=>.nil
 | tk,_::r=>.cons ⟨tk,rfl⟩ (Sf (tk+1) r)
def Nu:He X "str.split" (λx xs H Q=>∃a b,x=.str a/\xs=[.str b]/\(b.length == 0)=false/\a.length+2<=sizeLine/\∀p,H p=none->Q (.ref p) (Ab H p (.lst ((Txt.split a b).map V.str)))):=by
 intro aa s σ H x xs v us Q I rx rv h;obtain⟨a,b,rfl,rfl,hb,hz,q⟩:=h;obtain⟨t,rfl⟩:=rx;obtain⟨u,rfl,t',rfl⟩:=CB rv;have one:∀{ys:List Str},ys=[a]->Txt.split a b=ys->EP X aa σ Q (.ref s.heap.objs.size) { s with heap:=s.heap.push { cls:=.type "list",data:=.seq [Value.str a t].toArray } }:=λ{ys} e1 e2=>by have q':=q _ (I.hok.fresh (Au _));rw[e2,e1]at q';exact⟨.ref _,_,I.lnew (ys:=[V.str a]) (t':=s.toks) (.cons ⟨t,rfl⟩ .nil) (by show 1<=sizeLine;decide),rfl,q'⟩
 have hn:=split_le a b;cases h1:(decide (a.length<b.length) || decide (Builtin.Str.strKind a<Builtin.Str.strKind b))with
 | true=>refine GU Iq (Lx _ _ _) Ry (RC _ _) (meets_str_split_cannot_occur a b t t' h1) ?_;exact one rfl (As h1)
 | false=>
  cases hf:(Builtin.Str.occurrences a b 0 a.length (a.length+1)).isEmpty with
  | true=>refine GU Iq (Lx _ _ _) Ry (RC _ _) (meets_str_split_not_found a b t t' h1 hb hf) ?_;exact one rfl ((Am (by rw[h1];decide)).trans (As hf))
  | false=>
   have e:Txt.split a b=Builtin.Str.partsBetween a (Builtin.Str.occurrences a b 0 a.length (a.length+1)) b.length:=(Am (by rw[h1];decide)).trans (Am (by rw[hf];decide));refine GU Iq (Lx _ _ _) Ry (RC _ _) (meets_str_split_sep a b t t' h1 hb hf (by lia) (by rw[<- e];lia)) ?_;have q':=q _ (I.hok.fresh (Au _));refine⟨.ref _,_,I.lnew (Sf s.toks _) ?_,rfl,?_⟩
   ·rw[Ak,<- e];lia
   rw[<- e];exact q'
def Tv (K:W.Frag):R2:=λx y H Q=>∃a b xs ys,x=.ref a/\y=.ref b/\SqT K H a xs/\SqT K H b ys/\xs.length+ys.length<=sizeLine /\
 (xs=[]->Q (.ref b) H)/\(xs≠[]->ys=[]->Q (.ref a) H)/\(xs≠[]->ys≠[]->∀p,H p=none->Q (.ref p) (Ab H p (.tup (xs++ys))))
def EA:Bt X (binaryOp .Add) (Tv X.K):=by
 intro aa s σ H x y v u Q I rx ry h;obtain⟨a,b,xs,ys,rfl,rfl,ha,hb,hz,q0,q1,q2⟩:=h;by_cases hx:xs=[]
 ·subst hx;cases rx;cases ry;obtain⟨its,r1,p1,_⟩:=I.tuple ha;obtain⟨its2,r2,p2,_⟩:=I.tuple hb;cases r1;obtain⟨⟨cls,dd,data,sl⟩,ho,hc,n,hd⟩:=id p1;obtain⟨⟨cls2,dd2,data2,sl2⟩,ho2,hc2,n2,hd2⟩:=id p2;simp only at hc hd hc2 hd2;subst hc hd hc2 hd2
  exact concat_meets ⟨_,ho,rfl⟩ ⟨_,ho2,rfl⟩ noFill_tuple_add seq_tuple_add RO RQ (RU _ _)
   (tuple_addW0 a b _ _ n n2 dd dd2 sl sl2 rfl) ⟨ho,ho2,⟨.ref b,H,I,rfl,q0 rfl⟩⟩
 exact Zz aa s σ H _ _ v u Q I rx ry ⟨a,b,xs,ys,rfl,rfl,ha,hb,hx,hz,q1 hx,q2 hx⟩
end
mutual
inductive RdV (H:Hp):V->PyData->Prop
 | non:RdV H .non .none
 | int (i:Int):RdV H (.int i) (.int i)
 | str (x:Str):RdV H (.str x) (.str x)
 | tup {a:Addr}{xs:List V}{ds:List PyData}:H a=some (.tup xs)->RdVs H xs ds->RdV H (.ref a) (.tuple ds)
inductive RdVs (H:Hp):List V->List PyData->Prop
 | nil:RdVs H [] []
 | cons {x:V}{d:PyData}{xs:List V}{ds:List PyData}:RdV H x d->RdVs H xs ds->RdVs H (x::xs) (d::ds)
end
mutual
theorem RdV.reads (ok:HOk P w H h):∀{x:V}{d:PyData}{u:Value},RdV H x d->RelV x u->∃as,Reads h u d as
 | _,_,_,.non,r=>by cases r;exact⟨_,.none⟩
 | _,_,_,.int i,r=>by obtain⟨t,rfl⟩:=r;exact⟨_,.int i t⟩
 | _,_,_,.str x,r=>by obtain⟨t,rfl⟩:=r;exact⟨_,.str x t⟩
 | _,_,_,.tup (a:=a) e rs,r=>by cases r;obtain⟨z,its,rv,o,ho,hc,n,hd⟩:=ok a _ e;obtain⟨as,ra⟩:=RdVs.reads ok rs rv;exact⟨as,.tuple ho hc hd (by simpa using ra)⟩
theorem RdVs.reads (ok:HOk P w H h):∀{xs:List V}{ds:List PyData}{us:List Value},RdVs H xs ds->Vals xs us->∃as,ReadsAll h us ds as
 | _,_,_,.nil,r=>by cases r;exact⟨_,.nil⟩
 | _,_,_,.cons a b,r=>by
  cases r with
  | cons r1 r2=>obtain⟨as,h1⟩:=RdV.reads ok a r1;obtain⟨bs,h2⟩:=RdVs.reads ok b r2;exact⟨_,.cons h1 h2⟩
end
mutual
theorem RdV.same (k:∀b xs,H b=some (.tup xs)->H' b=some (.tup xs)):∀{x:V}{d:PyData},RdV H x d->RdV H' x d
 | _,_,.non=>.non
 | _,_,.int i=>.int i
 | _,_,.str x=>.str x
 | _,_,.tup e rs=>.tup (k _ _ e) (RdVs.same k rs)
theorem RdVs.same (k:∀b xs,H b=some (.tup xs)->H' b=some (.tup xs)):∀{xs:List V}{ds:List PyData},RdVs H xs ds->RdVs H' xs ds
 | _,_,.nil=>.nil
 | _,_,.cons a b=>.cons (RdV.same k a) (RdVs.same k b)
end
theorem RdVs.get :∀{xs:List V}{ds:List PyData}{i:Nat}{x:V},RdVs H xs ds->xs[i]? = some x->∃d,ds[i]? = some d/\RdV H x d
 | _,_,_,_,.nil,e=>by simp at e
 | _,_,0,_,.cons a _,e=>by simp at e;subst e;exact⟨_,rfl,a⟩
 | _,_,i+1,_,.cons _ b,e=>by obtain⟨d,h1,h2⟩:=RdVs.get (i:=i) b (by simpa using e);exact⟨d,by simpa using h1,h2⟩
theorem RdVs.length :∀{xs:List V}{ds:List PyData},RdVs H xs ds->xs.length=ds.length
 | _,_,.nil=>rfl
 | _,_,.cons _ b=>by simp[RdVs.length b]
theorem RdVs.take :∀{xs:List V}{ds:List PyData}(n:Nat),RdVs H xs ds->RdVs H (xs.take n) (ds.take n)
 | _,_,0,_=>.nil
 | _,_,_+1,.nil=>.nil
 | _,_,n+1,.cons a b=>.cons a (RdVs.take n b)
theorem RdVs.append :∀{xs ys:List V}{ds es:List PyData},RdVs H xs ds->RdVs H ys es->RdVs H (xs++ys) (ds++es)
 | _,_,_,_,.nil,r=>r
 | _,_,_,_,.cons a b,r=>.cons a (RdVs.append b r)
theorem RdVs.strs :∀(xs:List Str),RdVs H (xs.map V.str) (xs.map PyData.str)
 | []=>.nil
 | x::r=>.cons (.str x) (RdVs.strs r)
section
variable {X:Cx}
def YQ (neg:Bool):R2:=λx y H Q=>∃d e,RdV H x d/\RdV H y e/\PySem.SeqAt.shaped d=true/\PySem.SeqAt.shaped e=true/\Q (.bl (neg ^^ PyData.eqv d e)) H
def Zs (hu:X.A.units+64<cLine):Bt X (compareOp .NotEq) (YQ true):=by intro aa s σ H x y v u Q I rx ry h;obtain⟨d,e,r1,r2,h1,h2,q⟩:=h;obtain⟨as,a⟩:=r1.reads I.hok rx;obtain⟨bs,b⟩:=r2.reads I.hok ry;rw[Bool.true_xor]at q;exact RY a b h1 h2 hu ⟨.bl _,H,I,rfl,q⟩
end
end L2
namespace ZT
open PySem PyProof.Rows
section
variable {prog:Program}{w:World}{A:Around}{E:Value->Shared->Prop}{s:Shared}
def next_item {t:Addr}{k:Nat} (hp:s.heap.IsTupleIter p t k)(ht:s.heap.IsTuple t items)(hv:items[k]? = some v)
  (q:∀h',h'.IsTupleIter p t (k+1)->Heap.SameBut p s.heap h'->Q v { s with heap:=h' }):wpAny (model prog w) A (Builtin.SmallTypes.nextOf (.ref p)) Q E s:=by
 obtain⟨o,ho,c1,c2⟩:=id hp
 obtain⟨ot,hot,_,nt,dt⟩:=ht
 (unfold Builtin.SmallTypes.nextOf)
 refine Ae (FD (name:=Str.ofString "__next__") hp.typeIs OC (CV OC hp.typeIs F.entry_tuple_iterator_next ?_ (F.args_tuple_iterator_next_1 _)))
 show wpAny _ _ (field (.ref p) 0 >>= _) _ _ s
 refine Ae (DW ho c2 (x:=.ref t) rfl ?_)
 (show wpAny _ _ (if (Value.ref t == Value.none)=true then _ else _) _ _ s)
 rw[Am (by exact BE)]
 show wpAny _ _ (field (.ref p) 1 >>= _) _ _ s
 refine Ae (DW ho c2 (x:=.int k 0) rfl ?_)
 (show wpAny _ _ (seqItems? (.ref t) >>= _) _ _ s)
 refine Ae (JM hot dt ?_)
 simp only[Co,hv]
 refine Ae (Od ho c2 (by simp) (An ⟨v,rfl,An (q _ ?_ (F7 ..))⟩))
 refine⟨_,HZ _ ho (Obj.isFreed_of_fields (Os c2 _)),(Obj.cls_mapFields ..).trans c1,?_⟩
 rw[Os c2]
 simp[rawInt]
def next_end {t:Addr}{k:Nat} (hh:A.handled=none)(hp:s.heap.IsTupleIter p t k)(ht:s.heap.IsTuple t items)(hv:items[k]? = none)
  (q:∀h' e,Heap.ExtBut p s.heap h'->(∃o,h'.get? e=some o/\o.cls=.type "StopIteration")->E (.ref e) { s with heap:=h' }):wpAny (model prog w) A (Builtin.SmallTypes.nextOf (.ref p)) Q E s:=by
 obtain⟨o,ho,c1,c2⟩:=id hp
 obtain⟨ot,hot,_,nt,dt⟩:=ht
 (unfold Builtin.SmallTypes.nextOf)
 refine Ae (FD (name:=Str.ofString "__next__") hp.typeIs OC (CV OC hp.typeIs F.entry_tuple_iterator_next ?_ (F.args_tuple_iterator_next_1 _)))
 show wpAny _ _ (field (.ref p) 0 >>= _) _ _ s
 refine Ae (DW ho c2 (x:=.ref t) rfl ?_)
 (show wpAny _ _ (if (Value.ref t == Value.none)=true then _ else _) _ _ s)
 rw[Am (by exact BE)]
 show wpAny _ _ (field (.ref p) 1 >>= _) _ _ s
 refine Ae (DW ho c2 (x:=.int k 0) rfl ?_)
 (show wpAny _ _ (seqItems? (.ref t) >>= _) _ _ s)
 refine Ae (JM hot dt ?_)
 simp only[Co,hv]
 refine Ae (Ga (Ae (Od ho c2 (by simp) ?_)))
 (show wpAny _ _ (newExc (.type "StopIteration") [] >>= _) _ _ _)
 refine Ae ?_
 simp only[newExc,newTuple]
 (refine Ae (CW ?_ (by size_fits)))
 (refine Ae (m:=firstArgMember _ _) (CQ (a:=Value.none) (by first | rfl | (simp only[firstArgMember];rfl)) ?_))
 (refine CW ?_ (by size_fits))
 simp only[raiseNew]
 (refine Ae (N6 ?_))
 (first | rw[show A.in1.handled=none from hh] | rw[hh])
 (refine Ae (An (wpAny_throw ?_)))
 exact q _ _ (((F7 ..).extBut.push _).push _) ⟨_,Bg _ rfl,rfl⟩
end
abbrev zI (t:Addr):Obj:={ cls:=.type "tuple_iterator",data:=.fields #[.ref t,.int 0 0] }
end ZT
namespace L2
open PySem PySem.Spec PyProof.Rows
section
variable {X:Cx}{aa:List (Addr×Obj)}{σ:St}{H:Hp}{s:Shared}{h':Heap}
def FpOk.not {ch:List Addr}(hf:∀b∈ch,FpOk X aa H b){b:Addr}{o:HO}(e:H b=some o):b∉ch:=λz=>by have:=(hf b z).1;rw[e]at this;cases this
def Inv.fpT {t:Addr} (I:Inv X aa σ H s)(ht:SqT X.K H t zs)(f:FpOk X aa H t):False:=by
 rcases ht with hr | ⟨o,_,_,hk,_⟩
 ·rcases hr with hr | ⟨o,hr⟩
  ·rw[f.1]at hr;cases hr
  rw[f.1]at hr;cases hr
 have e:=I.mod.kin t o hk;rcases f.2.2.2.1 with q | q
 ·exact I.ok.noex t o e q
 exact absurd (CU (A1 (I.ok.bs t o e).1) q) (Es _)
def Inv.stepL {t':Nat}{ch:List Addr}(I:Inv X aa σ H s)(hf:∀b∈ch,FpOk X aa H b)(k:∀b o,b∉ch->s.heap.get? b=some o->h'.get? b=some o):Inv X aa σ H { s with heap:=h',toks:=t' }:=by
 refine I.step (g':=s.gens) (d':=s.drawn) (ch:=ch) (λb hb=>⟨(hf b hb).2.2.2.1,(hf b hb).2.1,(hf b hb).2.2.2.2.1,(hf b hb).2.2.2.2.2⟩) (λb o _ _ hc e _=>k b o hc e) (λb o _ _ hc e _=>⟨o.slots,k b o hc e⟩) (λ_ _ _ _ n=>n)
  (λb o hc e=>⟨o,k b o hc e⟩) (λ_ _ e=>e) (λ_ _ _ e=>e) (λb ps e=>⟨#[],by rw[e];simp⟩) (λm hm=>?_) (λb u e=>?_) I.bare
 ·obtain⟨o,es,ep,ho,r⟩:=hm;exact⟨o,es,ep,k _ o (λz=>(hf _ z).2.1 rfl) ho,r⟩
 refine(I.hok b u e).stay (λc v hc q=>k c v ?_ q) (λ_ q=>q) λ_ _ q=>q;rcases hc with z | z
 ·rw[z];exact FpOk.not hf e
 exact FpOk.not hf z
def Inv.stepN {t':Nat}{ch:List Addr}{ob:HO}(I:Inv X aa σ H s)(hf:∀b∈ch,FpOk X aa H b)(k:∀b o,b∉ch->s.heap.get? b=some o->h'.get? b=some o)
  (new:ObjOk X.prog X.w (Ab H s.heap.objs.size ob) h' s.heap.objs.size ob):Inv X aa σ (Ab H s.heap.objs.size ob) { s with heap:=h',toks:=t' }:=by
 have fr:H s.heap.objs.size=none:=I.hok.fresh (Au _)
 have fz:FpOk X aa H s.heap.objs.size:=I.fpOk (Au _) fr
 have hf':∀b∈s.heap.objs.size::ch,FpOk X aa H b:=λb hb=>by
  rcases(AL.mp hb)with e | e
  ·rw[e];exact fz
  exact hf b e
 have k':∀b o,b∉s.heap.objs.size::ch->s.heap.get? b=some o->h'.get? b=some o:=λb o hb e=>k b o (λz=>hb (A6 _ z)) e
 have ne:∀b o,s.heap.get? b=some o->b≠s.heap.objs.size:=λb o e=>Be (A1 e)
 refine I.step (g':=s.gens) (d':=s.drawn) (ch:=s.heap.objs.size::ch) (λb hb=>⟨(hf' b hb).2.2.2.1,(hf' b hb).2.1,(hf' b hb).2.2.2.2.1,(hf' b hb).2.2.2.2.2⟩) (λb o _ _ hc e _=>k' b o hc e) (λb o _ _ hc e _=>⟨o.slots,k' b o hc e⟩)
  (λb o _ e n=>by rw[Ai (ne b o e)];exact n) (λb o hc e=>⟨o,k' b o hc e⟩) (λb xs e=>by rw[Ai (AF e fr)];exact e) (λb o xs e=>by rw[Ai (AF e fr)];exact e)
  (λb ps e=>⟨#[],by rw[Ai (AF e fr),e];simp⟩) (λm hm=>?_) (λb u e=>?_) I.bare
 ·obtain⟨o,es,ep,ho,r⟩:=hm;exact⟨o,es,ep,k _ o (λz=>(hf _ z).2.1 rfl) ho,r⟩
 by_cases hb:b=s.heap.objs.size
 ·subst hb;rw[Ag]at e;cases e;exact new
 rw[Ai hb]at e
 refine(I.hok b u e).stay (λc v hc q=>k c v ?_ q) (λc q=>by rw[Ai (AF q fr)];exact q) λc xs q=>by rw[Ai (AF q fr)];exact q
 rcases hc with z | z
 ·rw[z];exact FpOk.not hf e
 exact FpOk.not hf z
end
def Same.new (h:H l=none):Same H (Ab H l o):=λb u e=>by rw[Ai (AF e h)];exact e
def Same.put (s:Same H H')(h:H l=none):Same H (Ab H' l o):=λb u e=>by rw[Ai (AF e h)];exact s b u e
def Same.rd (s:Same H H') (h:RdV H v d):RdV H' v d:=h.same λb xs e=>s b _ e
def Same.rds (s:Same H H') (h:RdVs H vs ds):RdVs H' vs ds:=h.same λb xs e=>s b _ e
structure Df (K:W.Frag)(mg:Str->Option Value)(x:Str)(st:Stmt)(ps:List Str)(f:Addr)(fd:FuncData):Prop where
 F:Fun K x x st f fd
 m:mg x=some (.ref f)
 b:Binds K fd ps []
def NM:Expr->Bool
 | .Constant (.str _) _ _=>true
 | _=>false
def Mg:Expr->V
 | .Constant (.str x) _ _=>.str x
 | _=>.non
theorem TY :∀{es:List Expr},es.all NM=true->PA X es (λ_ H Q=>Q (es.map Mg) H)
 | [],_=>Ac
 | e::es,h=>by
  (rw[JK,BZ]at h);have ih:=TY (X:=X) h.2;cases e with
  | Constant c j pos=>
   cases c with
   | str x=>exact Aa AE ih
   | _=>exact absurd h.1 BE
  | _=>exact absurd h.1 BE
def B8 {J:It} (Pv:Nat->List V->Hp->Prop)(h0:Pv 0 [] (Ab H0 D (.lst [])))
  (go:∀i ys H,i<n->Pv i ys H->J.go i H)(stop:∀ys H,Pv n ys H->J.stop n H)
  (hs:∀i ys H x H1,i<n->Pv i ys H->J.yld i H x H1->tc (some x::ρ) H1 λb H3=>if b=true then te (some x::ρ) H3 λy H4=>∃zs,H4 D=some (.lst zs)/\zs.length<sizeLine/\Pv (i+1) (zs++[y]) (Ab H4 D (.lst (zs++[y])))else Pv (i+1) ys H3)
  (hd:∀ys H,Pv n ys H->fin H):∃W:Nat->Nat->List V->Hp->Prop,(∃m,W 0 m [] (Ab H0 D (.lst [])))/\Iy J D (none::ρ) (E4 0) tc te fin W:=by
 refine⟨λi m ys H=>m=n-i/\i<=n/\Pv i ys H,⟨n,rfl,A5 _,h0⟩,?_⟩
 rintro i m ys H ⟨rfl,hi,p⟩
 by_cases hlt:i<n
 ·refine .inr ⟨go i ys H hlt p,Pv (i+1),λys' H' p'=>⟨n-(i+1),by lia,rfl,hlt,p'⟩,λx H1 y=>⟨⟨rfl,λj v e=>?_⟩,hs i ys H x H1 hlt p y⟩⟩;cases j with
  | zero=>cases e
  | succ j=>exact e
 have e:i=n:=by lia
 subst e
 exact .inl ⟨stop ys H p,hd ys H p⟩
def Ce {σ:St}{H:Hp}{A B:Hp->Prop}(h:A H):SE σ H λb H3=>if b=true then A H3 else B H3:=by
 show if true=true then A H else B H
 rw[As rfl];exact h
def Xg :(some x::some y::ρ:St).length=(none::none::ρ:St).length/\∀(i:Nat) v,(none::none::ρ:St)[i]? = some (some v)->(some x::some y::ρ:St)[i]? = some (some v):=
 ⟨rfl,λj v e=>by
  match j,e with
  | 0,e=>cases e
  | 1,e=>cases e
  | j+2,e=>exact e⟩
section
variable {X:Cx}
def NJ (K:W.Frag)(h:X.K=K):J2 X (Qh K):=by subst h;exact Bc
def EC (K:W.Frag)(h:X.K=K):J2 X (Qg K):=by subst h;exact AJ
def nJ (K:W.Frag)(h:X.K=K):Cp X (.builtin "len") (Qe K):=by subst h;exact Bp
def mY (K:W.Frag)(h:X.K=K):Cp X (.type "tuple") (λxs H Q=>∃p ys,xs=[.ref p]/\((SqL K H p ys/\∀l,H l=none->Q (.ref l) (Ab H l (.tup ys)))\/(SqT K H p ys/\Q (.ref p) H))):=by subst h;exact JB
def VI {t:TA}(K:W.Frag)(h:X.K=K)(hp:PE X e (OS X.K T r to t)):PE X e (OS K T r to t):=by subst h;exact hp
def QO {t:JY}(K:W.Frag)(h:X.K=K)(hp:PG X e (Jz X.K n t)):PG X e (Jz K n t):=by subst h;exact hp
end
def EF:bootBuiltins "tuple" = some (.type "tuple"):=by decide +kernel
def Ln:bootBuiltins "isinstance" = some (.builtin "isinstance"):=by decide +kernel
end L2
namespace Tx
open PySem L2 PyProof.Rows
open PySem.PyData (strOk)
def B7 (x y:Str):(x++y).length=x.length+y.length:=by (show(x.cps++y.cps).size=x.cps.size+y.cps.size);rw[Array.size_append]
def T6 (h:∀c∈x.cps.toList,c<0x110000):strOk x=true:=by unfold strOk;rw[Array.all_eq_true'];intro c hc;exact AR (h c (by simpa using hc))
def abc:Str := "abcdefghijklmnopqrstuvwxyz"
def Rj:abc.length<=sizeLine:=by rw[AK];decide +kernel
theorem UX (a:Array Nat):∀(k:Nat) (acc:Array Nat),(List.foldl (λx y=>x++y) acc (replicate k a)).toList=acc.toList++(replicate k a.toList).flatten
 | 0,acc=>by simp
 | k+1,acc=>by rw[JT,JI,UX a k,JT,Il,Array.toList_append,De]
def thingB:Str := "thing "
def Cu:Str := " "
def nO:Cu=⟨#[32]⟩:=by decide +kernel
end Tx
namespace Rk
open PySem
def cs (x:Str):List Nat:=x.cps.toList
def BH (x y:Str):cs (x++y)=cs x++cs y:=by show(x.cps++y.cps).toList=_;rw[Array.toList_append];rfl
def Q6 (h:cs x=cs y):x=y:=by
 cases x with | mk a=>
 cases y with | mk b=>
 have:a=b:=LF.mp h;rw[this]
def B3 (x:Str):(cs x).length=x.length:=by show x.cps.toList.length=x.cps.size;exact DY
def mQ (c:Nat):cs ⟨#[c]⟩=[c]:=rfl
def J:List (List Nat)->List Nat
 | []=>[]
 | [a]=>a
 | a::b::r=>a++32::J (b::r)
theorem Vs:∀{a b u v:List Nat},32∉a->32∉b->a++32::u=b++32::v->a=b/\u=v
 | [],[],u,v,_,_,h=>⟨rfl,by simpa using h⟩
 | [],y::b,u,v,_,hb,h=>by simp only[Oh,Ij,Ha]at h;exact absurd (AL.mpr (.inl h.1)) hb
 | x::a,[],u,v,ha,_,h=>by simp only[Oh,Ij,Ha]at h;exact absurd (AL.mpr (.inl h.1.symm)) ha
 | x::a,y::b,u,v,ha,hb,h=>by simp only[Ij,Ha]at h;obtain⟨e1,e2⟩:=Vs (λz=>ha (A6 _ z)) (λz=>hb (A6 _ z)) h.2;exact⟨by rw[h.1,e1],e2⟩
theorem V9:∀{ps ws:List (List Nat)},ps≠[]->ws≠[]->(∀p∈ps,32∉p)->(∀w∈ws,32∉w)->J ps=J ws->ps=ws
 | [],_,h,_,_,_,_=>absurd rfl h
 | _::_,[],_,h,_,_,_=>absurd rfl h
 | [a],[b],_,_,_,_,e=>by rw[show a=b from e]
 | [a],b::c::r,_,_,ha,_,e=>by have e':a=b++32::J (c::r):=e;exact absurd (by rw[e'];simp) (ha a (Bj ..))
 | a::c::r,[b],_,_,_,hb,e=>by have e':a++32::J (c::r)=b:=e;exact absurd (by rw[<- e'];simp) (hb b (Bj ..))
 | a::c::r,b::d::t,_,_,ha,hb,e=>by have e':a++32::J (c::r)=b++32::J (d::t):=e;obtain⟨e1,e2⟩:=Vs (ha a (Bj ..)) (hb b (Bj ..)) e';rw[e1,V9 (JR _ _) (JR _ _) (λp hp=>ha p (A6 _ hp)) (λp hp=>hb p (A6 _ hp)) e2]
theorem Wa:∀ps:List (List Nat),(J ps).count 32+1=(ps.map (List.count 32)).sum+(if ps=[]then 1 else ps.length)
 | []=>rfl
 | [a]=>by simp[J]
 | a::b::r=>by have ih:=Wa (b::r);rw[Am (JR _ _)]at ih ⊢;show(a++32::J (b::r)).count 32+1=_;rw[List.count_append,List.count_cons_self,A9,N5];simp only[CS]at ih ⊢;lia
theorem SR:∀{l:List Nat},l.sum=0->∀x∈l,x=0
 | [],_,_,h=>nomatch h
 | a::r,h,x,hx=>by
  rw[N5]at h;rcases(AL.mp hx)with e | e
  ·lia
  exact SR (by lia) x e
def fixedS:List Str:=["and", "or", "not", "while", "in", "on", "top", "held", "open", "shut", "locked", "bare", "free", "hand"]
structure Nv (x:Str):Prop where
 low:∀c∈cs x,97<=c/\c<=122
 pos:1<=x.length
 len:x.length<=8
 fix:x∉fixedS
def lA:∀w∈fixedS,∃c∈cs w,∃d∈cs w,c≠d:=by
 have h:fixedS.all (λw=>(cs w).any λc=>(cs w).any λd=>c != d)=true:=by decide +kernel
 intro w hw;have h1:=Fd.mp h w hw;obtain⟨c,hc,h2⟩:=Ie.mp h1;obtain⟨d,hd,h3⟩:=Ie.mp h2;exact⟨c,hc,d,hd,by simpa using h3⟩
def kZ:∀w∈fixedS,("z" : Str)++w∉fixedS/\(("z" : Str)++w).length<=8:=by
 have h:fixedS.all (λw=>decide (("z" : Str)++w∉fixedS) && decide ((("z" : Str)++w).length<=8))=true:=by decide +kernel
 intro w hw;have h1:=Fd.mp h w hw;rw[BZ]at h1;exact⟨A4 h1.1,A4 h1.2⟩
def cF (e:cs x=replicate n c)(h1:97<=c)(h2:c<=122)(n1:1<=n)(n2:n<=8):Nv x:=by
 have el:x.length=n:=by rw[<- B3,e,F5]
 refine⟨λd hd=>?_,by lia,by lia,λhf=>?_⟩
 ·rw[e]at hd;rw[(Im.mp hd).2];exact⟨h1,h2⟩
 obtain⟨a,ha,b,hb,ne⟩:=lA x hf;rw[e]at ha hb;exact ne ((Im.mp ha).2.trans (Im.mp hb).2.symm)
def Gh (x:Str):Str:=if x∈fixedS then("z" : Str)++x else x
def Wg (low:∀c∈cs x,97<=c/\c<=122)(h1:1<=x.length)(h2:x.length<=8):Nv (Gh x):=by
 unfold Gh;by_cases h:x∈fixedS
 ·rw[As h];have z:=kZ x h;refine⟨λc hc=>?_,?_,z.2,z.1⟩
  ·rw[BH]at hc;rcases(BK.mp hc)with q | q
   ·have:c=122:=by
     have e:cs ("z" : Str)=[122]:=by decide +kernel
     rw[e]at q;simpa using q
    lia
   exact low c q
  rw[<- B3,BH,AY,B3,B3];lia
 rw[Am h];exact⟨low,h1,h2,h⟩
def Wh (hl:x.length=y.length)(h:Gh x=Gh y):x=y:=by
 have lz:∀z:Str,(("z" : Str)++z).length=z.length+1:=λz=>by
  have e:("z" : Str).length=1:=by decide +kernel
  rw[<- B3,BH,AY,B3,B3,e];lia
 unfold Gh at h;by_cases h1:x∈fixedS
 ·rw[As h1]at h;by_cases h2:y∈fixedS
  ·rw[As h2]at h;have e:=BJ cs h;rw[BH,BH]at e;exact Q6 (List.append_cancel_left e)
  rw[Am h2]at h;have e:=BJ Str.length h;rw[lz]at e;lia
 rw[Am h1]at h;by_cases h2:y∈fixedS
 ·rw[As h2]at h;have e:=BJ Str.length h;rw[lz]at e;lia
 rw[Am h2]at h;exact h
def cG {α:Type}{l:List α}{x:α}(h:l.Nodup)(hx:x∉l):(l++[x]).Nodup:=by rw[Cw];refine⟨h,by simp,λa ha b hb=>?_⟩;rw[AX.mp hb];intro e;rw[e]at ha;exact hx ha
def lE {p:Int}{i j:Nat}(hi:i<26)(hj:j<26)(h:(p+5*(i:Int)) % 26=(p+5*(j:Int)) % 26):i=j:=by lia
inductive Ro where
 | pl (n:Str)
 | bx (n:Str)
 | lk (n k:Str)
 | th (n s:Str)
 deriving DecidableEq
def Ro.name:Ro->Str
 | .pl n=>n
 | .bx n=>n
 | .lk n _=>n
 | .th n _=>n
def Ro.isP:Ro->Bool
 | .th _ _=>false
 | _=>true
def Ro.boxed:Ro->Bool
 | .bx _=>true
 | .lk _ _=>true
 | _=>false
def Ro.words:Ro->List Str
 | .pl n=>["place",n]
 | .bx n=>["box",n]
 | .lk n k=>["box",n,k]
 | .th n s=>["thing",n,s]
def Ro.txt:Ro->Str
 | .pl n=>("place " : Str)++n
 | .bx n=>("box " : Str)++n
 | .lk n k=>("box " : Str)++n++(" " : Str)++k
 | .th n s=>("thing " : Str)++n++(" " : Str)++s
def Ro.nv:Ro->Prop
 | .pl n=>Nv n
 | .bx n=>Nv n
 | .lk n k=>Nv n/\Nv k
 | .th n s=>Nv n/\Nv s
theorem Ro.nv_name:∀{r:Ro},r.nv->Nv r.name
 | .pl _,h=>h
 | .bx _,h=>h
 | .lk _ _,h=>h.1
 | .th _ _,h=>h.1
def Nv.noblank (h:Nv x):32∉cs x:=λz=>by have:=h.low 32 z;lia
theorem Ro.noblank:∀{r:Ro},r.nv->∀w∈r.words,32∉cs w
 | .pl n,h,w,hw=>by
  simp only[Ro.words,AL,Cn,Ck]at hw;rcases hw with e | e
  ·rw[e];decide +kernel
  rw[e];exact Nv.noblank h
 | .bx n,h,w,hw=>by
  simp only[Ro.words,AL,Cn,Ck]at hw;rcases hw with e | e
  ·rw[e];decide +kernel
  rw[e];exact Nv.noblank h
 | .lk n k,h,w,hw=>by
  simp only[Ro.words,AL,Cn,Ck]at hw;rcases hw with e | e | e
  ·rw[e];decide +kernel
  ·rw[e];exact Nv.noblank h.1
  rw[e];exact Nv.noblank h.2
 | .th n k,h,w,hw=>by
  simp only[Ro.words,AL,Cn,Ck]at hw;rcases hw with e | e | e
  ·rw[e];decide +kernel
  ·rw[e];exact Nv.noblank h.1
  rw[e];exact Nv.noblank h.2
theorem mP:∀r:Ro,cs r.txt=J (r.words.map cs)
 | .pl n=>by
  show cs (("place " : Str)++n)=cs ("place" : Str)++32::cs n;rw[BH];have e:cs ("place " : Str)=cs ("place" : Str)++[32]:=by decide +kernel
  rw[e];simp
 | .bx n=>by
  show cs (("box " : Str)++n)=cs ("box" : Str)++32::cs n;rw[BH];have e:cs ("box " : Str)=cs ("box" : Str)++[32]:=by decide +kernel
  rw[e];simp
 | .lk n k=>by
  show cs (("box " : Str)++n++(" " : Str)++k)=cs ("box" : Str)++32::(cs n++32::cs k);rw[BH,BH,BH];have e:cs ("box " : Str)=cs ("box" : Str)++[32]:=by decide +kernel
  have e2:cs (" " : Str)=[32]:=by decide +kernel
  rw[e,e2];simp
 | .th n k=>by
  show cs (("thing " : Str)++n++(" " : Str)++k)=cs ("thing" : Str)++32::(cs n++32::cs k);rw[BH,BH,BH];have e:cs ("thing " : Str)=cs ("thing" : Str)++[32]:=by decide +kernel
  have e2:cs (" " : Str)=[32]:=by decide +kernel
  rw[e,e2];simp
theorem So:∀r:Ro,r.isP=false↔∃z,cs r.txt=cs ("thing " : Str)++z
 | .pl n=>by
  constructor
  ·intro h;cases h
  rintro⟨z,h⟩;rw[show cs (Ro.pl n).txt=cs ("place " : Str)++cs n from BH _ _]at h;have e1:cs ("place " : Str)=112::(cs ("place " : Str)).tail:=by decide +kernel
  have e2:cs ("thing " : Str)=116::(cs ("thing " : Str)).tail:=by decide +kernel
  rw[e1,e2]at h;simp only[Ij,Ha]at h;exact absurd h.1 (by decide)
 | .bx n=>by
  constructor
  ·intro h;cases h
  rintro⟨z,h⟩;rw[show cs (Ro.bx n).txt=cs ("box " : Str)++cs n from BH _ _]at h;have e1:cs ("box " : Str)=98::(cs ("box " : Str)).tail:=by decide +kernel
  have e2:cs ("thing " : Str)=116::(cs ("thing " : Str)).tail:=by decide +kernel
  rw[e1,e2]at h;simp only[Ij,Ha]at h;exact absurd h.1 (by decide)
 | .lk n k=>by
  constructor
  ·intro h;cases h
  rintro⟨z,h⟩;rw[show cs (Ro.lk n k).txt=cs ("box " : Str)++cs n++cs (" " : Str)++cs k from by show cs (("box " : Str)++n++(" " : Str)++k)=_;rw[BH,BH,BH]]at h;have e1:cs ("box " : Str)=98::(cs ("box " : Str)).tail:=by decide +kernel
  have e2:cs ("thing " : Str)=116::(cs ("thing " : Str)).tail:=by decide +kernel
  rw[e1,e2]at h;simp only[Ij,Ha]at h;exact absurd h.1 (by decide)
 | .th n k=>by refine⟨λ_=>⟨cs n++cs (" " : Str)++cs k,?_⟩,λ_=>rfl⟩;show cs (("thing " : Str)++n++(" " : Str)++k)=_;rw[BH,BH,BH];simp
def Sq {r:Ro}(h:r.nv):r.txt.length<=23:=by
 have l6:("place " : Str).length=6:=by decide +kernel
 have l4:("box " : Str).length=4:=by decide +kernel
 have t6:("thing " : Str).length=6:=by decide +kernel
 have l1:(" " : Str).length=1:=by decide +kernel
 cases r with
 | pl n =>have:=Nv.len h;rw[<- B3,show(Ro.pl n).txt=("place " : Str)++n from rfl,BH,AY,B3,B3];lia
 | bx n=>have:=Nv.len h;rw[<- B3,show(Ro.bx n).txt=("box " : Str)++n from rfl,BH,AY,B3,B3];lia
 | lk n k=>have:=Nv.len h.1;have:=Nv.len h.2;rw[<- B3,show(Ro.lk n k).txt=("box " : Str)++n++(" " : Str)++k from rfl,BH,BH,BH,AY,AY,AY,B3,B3,B3,B3];lia
 | th n k=>have:=Nv.len h.1;have:=Nv.len h.2;rw[<- B3,show(Ro.th n k).txt=("thing " : Str)++n++(" " : Str)++k from rfl,BH,BH,BH,AY,AY,AY,B3,B3,B3,B3];lia
def plc:List Ro->List (Str×Bool×Option Str)
 | []=>[]
 | .pl n::r=>(n,false,none)::plc r
 | .bx n::r=>(n,true,none)::plc r
 | .lk n k::r=>(n,true,some k)::plc r
 | .th _ _::r=>plc r
def ths:List Ro->List (Str×Str)
 | []=>[]
 | .th n s::r=>(n,s)::ths r
 | _::r=>ths r
theorem Fk:∀a b:List Ro,plc (a++b)=plc a++plc b
 | [],_=>rfl
 | .pl n::r,b=>by simp[plc,Fk r b]
 | .bx n::r,b=>by simp[plc,Fk r b]
 | .lk n k::r,b=>by simp[plc,Fk r b]
 | .th n s::r,b=>by simp[plc,Fk r b]
theorem Ew:∀a b:List Ro,ths (a++b)=ths a++ths b
 | [],_=>rfl
 | .pl n::r,b=>by simp[ths,Ew r b]
 | .bx n::r,b=>by simp[ths,Ew r b]
 | .lk n k::r,b=>by simp[ths,Ew r b]
 | .th n s::r,b=>by simp[ths,Ew r b]
theorem Fo:∀rs:List Ro,(rs.map Ro.name).Perm ((plc rs).map (·.1)++(ths rs).map (·.1))
 | []=>.nil
 | .pl n::r=>.cons _ (Fo r)
 | .bx n::r=>.cons _ (Fo r)
 | .lk n k::r=>.cons _ (Fo r)
 | .th n s::r=>(Oc n (Fo r)).trans JQ.symm
def FY (h:n∈(plc rs).map (·.1)):n∈rs.map Ro.name:=(Fo rs).mem_iff.mpr (JO _ h)
def Uh (h:n∈(ths rs).map (·.1)):n∈rs.map Ro.name:=(Fo rs).mem_iff.mpr (EO _ h)
structure Good (rs:List Ro):Prop where
 nv:∀r∈rs,r.nv
 nd:(rs.map Ro.name).Nodup
 first:∃n t,plc rs=(n,false,none)::t
 fewP:(plc rs).length<=6
 fewT:(ths rs).length<=6
 keys:∀p∈plc rs,∀k,p.2.2=some k->k∈(ths rs).map (·.1)
def Good.floor (g:Good rs) (e:rs=a++r::b)(h:r.boxed=true):plc a≠[]:=λz=>by
 obtain⟨n,t,f⟩:=g.first;rw[e,Fk,z,Oh]at f;cases r with
 | pl n=>cases h
 | th n s=>cases h
 | bx n=>simp[plc]at f
 | lk n k=>simp[plc]at f
def Good.ndP (g:Good rs):((plc rs).map (·.1)).Nodup:=((Cw.mp ((Fo rs).nodup_iff.mp g.nd))).1
def Good.ndT (g:Good rs):((ths rs).map (·.1)).Nodup:=((Cw.mp ((Fo rs).nodup_iff.mp g.nd))).2.1
def Y5 (rs:List Ro)(i:Nat)(n s:Str):plc (rs.take i++.th n s::rs.drop i)=plc rs:=by rw[Fk];show plc (rs.take i)++plc (rs.drop i)=_;rw[<- Fk,DG]
def WC (rs:List Ro)(i:Nat)(n s:Str):(ths (rs.take i++.th n s::rs.drop i)).Perm ((n,s)::ths rs):=by rw[Ew];show(ths (rs.take i)++(n,s)::ths (rs.drop i)).Perm _;refine JQ.trans (.cons _ ?_);rw[<- Ew,DG]
end Rk
namespace Rk
open PySem PyProof.Rows L2 Tx
theorem Vv (c:Nat):∀l:List Nat,cnt c l=(l.count c:Int)
 | []=>by rw[cnt_nil];rfl
 | n::r=>by
  rw[cnt_cons,Vv c r,List.count_cons];by_cases h:n=c
  ·simp[h];lia
  simp[h]
def mU:cs Cu=[32]:=by decide +kernel
theorem Q5:∀ps:List Str,cs (Str.join Cu ps)=J (ps.map cs)
 | []=>rfl
 | [a]=>rfl
 | a::b::r=>by show cs (a++Cu++Str.join Cu (b::r))=cs a++32::J (cs b::r.map cs);rw[BH,BH,Q5 (b::r),mU];simp
theorem Ul:∀{xs ys:List Str},xs.map cs=ys.map cs->xs=ys
 | [],[],_=>rfl
 | [],_::_,h=>by simp at h
 | _::_,[],h=>by simp at h
 | x::xs,y::ys,h=>by (simp only[A9,Ha]at h);rw[Q6 h.1,Ul h.2]
def SX (h0:ws≠[])(hx:cs x=J (ws.map cs))(hb:∀w∈ws,32∉cs w):Txt.split x Cu=ws:=by
 have hj:=StrLaws.join_split x Cu;have hl:=split_len x 32;rw[<- nO,Vv]at hl;have e1:J ((Txt.split x Cu).map cs)=cs x:=by rw[<- Q5,hj]
 have hc:=Wa ((Txt.split x Cu).map cs);have n0:Txt.split x Cu≠[]:=λz=>by rw[z]at hl;simp at hl;lia
 rw[Am (by simpa using n0),e1,Ak]at hc;have hcc:(cs x).count 32=x.cps.toList.count 32:=rfl;have hs:(((Txt.split x Cu).map cs).map (List.count 32)).sum=0:=by lia
 have hp:∀p∈(Txt.split x Cu).map cs,32∉p:=λp hp=>by have:=SR hs (p.count 32) (Cy hp);exact List.count_eq_zero.mp this
 refine Ul (V9 (by simpa using n0) (by simpa using h0) hp (λw hw=>?_) (e1.trans hx));obtain⟨v,hv,rfl⟩:=Bi.mp hw;exact hb v hv
def Wj (r:Ro):r.words≠[]:=by cases r <;> exact JR _ _
def SY {r:Ro}(h:r.nv):Txt.split r.txt Cu=r.words:=SX (Wj r) (mP r) (Ro.noblank h)
def SW (x:Str):Txt.startswith x thingB=true↔∃z,cs x=cs thingB++z:=by
 have l6:thingB.length=6:=by decide +kernel
 have c6:(cs thingB).length=6:=by decide +kernel
 unfold Txt.startswith Builtin.Str.subAt;rw[BZ];constructor
 ·rintro⟨h1,h2⟩;have e:x.cps.extract 0 (0+thingB.length)=thingB.cps:=by simpa using h2
  refine⟨(cs x).drop 6,?_⟩;have e2:(x.cps.extract 0 (0+thingB.length)).toList=(cs x).take 6:=by rw[Array.toList_extract,l6];simp[cs]
  rw[e]at e2;show cs x=thingB.cps.toList++(cs x).drop 6;rw[e2,DG]
 rintro⟨z,h⟩;have hl:x.length=6+z.length:=by rw[<- B3,h,AY,c6]
 refine⟨AR (by lia),?_⟩;have e:x.cps.extract 0 (0+thingB.length)=thingB.cps:=by apply LF.mp;rw[Array.toList_extract,l6];show(List.drop 0 (cs x)).take (0+6-0)=cs thingB;rw[h,FA];exact Rq c6
 simpa using e
def Xm (r:Ro):Txt.startswith r.txt thingB=!r.isP:=by
 cases hp:r.isP with
 | false=>rw[(SW r.txt).mpr ((So r).mp hp)];rfl
 | true=>
  cases hs:Txt.startswith r.txt thingB with
  | false=>rfl
  | true=>have:=(So r).mpr ((SW r.txt).mp hs);rw[hp]at this;cases this
def Nv.ok (h:Nv x):PySem.PyData.strOk x=true:=T6 λc hc=>by have:=h.low c hc;lia
def Nv.ascii (h:Nv x):x.cps.all (· < 128)=true:=by rw[Array.all_eq_true'];intro c hc;have:=h.low c (by simpa [cs] using hc);(exact AR (by lia))
def nY:∀n:Nat,n<26->abc.cps.toList[n]? = some (97+n):=by decide +kernel
def VU (h0:0<=i)(h1:i<26):atI abc.cps.toList i=some (97+i.toNat):=by have q:=Az (nY i.toNat (by lia));rw[En h0]at q;exact q
def jK (h1:97<=c)(h2:c<=122):(!(Builtin.Str.occurrences abc ⟨#[c]⟩ 0 abc.length 1).isEmpty)=true:=by
 have h:∀n:Nat,n<26->(!(Builtin.Str.occurrences abc ⟨#[97+n]⟩ 0 abc.length 1).isEmpty)=true:=by decide +kernel
 have:=h (c-97) (by lia);rw[show 97+(c-97)=c by lia]at this;exact this
theorem GC (x:Str):∀ys:List Str,Fs (.str x) (ys.map V.str)=decide (x∈ys)
 | []=>rfl
 | y::ys=>by
  show(ED (.str y) (.str x) || Fs (.str x) (ys.map V.str))=_;rw[GC x ys];by_cases h:y=x
  ·subst h;simp[ED]
  have h':¬x=y:=λe=>h e.symm;simp[ED,h,h']
theorem flat_strs:∀ys:List Str,(ys.map V.str).all E6=true
 | []=>rfl
 | _::ys=>by rw[A9,JK,flat_strs ys];rfl
def Bw:List Ro->List (Af×V)
 | []=>[]
 | .bx n::r=>(Sum.inr n,.bl true)::Bw r
 | .lk n _::r=>(Sum.inr n,.bl true)::Bw r
 | _::r=>Bw r
def BA:List Ro->List (Af×V)
 | []=>[]
 | .lk n k::r=>(Sum.inr n,.str k)::BA r
 | _::r=>BA r
def DS (rs:List Ro):List (Af×V):=(ths rs).map λx=>(Sum.inr x.1,.str x.2)
theorem HQ:∀a b:List Ro,Bw (a++b)=Bw a++Bw b
 | [],_=>rfl
 | .pl n::r,b=>by simp[Bw,HQ r b]
 | .bx n::r,b=>by simp[Bw,HQ r b]
 | .lk n k::r,b=>by simp[Bw,HQ r b]
 | .th n s::r,b=>by simp[Bw,HQ r b]
theorem HU:∀a b:List Ro,BA (a++b)=BA a++BA b
 | [],_=>rfl
 | .pl n::r,b=>by simp[BA,HU r b]
 | .bx n::r,b=>by simp[BA,HU r b]
 | .lk n k::r,b=>by simp[BA,HU r b]
 | .th n s::r,b=>by simp[BA,HU r b]
theorem Lb:∀rs:List Ro,(Bw rs).length<=rs.length
 | []=>Au _
 | .pl n::r=>by have:=Lb r;simp[Bw];lia
 | .bx n::r=>by have:=Lb r;simp[Bw];lia
 | .lk n k::r=>by have:=Lb r;simp[Bw];lia
 | .th n s::r=>by have:=Lb r;simp[Bw];lia
theorem Le:∀rs:List Ro,(BA rs).length<=rs.length
 | []=>Au _
 | .pl n::r=>by have:=Le r;simp[BA];lia
 | .bx n::r=>by have:=Le r;simp[BA];lia
 | .lk n k::r=>by have:=Le r;simp[BA];lia
 | .th n s::r=>by have:=Le r;simp[BA];lia
theorem HP :∀{rs:List Ro},x∉rs.map Ro.name->Ay (Bw rs) (Sum.inr x:Af)=none
 | [],_=>rfl
 | .pl n::r,h=>HP (rs:=r) λz=>h (A6 _ z)
 | .th n s::r,h=>HP (rs:=r) λz=>h (A6 _ z)
 | .bx n::r,h=>by show Ay ((Sum.inr n,.bl true)::Bw r) _=none;rw[Bn (λe=>h (by rw[Cv e];exact Bj))];exact HP (rs:=r) λz=>h (A6 _ z)
 | .lk n k::r,h=>by show Ay ((Sum.inr n,.bl true)::Bw r) _=none;rw[Bn (λe=>h (by rw[Cv e];exact Bj))];exact HP (rs:=r) λz=>h (A6 _ z)
theorem F0 :∀{rs:List Ro},x∉rs.map Ro.name->Ay (BA rs) (Sum.inr x:Af)=none
 | [],_=>rfl
 | .pl n::r,h=>F0 (rs:=r) λz=>h (A6 _ z)
 | .th n s::r,h=>F0 (rs:=r) λz=>h (A6 _ z)
 | .bx n::r,h=>F0 (rs:=r) λz=>h (A6 _ z)
 | .lk n k::r,h=>by show Ay ((Sum.inr n,.str k)::BA r) _=none;rw[Bn (λe=>h (by rw[Cv e];exact Bj))];exact F0 (rs:=r) λz=>h (A6 _ z)
def iI (rs:List Ro)(i:Nat)(n s:Str):Bw (rs.take i++.th n s::rs.drop i)=Bw rs:=by rw[HQ];show Bw (rs.take i)++Bw (rs.drop i)=_;rw[<- HQ,DG]
def iU (rs:List Ro)(i:Nat)(n s:Str):BA (rs.take i++.th n s::rs.drop i)=BA rs:=by rw[HU];show BA (rs.take i)++BA (rs.drop i)=_;rw[<- HU,DG]
end Rk
namespace Rk
open PySem PySem.Spec PyProof.Rows L2 Tx
def Xn (h0:ws≠[])(hb:∀w∈ws,32∉cs w):Txt.split (Txt.join Cu ws) Cu=ws:=by refine SX h0 ?_ hb;rw[<- Q5];exact BJ cs (StrLaws.glued_eq_join Cu ws)
def Lo (p:Str×Bool×Option Str)(l:Str):Prop:=l = "open" \/ (l = "shut" /\ p.2.1=true)\/(l = "locked" /\ p.2.2.isSome=true)
theorem K9:∀{rs:List Ro}{p:Str×Bool×Option Str},(rs.map Ro.name).Nodup->p∈plc rs->(Ay (Bw rs) (Sum.inr p.1:Af)).isSome=true->p.2.1=true
 | [],_,_,h,_=>nomatch h
 | .th n s::r,p,nd,h,e=>K9 (rs:=r) (Bq.mp nd).2 h e
 | .pl n::r,p,nd,h,e=>by
  rcases AL.mp (show p∈(n,false,none)::plc r from h)with z | z
  ·have hn:n∉r.map Ro.name:=(Bq.mp nd).1;have e':(Ay (Bw r) (Sum.inr p.1:Af)).isSome=true:=e;rw[z,HP hn]at e';cases e'
  exact K9 (rs:=r) (Bq.mp nd).2 z e
 | .bx n::r,p,nd,h,e=>by
  rcases AL.mp (show p∈(n,true,none)::plc r from h)with z | z
  ·rw[z]
  have hne:n≠p.1:=λq=>(Bq.mp nd).1 (by rw[show Ro.name (.bx n)=n from rfl,q];exact FY (Cy z));have e':(Ay ((Sum.inr n,V.bl true)::Bw r) (Sum.inr p.1:Af)).isSome=true:=e;rw[Bn (λq=>hne (Cv q))]at e';exact K9 (rs:=r) (Bq.mp nd).2 z e'
 | .lk n k::r,p,nd,h,e=>by
  rcases AL.mp (show p∈(n,true,some k)::plc r from h)with z | z
  ·rw[z]
  have hne:n≠p.1:=λq=>(Bq.mp nd).1 (by rw[show Ro.name (.lk n k)=n from rfl,q];exact FY (Cy z));have e':(Ay ((Sum.inr n,V.bl true)::Bw r) (Sum.inr p.1:Af)).isSome=true:=e;rw[Bn (λq=>hne (Cv q))]at e';exact K9 (rs:=r) (Bq.mp nd).2 z e'
theorem Lc:∀{rs:List Ro}{p:Str×Bool×Option Str},(rs.map Ro.name).Nodup->p∈plc rs->(Ay (BA rs) (Sum.inr p.1:Af)).isSome=true->p.2.2.isSome=true
 | [],_,_,h,_=>nomatch h
 | .th n s::r,p,nd,h,e=>Lc (rs:=r) (Bq.mp nd).2 h e
 | .pl n::r,p,nd,h,e=>by
  rcases AL.mp (show p∈(n,false,none)::plc r from h)with z | z
  ·have hn:n∉r.map Ro.name:=(Bq.mp nd).1;have e':(Ay (BA r) (Sum.inr p.1:Af)).isSome=true:=e;rw[z,F0 hn]at e';cases e'
  exact Lc (rs:=r) (Bq.mp nd).2 z e
 | .bx n::r,p,nd,h,e=>by
  rcases AL.mp (show p∈(n,true,none)::plc r from h)with z | z
  ·have hn:n∉r.map Ro.name:=(Bq.mp nd).1;have e':(Ay (BA r) (Sum.inr p.1:Af)).isSome=true:=e;rw[z,F0 hn]at e';cases e'
  exact Lc (rs:=r) (Bq.mp nd).2 z e
 | .lk n k::r,p,nd,h,e=>by
  rcases AL.mp (show p∈(n,true,some k)::plc r from h)with z | z
  ·rw[z];rfl
  have hne:n≠p.1:=λq=>(Bq.mp nd).1 (by rw[show Ro.name (.lk n k)=n from rfl,q];exact FY (Cy z));have e':(Ay ((Sum.inr n,V.str k)::BA r) (Sum.inr p.1:Af)).isSome=true:=e;rw[Bn (λq=>hne (Cv q))]at e';exact Lc (rs:=r) (Bq.mp nd).2 z e'
def Al (rs:List Ro)(x l:Str):Prop:=l = "open" \/ (l = "shut" /\ (Ay (Bw rs) (Sum.inr x:Af)).isSome=true)\/(l = "locked" /\ (Ay (BA rs) (Sum.inr x:Af)).isSome=true)
def Al.lo (g:Good rs) (h:p∈plc rs)(a:Al rs p.1 l):Lo p l:=by
 rcases a with a | ⟨a,b⟩ | ⟨a,b⟩
 ·exact .inl a
 ·exact .inr (.inl ⟨a,K9 g.nd h b⟩)
 exact .inr (.inr ⟨a,Lc g.nd h b⟩)
theorem S9 {α:Type}{a b:List α}{x:α}:∀{xss:List (List α)}{j:Nat},xss[j]? = some (a++b)->((xss.set j (a++x::b)).flatten).Perm (x::xss.flatten)
 | [],_,h=>by simp at h
 | y::r,0,h=>by
  have e:y=a++b:=by simpa using h
  subst e;rw[List.set_cons_zero,Il,Il];have:(a++x::b++r.flatten)=a++x::(b++r.flatten):=by simp
  rw[this,De];exact JQ
 | y::r,j+1,h=>by rw[List.set_cons_succ,Il,Il];have ih:=S9 (a:=a) (b:=b) (x:=x) (xss:=r) (j:=j) (by simpa using h);exact(F8 y ih).trans JQ
theorem QE {α:Type}:∀{xss:List (List α)}{h:List α},h∈xss->h.length<=xss.flatten.length
 | y::r,h,hm=>by
  rw[Il,AY];rcases(AL.mp hm)with e | e
  ·rw[e];lia
  have:=QE e;lia
end Rk
namespace SK
open PySem PyProof.Rows
def dd {κ:Type}[DecidableEq κ](val:Nat->κ):Nat->List κ
 | 0=>[]
 | i+1=>if val i∈dd val i then dd val i else dd val i++[val i]
section
variable {κ:Type} [DecidableEq κ] {val:Nat->κ}
theorem dd_le:∀i:Nat,(dd val i).length<=i
 | 0=>Au _
 | i+1=>by
  have ih:=dd_le i;show(if val i∈dd val i then dd val i else dd val i++[val i]).length<=i+1;split
  ·lia
  rw[AY];show(dd val i).length+1<=i+1;lia
theorem QZ:∀{i:Nat}{x:κ},x∈dd val i->∃j,j<i/\x=val j
 | 0,_,h=>nomatch h
 | i+1,x,h=>by
  have h':x∈(if val i∈dd val i then dd val i else dd val i++[val i]):=h;split at h'
  ·obtain⟨j,hj,e⟩:=QZ h';exact⟨j,by lia,e⟩
  rcases BK.mp h' with z | z
  ·obtain⟨j,hj,e⟩:=QZ z;exact⟨j,by lia,e⟩
  exact⟨i,by lia,AX.mp z⟩
theorem dd_full (inj:∀i j,i<n->j<n->val i=val j->i=j):∀i:Nat,i<=n->(dd val i).length=i
 | 0,_=>rfl
 | i+1,h=>by
  have ih:=dd_full inj i (by lia);show(if val i∈dd val i then dd val i else dd val i++[val i]).length=i+1;rw[Am,AY,ih]
  ·rfl
  intro z;obtain⟨j,hj,e⟩:=QZ z;have:=inj i j (by lia) (by lia) e;lia
def dd_step (i:Nat)(x:κ):decide (x∈dd val (i+1))=(decide (x∈dd val i) || decide (x=val i)):=by
 show decide (x∈(if val i∈dd val i then dd val i else dd val i++[val i]))=_;by_cases h:val i∈dd val i
 ·rw[As h];by_cases e:x=val i
  ·subst e;simp[h]
  simp[e]
 rw[Am h];simp[BK]
def dd_size (i:Nat):(dd val (i+1)).length=if decide (val i∈dd val i)=true then(dd val i).length else(dd val i).length+1:=by
 show(if val i∈dd val i then dd val i else dd val i++[val i]).length=_;by_cases h:val i∈dd val i
 ·rw[As h,As (AR h)]
 rw[Am h,Am (by simpa using h),AY];rfl
end
section
variable {prog:Program}{w:World}{κ:Type} [DecidableEq κ] {knd:KeyKind prog w κ}{A:Around}{R:Result->Shared->Prop}{I:Addr}{fp wr:List Addr}{G:Array GenState->Array GenState->Prop}{n:Nat}{P:Nat->Value->Prop}{St:Nat->Shared->Prop}
def kept {S:Addr}{h h':Heap}{f:κ->Bool}{m:Nat}(q:h.SetOf knd S f m)(e:∀o,h.get? S=some o->h'.get? S=some o):h'.SetOf knd S f m:=by obtain⟨o,es,ep,t,ho,r⟩:=q;exact⟨o,es,ep,t,e o ho,r⟩
def NR {S:Addr}{h:Heap}{f g:κ->Bool}{m k:Nat}(q:h.SetOf knd S f m)(e:∀x,f x=g x)(em:m=k):h.SetOf knd S g k:=by have:f=g:=funext e;subst this em;exact q
def QR (W:WalksS prog w A.in1 I fp wr G n P St)(S:Addr)(nS:S∉fp)(val:Nat->κ)(hv:∀i v,P i v->knd.is (val i) v=true/\v.scannable=true)(hb:n+1<scanBound) :
  ∀(k i:Nat) (s:Shared),n-i=k->i<=n->St i s->s.heap.SetOf knd S (λx=>decide (x∈dd val i)) (dd val i).length ->
   (∀s',Moved (S::wr) G s s'->s'.heap.SetOf knd S (λx=>decide (x∈dd val n)) (dd val n).length->R (.ok (.ret .none)) s') ->
   (codeAny (model prog w) A (.builtin "set.update.loop" ⟨[.ref S,.ref I],[]⟩) R s):=by
 have nw:S∉wr:=λh=>nS (W.sub _ h)
 have sub:∀b∈wr,b∈S::wr:=λb z=>A6 _ z
 intro k
 induction k with
 | zero=>
  intro i s hk hi st hS fin;obtain rfl:i=n:=by lia
  refine DF N1 ?_;rw[Eo JG _];refine Ae (m:=pyNext (.ref I)) (W.done s _ _ st λs1 hm=>?_);exact An (fin s1 (hm.mono sub) (kept hS λo e=>hm.heap S o nw e))
 | succ k ih=>
  intro i s hk hi st hS fin;have lt:i<n:=by lia
  refine DF N1 ?_;rw[Eo JG _];refine Ae (m:=pyNext (.ref I)) (W.item i s _ _ lt st λv s1 hP st1 hm=>?_);obtain⟨key,sc⟩:=hv i v hP;refine Ae (m:=holding [v] (setAdd S v)) (DE ?_);unfold setAdd;refine DE (Ae (knd.pyHash (k:=val i) key ?_));have room:(dd val i).length+1<scanBound:=by have:=dd_le (val:=val) i;lia
  refine wpAny_setAddHashed_of (knd:=knd) (s:={ s1 with toks:=s1.toks+1 }) key sc (kept hS λo e=>hm.heap S o nw e) room λh2 sb hS2=>?_;have hS3:h2.SetOf knd S (λx=>decide (x∈dd val (i+1))) (dd val (i+1)).length:=NR hS2 (λx=>(dd_step i x).symm) (dd_size i).symm;have oth:∀b o,b≠S->s1.heap.get? b=some o->h2.get? b=some o:=λb o z e=>(sb.2 b z).trans e;refine An ⟨EJ JG _,ih (i+1) _ (by lia) lt (W.frame _ s1 h2 (s1.toks+1) st1 (Fc _) λb hb o e=>oth b o (λz=>nS (z ▸ hb)) e) hS3 λs2 hm2 q=>?_⟩;refine fin s2 (Moved.trans W.gtrans ((hm.mono sub).then_heap (Fc _) λb o hb e=>oth b o (λz=>hb (z ▸ Bj)) e) hm2) q
end
section
variable {prog:Program}{w:World}{κ:Type} [DecidableEq κ] {knd:KeyKind prog w κ}{A:Around}{E:Value->Shared->Prop}{s:Shared}
abbrev CP (led:Bool):Obj:={ cls:=.type "set",dict:=none,data:=.set #[] 0 (.fresh 0 0 led) }
set_option maxHeartbeats 3300000 in
def make {val:Nat->κ} (hh:A.handled=none)(hl:s.heap.IsList l items)(hv:∀i v,items[i]? = some v->knd.is (val i) v=true/\v.scannable=true)(hb:items.size+1<scanBound)
  (q:∀(h':Heap) (tk:Nat),h'.SetOf knd s.heap.objs.size (λx=>decide (x∈dd val items.size)) (dd val items.size).length->(∀b o,s.heap.get? b=some o->h'.get? b=some o)->Q (.ref s.heap.objs.size) { s with heap:=h',toks:=tk }) :
  (wpAny (model prog w) A (call (.type "set") [.ref l]) Q E s):=by
 obtain⟨c,tl,hmro⟩:=Do.mro
 have hmade:=Do.made
 have hsub:=Do.sub
 refine wpAny_call (LC (show wpAny _ _ (callAny (.type "set") _) _ _ _ from ?_))
 refine An ⟨Code.quiet_builtin _ (by decide +kernel),DF PySem.F.entry_type_call ?_⟩
 (rw[Around.under_plain (weight_type_call_type "set" [.ref l] []) rfl])
 have h1:=Do.notType
 have h2:=Do.canCreate
 have hct:=PySem.F.typeCall_set_1 (.ref l)
 (repeat (any_goals (first | assumption | wp_step)))
 refine G2 (code_set_new_1 (.ref l) (E:=E) (Q₁:=λob s1=>∃led:Bool,ob=.ref s.heap.objs.size/\s1={ s with heap:=s.heap.push { cls:=.type "set",dict:=none,data:=.set #[] 0 (.fresh 0 0 led) } }) λled=>⟨led,rfl,rfl⟩) λr s1 hr=>?_
 cases r with
 | error e=>exact hr
 | ok fl=>
  cases fl with
  | ret ob=>
   obtain⟨led,rfl,rfl⟩:=hr;have hS:(s.heap.push (CP led)).get? s.heap.objs.size=some (CP led):=Bg _ rfl;have hT:Shared.TypeIs { s with heap:=s.heap.push (CP led) } (.ref s.heap.objs.size) "set" := ⟨_,hS,rfl⟩;have hli:=Do.init.lookup;have hbi:=Do.init.bind (.ref s.heap.objs.size);(repeat (any_goals (first | assumption | wp_step)));refine G2 (codeAny_call_builtin (R:=wants (λr s2=>r=.none/\∃h' tk,s2={ s with heap:=h',toks:=tk }/\h'.SetOf knd s.heap.objs.size (λx=>decide (x∈dd val items.size)) (dd val items.size).length /\ (∀b o,s.heap.get? b=some o->h'.get? b=some o)) E) Do.init.plain PySem.F.entry_set_init (check_set_init_1 hT ?_)) λr2 s2 hr2=>?_
   ·obtain⟨⟨ocls,odict,odata,oslots⟩,hol,hcl,nl,hdl⟩:=hl;simp only at hcl hdl;subst hcl hdl;have hol':(s.heap.push (CP led)).get? l=some { cls:=.type "list",dict:=odict,data:=.seq items nl,slots:=oslots }:=AU _ hol;have x1:=PySem.F.sub_list_set;have x2:=V1;have x3:(Value.type "list" == Value.type "dict")=false:=by decide
    have hl1:(s.heap.push (CP led)).IsList l items:=⟨_,hol',rfl,nl,rfl⟩;(unfold Builtin.«set.__init__» noKeywords Builtin.Frozenset.updateFrom);generalize hPI:pyIter=PI;wp_walk;subst hPI;(refine LK hl1 ?_);(refine Ae (Ob ?_));have lt:l<s.heap.objs.size:=A1 hol;have sz:(s.heap.push (CP led)).objs.size=s.heap.objs.size+1:=G7 ..;(have hh3:A.in1.in1.in1.handled=none:=by simp[hh]);have ne1:l≠(s.heap.push (CP led)).objs.size:=by rw[sz];exact Be (G5 lt)
    have nS:s.heap.objs.size∉[(s.heap.push (CP led)).objs.size,l]:=by rw[sz];simp only[AL,Cn,Ck,not_or];exact⟨Be (G3 _),Er lt⟩
    refine QR (knd:=knd) ((Walks.list hh3 _ l ne1 items).toS) s.heap.objs.size nS val hv hb (items.size-0) 0 _ (by lia) (A5 _) ⟨⟨_,Bg _ rfl,rfl,rfl⟩,hl1.push _⟩ ?_ λs3 hm q3=>?_
    ·have g:=AU ({ cls:=.type "list_iterator",data:=.fields #[.ref l,.int 0 0] }:Obj) hS;exact NR ((PyProof.Rows.setObjOf_fresh (knd:=knd) led).setOf g (by unfold scanBound;lia)) (λx=>by simp[dd]) rfl
    obtain⟨h3,g3,d3,tk3,os3⟩:=s3;obtain⟨m1,m2,m3,m4,m5⟩:=hm;have eg:g3=s.gens:=m2;have ed:d3=s.drawn:=m3;have es:os3=s.os:=m4;subst eg ed es;refine An (An ⟨rfl,h3,tk3,rfl,q3,λb o e=>m1 b o ?_ (AU _ (AU _ e))⟩);have lb:b<s.heap.objs.size:=A1 e;rw[sz];simp only[AL,Cn,Ck,not_or];exact⟨Be lb,Be (G5 lb)⟩
   cases r2 with
   | error e=>exact hr2
   | ok fl2=>
    cases fl2 with
    | ret r=>obtain⟨rfl,h',tk,rfl,a1,a2⟩:=hr2;(repeat (any_goals (first | assumption | wp_step)));exact q _ _ a1 a2
    | _=>exact hr2.elim
  | _=>exact hr.elim
end
end SK
namespace L2
open PySem PySem.Spec PyProof.Rows
theorem OL:∀{xs:List V}{us:List Value},xs.length=us.length->(∀(i:Nat) x u,xs[i]? = some x->us[i]? = some u->RelV x u)->Vals xs us
 | [],[],_,_=>.nil
 | [],_::_,h,_=>by(simp at h)
 | _::_,[],h,_=>by(simp at h)
 | x::xs,u::us,h,r=>.cons (r 0 x u rfl rfl) (OL (by simpa using h) λi y v hy hv=>r (i+1) y v (by simpa using hy) (by simpa using hv))
theorem KV.get:∀{kvs:List (Af×V)}{vs:List (Af×Value)}{i:Nat}{k:Af}{u:Value},KV kvs vs->vs[i]? = some (k,u)->∃v,kvs[i]? = some (k,v)/\RelV v u
 | _,_,_,_,_,.nil,e=>by simp at e
 | _,_,0,_,_,.cons (a:=p) r _,e=>by simp at e;subst e;obtain⟨e1,e2⟩:=r;obtain⟨p1,p2⟩:=p;cases e1;exact⟨p2,rfl,e2⟩
 | _,_,i+1,_,_,.cons _ t,e=>by obtain⟨v,h1,h2⟩:=KV.get (i:=i) t (by simpa using e);exact⟨v,by simpa using h1,h2⟩
section
variable {X:Cx}
def nI (hc:X.calm=true):Cp X (.type "list") (λxs H Q=>∃p kvs,xs=[.ref p]/\Rd H p (.dK kvs)/\∀l,H l=none->Q (.ref l) (Ab H l (.lst (kvs.map λkv=>kV kv.1)))):=by
 intro aa s σ H xs us Q I r h;obtain⟨p,kvs,rfl,hp,q⟩:=h;obtain⟨u,rfl,ru⟩:=CB r;cases ru;obtain⟨hz,hm,vs,hkv,hd⟩:=E7 I.hok hp;obtain⟨ep,hat⟩:=hd.dictAt;have hl:=hkv.length;refine PySem.W.kdl_call (PySem.W.kdl_dict (knd:=Bv X.prog X.w) (kvs:=vs) (ep:=ep) hm) (I.ok.hd hc) hat (by lia) λh' tk acc c hk hS hacc=>?_;refine⟨.ref _,_,I.laid (a:=s.heap.objs.size) (o:=.lst (kvs.map λkv=>kV kv.1)) hk (Au _) ⟨by rw[Ak];exact hz,acc.toList,c,OL ?_ λi x u hx hu=>?_,hS⟩,rfl,q _ (I.hok.fresh (Au _))⟩
 ·have el:acc.toList.length=acc.size:=by simp
  rw[Ak,el,hacc.1,hl]
 obtain⟨k,z,e1,e2⟩:=hacc.2 i u (by simpa using hu);obtain⟨v,e3,_⟩:=KV.get hkv e1;rw[AI,e3]at hx;have hx':x=kV k:=(Bs hx).symm;subst hx';rcases Dy (show Ej k u=true from e2)with⟨j,t,rfl,rfl⟩ | ⟨y,t,rfl,rfl⟩
 ·exact⟨t,rfl⟩
 exact⟨t,rfl⟩
def Q8 (hc:X.calm=true):Cp X (.builtin "all") (λxs H Q=>∃(p:Addr) (bs:List Bool),xs=[.ref p]/\SqL X.K H p (bs.map V.bl)/\Q (.bl (bs.all λb=>b)) H):=by
 intro aa s σ H xs us Q I r h;obtain⟨p,bs,rfl,hp,q⟩:=h;obtain⟨u,rfl,ru⟩:=CB r;cases ru;obtain⟨its,rv,pl,hz⟩:=I.list hp;have hlen:=rv.length;rw[Ak]at hlen;have hlt:p<s.heap.objs.size:=by obtain⟨o,n,e,_⟩:=pl;exact A1 e
 refine call_all_walk (LK pl.isList ⟨s.heap.objs.size,_,_,_,_,_,λi=>bs.getD i true,rfl,Walks.list (show X.A.in1.handled=none from I.ok.hd hc) _ p (Be hlt) its.toArray,⟨⟨_,Bg _ rfl,rfl,rfl⟩,pl.isList.push _⟩,λi v s2 Q2 E2 hP hQ=>?_,λh' tk hk=>?_⟩)
 ·have hi:its[i]? = some v:=by simpa using hP
  have hib:i<bs.length:=by have:=(AG.mp hi).1;lia
  obtain⟨u',hu',ru⟩:=rv.get (i:=i) (x:=.bl bs[i]) (by simp[hib]);rw[hi]at hu';cases hu';cases ru;refine F6 ?_;have e:bs.getD i true=bs[i]:=by simp[List.getD,hib]
  rw[<- e];exact hQ
 refine⟨.bl _,H,I.kept (t':=tk) (λb o e=>hk b o ?_ (AU _ e)),rfl,?_⟩
 ·intro z;rw[AX]at z;exact absurd (A1 e) (by rw[z];exact Es _)
 have e:(List.range its.toArray.size).all (λi=>bs.getD i true)=bs.all λb=>b:=by
  rw[BB,<- hlen];(rw[JP,Fd,Fd]);constructor
  ·intro a b hb;(obtain⟨i,hi,rfl⟩:=List.getElem_of_mem hb);have:=a i (DJ.mpr hi);simpa [List.getD,hi] using this
  intro a i hi;(have hi':=DJ.mp hi);have:=a bs[i] (BY hi');simpa [List.getD,hi'] using this
 rw[e];exact q
def Hk (P:Program)(w:World)(a:Addr)(n:Nat):HO:=.ext λh=>∃S,h.SetOf (Bv P w) a S n
def BV (ks:List Af)(i:Nat):Af:=ks.getD i (.inl 0)
def NS (hc:X.calm=true):Cp X (.type "set") (λxs H Q=>∃p ks,xs=[.ref p]/\SqL X.K H p (ks.map kV)/\ks.length<=1000/\∀a,H a=none->Q (.ref a) (Ab H a (Hk X.prog X.w a (SK.dd (BV ks) ks.length).length))):=by
 intro aa s σ H xs us Q I r h;obtain⟨p,ks,rfl,hp,hk,q⟩:=h;obtain⟨u,rfl,ru⟩:=CB r;cases ru;obtain⟨its,rv,pl,hz⟩:=I.list hp;have hlen:=rv.length;rw[Ak]at hlen;refine SK.make (knd:=Bv X.prog X.w) (val:=BV ks) (I.ok.hd hc) pl.isList (λi v hv=>?_) (by rw[BB];unfold scanBound;lia) λh' tk hS kp=>?_
 ·have hi:its[i]? = some v:=by simpa using hv
  have hib:i<ks.length:=by have:=(AG.mp hi).1;lia
  obtain⟨u',hu',ru⟩:=rv.get (i:=i) (x:=kV ks[i]) (by simp[hib]);rw[hi]at hu';cases hu';have e:BV ks i=ks[i]:=by simp[BV,List.getD,hib]
  rw[e];refine⟨Ek ru,?_⟩;cases hkk:ks[i]with
  | inl j=>rw[hkk]at ru;obtain⟨t,rfl⟩:=ru;rfl
  | inr y=>rw[hkk]at ru;obtain⟨t,rfl⟩:=ru;rfl
 have es:its.toArray.size=ks.length:=by simp[hlen]
 rw[es]at hS;refine⟨.ref _,_,I.laid (a:=s.heap.objs.size) (o:=Hk X.prog X.w s.heap.objs.size (SK.dd (BV ks) ks.length).length) kp (Au _) ⟨⟨_,hS⟩,?_,λh1 h2 f1 e=>?_⟩,rfl,q _ (I.hok.fresh (Au _))⟩
 ·obtain⟨o,_,_,_,e,_⟩:=hS;exact⟨o,e⟩
 obtain⟨S,z⟩:=f1;exact⟨S,SK.kept z e⟩
def NT:Cp X (.builtin "len") (λxs H Q=>∃a n,xs=[.ref a]/\H a=some (Hk X.prog X.w a n)/\Q (.int n) H):=by intro aa s σ H xs us Q I r h;obtain⟨a,n,rfl,ha,q⟩:=h;obtain⟨u,rfl,ru⟩:=CB r;cases ru;obtain⟨⟨S,o,es,ep,t,ho,ex,hd,_,_,hb,hf,hn⟩,_,_⟩:=I.hok a _ ha;refine call_len_set ho ex hd hf (by unfold scanBound at hb;lia) ⟨.int n,H,I.tok _,⟨_,by rw[hn]⟩,q⟩
end
def Wb (x:Str):It:=⟨λi _=>i<x.cps.size,λi H v H'=>H'=H/\∃c,x.cps[i]? = some c/\v=.str ⟨#[c]⟩,λi _=>x.cps.size<=i⟩
theorem Wt {P:Program}{w:World}{K:W.Frag}{tg:Expr}(it:Addr)(x:Str)(t:Tok):FG P w K tg (Wb x) [it] it (λi h=>h.IsStrIter it "str_ascii_iterator" x t i) where
 mem:=by simp
 obj:=λi h st b hb=>by
  have e:b=it:=by simpa using hb
  subst e;obtain⟨o,e,c,d⟩:=st;exact⟨o,e,λv z=>by rw[d]at z;cases z⟩
 keep:=λi h h' st k=>by obtain⟨o,e,r⟩:=st;exact⟨o,k it (by simp) o e,r⟩
 item:=by intro X hP hw hK hc i aa s σ H E I hf st hg;subst hP hw hK;obtain⟨f0,f1,f2,f3,f4,f5⟩:=hf it (by simp);have hi:i<x.cps.size:=hg;refine wpAny_pyNext_ascii_item st (c:=x.cps[i]) (by simp[hi]) λh' st' sb=>?_;have I1:Inv X aa σ H { s with heap:=h',toks:=s.toks+1 }:=I.turned (λb o hb e=>(sb.2 b hb).trans e) f0 f1 f3 f4 f5;obtain⟨o,e,c,d⟩:=id st';exact⟨_,rfl,Jy (s:={ s with heap:=h',toks:=s.toks+1 }) e c d (by decide) ⟨.str ⟨#[x.cps[i]]⟩,H,I1,⟨_,rfl⟩,⟨rfl,_,by simp[hi],rfl⟩,st',λb hb=>(hf b hb).1⟩⟩
 done:=by intro X hP hw hK hc i aa s σ H E I hf st hg;subst hP hw hK;obtain⟨f0,f1,f2,f3,f4,f5⟩:=hf it (by simp);have hi:x.cps.size<=i:=hg;exact wpAny_pyNext_ascii_end (I.ok.hd hc) st (by simp[hi]) λh' eb=>⟨rfl,I.turned (t':=s.toks) (λb o hb e=>eb b o hb e) f0 f1 f3 f4 f5⟩
 self:=λ_ _ _ _ _ st h=>wpAny_pyIter_striter_ascii st h
def jP (tl:TE):TI:=λσ H R=>tl σ H λv H1=>∃x,v=.str x/\x.cps.all (· < 128)=true/\R (Wb x) H1
def Zc (hl:PE X l tl):PI X tg l (jP tl):=by
 intro aa s σ H R I h;refine Aw (hl aa s σ H _ I h) λv s1 hp0=>?_;obtain⟨y,H1,I1,r1,q1⟩:=hp0;obtain⟨x,e,ha,q⟩:=q1;subst e;obtain⟨t,rfl⟩:=r1;refine wpAny_pyIter_ascii ha ⟨s1.heap.objs.size,[s1.heap.objs.size],_,_,H1,rfl,I1.kept (t':=s1.toks) λb o e=>AU _ e,Wt _ x t,⟨_,Bg _ rfl,rfl,rfl⟩,λb hb=>?_,q⟩;have e:b=s1.heap.objs.size:=by simpa using hb
 subst e;exact I1.fpOk (Au _) (I1.hok.fresh (Au _))
end L2
namespace ZN
open PySem PyProof.Rows
end ZN
namespace L2
open PySem PySem.Spec PyProof.Rows
theorem KV.get2:∀{kvs:List (Af×V)}{vs:List (Af×Value)}{i:Nat}{k:Af}{v:V},KV kvs vs->kvs[i]? = some (k,v)->∃u,vs[i]? = some (k,u)/\RelV v u
 | _,_,_,_,_,.nil,e=>by simp at e
 | _,_,0,_,_,.cons (b:=p) r _,e=>by simp at e;subst e;obtain⟨e1,e2⟩:=r;obtain⟨p1,p2⟩:=p;cases e1;exact⟨p2,rfl,e2⟩
 | _,_,i+1,_,_,.cons _ t,e=>by obtain⟨v,h1,h2⟩:=KV.get2 (i:=i) t (by simpa using e);exact⟨v,by simpa using h1,h2⟩
def Iu (v a:Addr):HO:=.ext λh=>h.IsValuesView v a
section
variable {X:Cx}
def gH:He X "dict.values" (λx xs H Q=>∃a kvs,x=.ref a/\xs=[]/\H a=some (.dK kvs)/\∀v,H v=none->Q (.ref v) (Ab H v (Iu v a))):=by intro aa s σ H x xs v us Q I rx rv h;obtain⟨a,kvs,rfl,rfl,ha,q⟩:=h;cases rx;cases rv;obtain⟨hz,hm,vs,hkv,hd⟩:=F3 I.hok ha;refine Ge PySem.F.slot_dict_values hd.typeIs PySem.F.entry_dict_values (PySem.F.args_dict_values_1 _) (meets_dict_values (Bv X.prog X.w) a hm) ⟨⟨vs,hd⟩,?_⟩;refine⟨.ref s.heap.objs.size,_,I.laid (t':=s.toks) (o:=Iu s.heap.objs.size a) (λb o e=>AU _ e) (Au _) ⟨⟨_,Bg _ rfl,rfl,rfl⟩,⟨_,Bg _ rfl⟩,λh1 h2 f e=>?_⟩,rfl,q _ (I.hok.fresh (Au _))⟩;obtain⟨o,ho,r⟩:=f;exact⟨o,e o ho,r⟩
def Inv.freeze (I:Inv X aa σ H s)(ha:H a=some (.dK kvs))(ho:s.heap.get? a=some o):Inv X aa σ (Ab H a (.frz o (.dK kvs))) s:=by
 have hne:∀b,H b=none->b≠a:=λb e z=>by rw[z,ha]at e;cases e
 have keep:∀b u,H b=some u->u≠.dK kvs->Ab H a (.frz o (.dK kvs)) b=some u:=λb u e d=>by rw[Ai (A7 e ha d)];exact e
 have st:Inv X aa σ (Ab H a (.frz o (.dK kvs))) { s with heap:=s.heap,gens:=s.gens,drawn:=s.drawn,toks:=s.toks }:=by
  refine I.step (g':=s.gens) (t':=s.toks) (d':=s.drawn) (ch:=[]) (λb hb=>nomatch hb) (λb o _ _ _ e _=>e) (λb o _ _ _ e _=>⟨o.slots,e⟩) (λb o _ e n=>by rw[Ai (hne b n)];exact n) (λb o _ e=>⟨o,e⟩)
   (λb xs e=>keep b _ e (by intro z;cases z)) (λb o u e=>keep b _ e (by intro z;cases z)) (λb ps e=>⟨#[],by rw[keep b _ e (by intro z;cases z)];simp⟩) (λm hm=>hm) (λb u e=>?_) I.bare
  by_cases hb:b=a
  ·subst hb;rw[Ag]at e;cases e;exact⟨ho,I.hok _ _ ha⟩
  rw[Ai hb]at e;exact(I.hok b u e).stay (λc v _ q=>q) (λc q=>keep c _ q (by intro z;cases z)) λc xs q=>keep c _ q (by intro z;cases z)
 exact st
end
def L4 (a:Addr)(o:Obj)(kvs:List (Af×V)):It:=
 ⟨λi H=>i<kvs.length/\H a=some (.frz o (.dK kvs)),λi H x H'=>H'=H/\∃k,kvs[i]? = some (k,x),λi H=>kvs.length<=i/\H a=some (.frz o (.dK kvs))⟩
def NO (I:Inv X aa σ H s)(ha:H a=some (.frz o (.dK kvs)))(hd:o.data=.dict es ep) :
  ∃vs,KV kvs vs/\s.heap.DictAt (Bv X.prog X.w) a vs ep:=by
 obtain⟨ho,hz,hm,vs,hkv,o',es',ep',ho',ex,hd',r⟩:=I.hok a _ ha
 rw[ho]at ho'
 cases ho'
 rw[hd]at hd'
 cases hd'
 exact⟨vs,hkv,o,es,ho,ex,hd,r⟩
theorem Wq {P:Program}{w:World}{K:W.Frag}{tg:Expr}(it a:Addr)(o:Obj)(kvs:List (Af×V))(es:Array DictEntry)(ep:Nat)(hd:o.data=.dict es ep) :
  FG P w K tg (L4 a o kvs) [it] it (λi h=>h.IsValIter it a i kvs.length ep) where
 mem:=by simp
 obj:=λi h st b hb=>by
  have e:b=it:=by simpa using hb
  subst e;obtain⟨o,e,c,d⟩:=st;exact⟨o,e,λv z=>by rw[d]at z;cases z⟩
 keep:=λi h h' st k=>by obtain⟨o,e,r⟩:=st;exact⟨o,k it (by simp) o e,r⟩
 item:=by intro X hP hw hK hc i aa s σ H E I hf st hg;subst hP hw hK;obtain⟨f0,f1,f2,f3,f4,f5⟩:=hf it (by simp);obtain⟨hi,ha⟩:=hg;obtain⟨vs,hkv,hat⟩:=NO I ha hd;have hl:=hkv.length;have hx:kvs[i]? = some (kvs[i].1,kvs[i].2):=AH hi;obtain⟨u,hu,ru⟩:=KV.get2 hkv hx;rw[hl]at st;refine wpAny_pyNext_values_item (knd:=Bv X.prog X.w) st hat hu λh' st' sb=>?_;have I1:Inv X aa σ H { s with heap:=h' }:=I.turned (t':=s.toks) (λb o hb e=>(sb.2 b hb).trans e) f0 f1 f3 f4 f5;obtain⟨o',e,c,d⟩:=id st';rw[<- hl]at st';exact⟨u,rfl,Jy (s:={ s with heap:=h' }) e c d (by decide) ⟨kvs[i].2,H,I1,ru,⟨rfl,_,hx⟩,st',λb hb=>(hf b hb).1⟩⟩
 done:=by intro X hP hw hK hc i aa s σ H E I hf st hg;subst hP hw hK;obtain⟨f0,f1,f2,f3,f4,f5⟩:=hf it (by simp);obtain⟨hi,ha⟩:=hg;obtain⟨vs,hkv,hat⟩:=NO I ha hd;have hl:=hkv.length;rw[hl]at st;exact wpAny_pyNext_values_end (knd:=Bv X.prog X.w) (I.ok.hd hc) st hat (Ru (by lia)) λh' eb=>⟨rfl,I.turned (t':=s.toks) (λb o hb e=>eb b o hb e) f0 f1 f3 f4 f5⟩
 self:=λ_ _ _ _ _ st h=>wpAny_pyIter_valiter st h
def jN (tl:TE):TI:=λσ H R=>tl σ H λx H1=>∃v a kvs,x=.ref v/\H1 v=some (Iu v a)/\H1 a=some (.dK kvs)/\∀o,R (L4 a o kvs) (Ab H1 a (.frz o (.dK kvs)))
def Za (hl:PE X l tl):PI X tg l (jN tl):=by
 intro aa s σ H R I h;refine Aw (hl aa s σ H _ I h) λu s1 hp0=>?_;obtain⟨x,H1,I1,r1,q1⟩:=hp0;obtain⟨v,a,kvs,rfl,hv,ha,q⟩:=q1;cases r1;obtain⟨hz,hm,vs,hkv,o,es,ep,ho,ex,hd,r⟩:=F3 I1.hok ha;have hat:s1.heap.DictAt (Bv X.prog X.w) a vs ep:=⟨o,es,ho,ex,hd,r⟩;obtain⟨view,_,_⟩:=I1.hok v _ hv;have hl':=hkv.length;refine wpAny_pyIter_values (knd:=Bv X.prog X.w) view hat ⟨s1.heap.objs.size,[s1.heap.objs.size],_,_,Ab H1 a (.frz o (.dK kvs)),rfl,(I1.freeze ha ho).kept (t':=s1.toks) (λb o e=>AU _ e),Wq _ a o kvs es ep hd,⟨_,Bg _ rfl,rfl,by rw[hl'] <;> rfl⟩,λb hb=>?_,q o⟩;have e:b=s1.heap.objs.size:=by simpa using hb
 subst e;exact(I1.freeze ha ho).fpOk (Au _) ((I1.freeze ha ho).hok.fresh (Au _))
def JZ (K:W.Frag)(v:V)(d:PyData):Prop:=∀(h:Heap) (u:Value),K.In h->RelV v u->∃as,Reads h u d as
def DA:List Value->Option (List V)
 | []=>some []
 | u::r=>match Dz u,DA r with
  | some v,some vs=>some (v::vs)
  | _,_=>none
def Fh (h:Dz u=some v):RelV v u:=by
 cases u with
 | none=>cases h;rfl
 | bool b=>cases h;rfl
 | int i t=>cases h;exact⟨t,rfl⟩
 | str x t=>cases h;exact⟨t,rfl⟩
 | bytes b t=>cases h;exact⟨t,rfl⟩
 | float b t=>cases h;exact⟨t,rfl⟩
 | ref a=>cases h;rfl
 | type n=>cases h;rfl
 | _=>cases h
theorem Eu:∀{us:List Value}{vs:List V},DA us=some vs->Vals vs us
 | [],_,h=>by cases h;exact .nil
 | u::r,vs,h=>by
  unfold DA at h;cases e1:Dz u with
  | none=>rw[e1]at h;cases h
  | some v=>
   cases e2:DA r with
   | none=>rw[e1,e2]at h;cases h
   | some ws=>rw[e1,e2]at h;cases h;exact .cons (Fh e1) (Eu e2)
def UZ:V->Option PyData
 | .non=>some .none
 | .int i=>some (.int i)
 | .str x=>some (.str x)
 | _=>none
def YD (e:UZ v=some d)(r:RelV v u):∃as,Reads h u d as:=by
 cases v with
 | non=>cases e;cases r;exact⟨_,.none⟩
 | int i=>cases e;obtain⟨t,rfl⟩:=r;exact⟨_,.int i t⟩
 | str x=>cases e;obtain⟨t,rfl⟩:=r;exact⟨_,.str x t⟩
 | _=>cases e
theorem Tn :∀{vs:List V}{ds:List PyData}{us:List Value},Vals vs us->Paired (λv d=>∀u,RelV v u->∃as,Reads h u d as) vs ds->∃as,ReadsAll h us ds as
 | _,_,_,.nil,.nil=>⟨_,.nil⟩
 | _,_,_,.cons r1 r2,.cons p1 p2=>by obtain⟨as,a⟩:=p1 _ r1;obtain⟨bs,b⟩:=Tn r2 p2;exact⟨_,.cons a b⟩
def Ku {K:W.Frag}{a:Addr}{od:Option Addr}{its:Array Value}{n:Nat}{sl:Array (Option Value)}{vs:List V}{ds:List PyData}(l:K.lookup a=some ⟨.type "tuple",od,.seq its n,sl⟩)(ab:DA its.toList=some vs)(r:Paired (JZ K) vs ds):JZ K (.ref a) (.tuple ds):=by
 intro h u kin ru;cases ru
 have go:∀{vs:List V}{ds:List PyData},Paired (JZ K) vs ds->Paired (λv d=>∀u,RelV v u->∃as,Reads h u d as) vs ds:=by
  intro vs ds p;induction p with
  | nil=>exact .nil
  | cons a _ ih=>exact .cons (λu ru=>a h u kin ru) ih
 obtain⟨as,q⟩:=Tn (h:=h) (Eu ab) (go r);exact⟨as,.tuple (kin a _ l) rfl rfl q⟩
def Gr {K:W.Frag}{v:V}{d:PyData}(e:UZ v=some d):JZ K v d:=λ_ _ _ r=>YD e r
section
variable {X:Cx}
def YJ (K:W.Frag):R2:=λx y H Q=>∃d ds,RdV H x d/\JZ K y (.tuple ds)/\PySem.SeqAt.shaped d=true/\PySem.SeqAt.shaped (PyData.tuple ds)=true/\Q (.bl (!ds.any λe=>PyData.eqv e d)) H
def Zp (hu:X.A.units+65<cLine):Bt X (compareOp .NotIn) (YJ X.K):=by intro aa s σ H x y v u Q I rx ry h;obtain⟨d,ds,r1,r2,h1,h2,q⟩:=h;obtain⟨as,a⟩:=r1.reads I.hok rx;obtain⟨bs,b⟩:=r2 s.heap u I.kIn ry;exact PySem.SeqAt.notIn_tuple_reads b a (GM h2) (GM h1) (room_in_shaped h1 hu) ⟨.bl _,H,I,rfl,q⟩
end
def DV:bootBuiltins "list" = some (.type "list"):=by decide +kernel
def Lm:bootBuiltins "set" = some (.type "set"):=by decide +kernel
def Rb:bootBuiltins "all" = some (.builtin "all"):=by decide +kernel
end L2
namespace ZN
open PySem PyProof.Rows
end ZN
namespace L2
open PySem PySem.Spec PyProof.Rows
end L2
namespace ZN
open PySem PyProof.Rows
end ZN
namespace L2
open PySem PySem.Spec PyProof.Rows
section
variable {X:Cx}
def Tq {P:Program}{w:World}{H:Hp}{h:Heap}(ok:HOk P w H h){a:Addr}{xs:List Str}(e:H a=some (.lst (xs.map V.str))):∃as,Reads h (.ref a) (.list (xs.map PyData.str)) as:=by obtain⟨z,its,n,r,ho⟩:=ok a _ e;obtain⟨as,ra⟩:=RdVs.reads ok (RdVs.strs (H:=H) xs) r;exact⟨_,.list ho rfl rfl (by simpa using ra)⟩
def NW:Cp X (.builtin "isinstance") (λxs H Q=>∃a ys,xs=[.ref a,.ty "tuple"]/\H a=some (.tup ys)/\Q (.bl true) H):=by intro aa s σ H xs us Q I r h;obtain⟨a,ys,rfl,ha,q⟩:=h;obtain⟨u1,u2,rfl,r1,r2⟩:=L9 r;cases r1;cases r2;obtain⟨z2,its2,r2,o,ho,hc,n2,hd⟩:=I.hok a _ ha;exact PySem.IsiPair.tuple_tuple ho hc ⟨.bl true,H,I,rfl,q⟩
def Q9:bootBuiltins "sorted" = some (.builtin "sorted"):=by decide +kernel
end
def NQ {k:Nat}(h:k<=xs.length):Bh xs (some ((k:Nat):Int)) none=xs.drop k:=by unfold Bh;rw[HT.sIx_none,HT.sIx_nat,LB h];refine FB ?_;rw[DC];exact Au _
end L2
namespace L2
open PySem PySem.Spec PyProof.Rows PySem.W
section
variable {X:Cx}
def nK:Cp X (.builtin "isinstance") (λxs H Q=>∃a ys,xs=[.ref a,.ty "list"]/\H a=some (.lst ys)/\Q (.bl true) H):=by intro aa s σ H xs us Q I r h;obtain⟨a,ys,rfl,ha,q⟩:=h;obtain⟨u1,u2,rfl,r1,r2⟩:=L9 r;cases r1;cases r2;obtain⟨z2,its2,n2,r2,ho⟩:=I.hok a _ ha;exact PySem.IsiPair.list_list ho rfl ⟨.bl true,H,I,rfl,q⟩
end
end L2
namespace L2
open PySem PySem.Spec PyProof.Rows
section
variable {X:Cx}
def K7:He X "list.index" (λx xs H Q=>∃(l:Addr) (ys:List Str) (y:Str) (j:Nat),x=.ref l/\xs=[.str y]/\H l=some (.lst (ys.map V.str))/\ys[j]? = some y/\(∀m,m<j->ys[m]?≠some y)/\Q (.int (j:Int)) H):=by
 intro aa s σ H x xs v us Q I rx rv h;obtain⟨l,ys,y,j,rfl,rfl,hH,hj,hno,q⟩:=h;cases rx;obtain⟨u,rfl,ru⟩:=rv.one;obtain⟨z,its,n,r,hl,e⟩:=I.lstM hH;rw[Ak]at hl z;have hs:sizeLine=16777216:=AK
 have key:∀(m:Nat) (y':Str) (hm:m<its.toArray.size),ys[m]? = some y'->Da (.str y) its.toArray[m]=(y' == y):=λm y' hm e1=>by
  obtain⟨u',e2,r2⟩:=r.get (i:=m) (x:=.str y') (by rw[AI,e1];rfl);have e3:its.toArray[m]=u':=by obtain⟨_,h⟩:=AG.mp e2;simpa using h
  rw[e3,QU r2 rfl];rfl
 have hjl:j<ys.length:=(AG.mp hj).1;refine GU JD ⟨_,e,rfl⟩ PySem.F.entry_list_index (PySem.F.args_list_index_2 _ _) (PySem.SeqAt.list_indexAt l its.toArray n none #[] u (Da (.str y)) j (by rw[BB];lia) (by lia) ?_ ?_) ⟨e,λw hw=>Jt ru rfl r (Rk.flat_strs ys) w (by simpa using hw),?_⟩
 ·rw[key j y _ hj];exact LG y
 ·intro m hm hlt;have hm':m<ys.length:=by lia
  rw[key m ys[m] hm (AH hm')];have hne:=hno m hlt;rw[AH hm']at hne;exact GH.mpr λz=>hne (by rw[z])
 exact⟨.int (j:Int),H,I.tok _,⟨_,rfl⟩,q⟩
def VP {α:Type}{xs:List α}{v:α}(h:xs.getLast? = some v):atI xs (-1)=some v:=by obtain⟨ys,rfl⟩:=VY.mp h;exact Re ys v
def CJ {A B:Prop}{x y:Str}(h:x=y)(a:A):if decide (V.str x=V.str y)=true then A else B:=by rw[AR (by rw[h])];exact a
def CK {A B:Prop}{x y:Str}(h:¬x=y)(b:B):if decide (V.str x=V.str y)=true then A else B:=by rw[BC (λz=>h (V.str.inj z))];exact b
def NK {A B:Prop}{x y:Str}(h:x=y)(b:B):if (!decide (V.str x=V.str y))=true then A else B:=by rw[AR (by rw[h])];exact b
def NL {A B:Prop}{x y:Str}(h:¬x=y)(a:A):if (!decide (V.str x=V.str y))=true then A else B:=by rw[BC (λz=>h (V.str.inj z))];exact a
def mE (x y:Str):decide (V.str x=V.str y)=decide (x=y):=by
 by_cases h:x=y
 ·rw[AR h,AR (by rw[h])]
 rw[BC h,BC (λz=>h (V.str.inj z))]
end
section
variable {X:Cx}
def Zv (K:W.Frag)(h:X.K=K):Bt X (compareOp .In) (Kw K false):=by subst h;exact K4
def Nz {Q:Hp->Prop}{H:Hp}{l:Addr}(ys:List Str)(xs:List V)(hx:xs=ys.map V.str)(hl:H l=none)(h:∀H',Same H H'->H' l=some (.lst (ys.map V.str))->Q H'):Q (Ab H l (.lst xs)):=by subst hx;exact h _ (Same.new hl) Ag
end
def KD (P:Program)(w:World)(K:W.Frag)(a:Addr)(kvs:List (Af×V)):Prop:=
 (a == sysModules)=false/\∀h:Heap,K.In h->∃vs,KV kvs vs/\h.DictOf (Bv P w) a vs
section
variable {X:Cx}{aa:List (Addr×Obj)}{σ:St}{H:Hp}{s:Shared}{a:Addr}{kvs:List (Af×V)}{k:Af}{u:Value}{A:Around}{E:Value->Shared->Prop}
def jA (I:Inv X aa σ H s)(g:KD X.prog X.w X.K a kvs)(l:Ay kvs k=some v)(ry:RelV (kV k) u)(h:∀w' s',Inv X aa σ H s'->RelV v w'->Q w' s') :
  wpAny (model X.prog X.w) A (getItem (.ref a) u) Q E s:=by
 obtain⟨vs,rel,dd⟩:=g.2 _ I.kIn
 obtain⟨w',hw,rw'⟩:=RelO.some_of (v:=v) (o:=valueAt vs k) (by rw[<- l];exact rel.val k)
 exact wpAny_getItem_of (Ek ry) dd.mapOf hw (h w' _ (I.tok _) rw')
def iZ (I:Inv X aa σ H s)(g:KD X.prog X.w X.K a kvs)(ry:RelV (kV k) u)(h:∀s',Inv X aa σ H s'->Q (.bool (Ay kvs k).isSome) s') :
  wpAny (model X.prog X.w) A (compareOp .In u (.ref a)) Q E s:=by
 obtain⟨vs,rel,dd⟩:=g.2 _ I.kIn
 refine wpAny_in_of (Ek ry) g.1 dd.mapOf ?_
 rw[<- (rel.val k).isSome_eq]
 exact h _ (I.tok _)
def jB (I:Inv X aa σ H s)(g:KD X.prog X.w X.K a kvs)(ry:RelV (kV k) u)(h:∀w' s',Inv X aa σ H s'->RelV ((Ay kvs k).getD .non) w'->Q w' s') :
  wpAny (model X.prog X.w) A (call (.builtin "dict.get") [.ref a,u]) Q E s:=by
 obtain⟨vs,rel,dd⟩:=g.2 _ I.kIn
 refine Ge GJ dd.typeIs LR (RP _ _) (meets_dict_get (Bv X.prog X.w) a (Ek ry) g.1) ⟨_,dd.mapOf,h _ _ (I.tok _) ?_⟩
 exact(rel.val k).getD rfl
end
def WW (P:Program)(w:World)(K:W.Frag)(td ty:TE):TE:=λσ H Q=>td σ H λx H1=>ty σ H1 λy H2=>∃a kvs k v,x=.ref a/\KD P w K a kvs/\y=kV k/\Ay kvs k=some v/\Q v H2
def WU (P:Program)(w:World)(K:W.Frag)(ty td:TE):TE:=λσ H Q=>ty σ H λy H1=>td σ H1 λx H2=>∃a kvs k,x=.ref a/\KD P w K a kvs/\y=kV k/\Q (.bl (Ay kvs k).isSome) H2
def WV (P:Program)(w:World)(K:W.Frag)(td ty:TE):TE:=λσ H Q=>td σ H λx H1=>∃a kvs,x=.ref a/\KD P w K a kvs/\ty σ H1 λy H2=>∃k,y=kV k/\Q ((Ay kvs k).getD .non) H2
section
variable {X:Cx}{o i e:Expr}{pos apos cpos:Pos}{td ty:TE}
def TU (ho:PE X o td)(hi:PE X i ty)(hs:R8 i):PE X (.Subscript o i pos) (WW X.prog X.w X.K td ty):=by intro aa s σ H Q I h;refine SS VZ.lookup hs (Aw (ho aa s σ H _ I h) λu s1 hp0=>?_);obtain⟨x,H1,I1,rx,q1⟩:=hp0;refine Aw (hi aa s1 σ H1 _ I1 q1) λiv s2 hp1=>?_;obtain⟨y,H2,I2,ry,a,kvs,k,v,ex,g,ey,l,q2⟩:=hp1;subst ex ey;obtain rfl:u=Value.ref a:=rx;obtain⟨vs,rel,dd⟩:=g.2 _ I2.kIn;exact⟨dd.typeIs,jA I2 g l ry λw' s3 I3 rw'=>⟨v,H2,I3,rw',q2⟩⟩
def Zm (hi:PE X i ty)(ho:PE X o td):PC X .In i o (WU X.prog X.w X.K ty td):=by intro aa s σ H Q I h;refine Aw (hi aa s σ H _ I h) λiv s1 hp0=>?_;obtain⟨y,H1,I1,ry,q1⟩:=hp0;refine Aw (ho aa s1 σ H1 _ I1 q1) λu s2 hp1=>?_;obtain⟨x,H2,I2,rx,a,kvs,k,ex,g,ey,q2⟩:=hp1;subst ex ey;obtain rfl:u=Value.ref a:=rx;exact iZ I2 g ry λs3 I3=>⟨.bl (Ay kvs k).isSome,H2,I3,rfl,q2⟩
def Zg (ho:PE X o td)(he:PE X e ty)(m:M1 X o "get" apos e cpos):PE X (.Call (.Attribute o "get" apos) [e] [] cpos) (WV X.prog X.w X.K td ty):=by
 intro aa s σ H Q I h;refine Rz m.base m.few m.line JE GJ RM (Aw (ho aa s σ H _ I h) λu s1 hp0=>?_);obtain⟨x,H1,I1,rx,a,kvs,ex,g,q1⟩:=hp0;subst ex;obtain rfl:u=Value.ref a:=rx;obtain⟨vs,rel,dd⟩:=g.2 _ I1.kIn;obtain⟨ob,es,ep,h1,h2,h3⟩:=dd;refine⟨⟨ob,h1,h2.1⟩,λb q=>?_,?_⟩
 ·cases q;exact⟨ob,h1,h2.2.1⟩
 rw[m.trees];refine JW rfl (Ou (JS (Aw (he aa s1 σ H1 _ I1 q1) λiv s2 hp0=>?_)));obtain⟨y,H2,I2,ry,k,ey,q2⟩:=hp0;refine LJ ?_;subst ey;exact jB I2 g ry λw' s3 I3 rw'=>⟨_,H2,I3,rw',q2⟩
end
def NH:Value->Option Af
 | .int i _=>some (.inl i)
 | .str x _=>some (.inr x)
 | _=>none
def Fx:List DictEntry->Option (List (Af×V))
 | []=>some []
 | e::r=>match NH e.key,Dz e.val,Fx r with
  | some k,some v,some kvs=>some ((k,v)::kvs)
  | _,_,_=>none
def UC {k:Af}(h:NH v=some k):Ej k v=true:=by
 cases v with
 | int i t=>cases h;exact UE i t
 | str x t=>cases h;exact UD x t
 | _=>cases h
def Vr (h:Fx (e::r)=some l):∃k v kvs,NH e.key=some k/\Dz e.val=some v/\Fx r=some kvs/\l=(k,v)::kvs:=by
 unfold Fx at h;cases e1:NH e.key with
 | none=>rw[e1]at h;cases h
 | some k=>
  cases e2:Dz e.val with
  | none=>rw[e1,e2]at h;cases h
  | some v=>
   cases e3:Fx r with
   | none=>rw[e1,e2,e3]at h;cases h
   | some kvs=>rw[e1,e2,e3]at h;cases h;exact⟨k,v,kvs,rfl,rfl,rfl,rfl⟩
theorem Vp :∀{es:List DictEntry}{kvs:List (Af×V)},Fx es=some kvs->∃vs,KV kvs vs/\Pairs (Bv P w) es vs/\vs.map (·.1)=kvs.map (·.1)
 | [],_,h=>by cases h;exact⟨[],.nil,.nil,rfl⟩
 | e::r,l,h=>by obtain⟨k,v,kvs,h1,h2,h3,rfl⟩:=Vr h;obtain⟨vs,a,b,c⟩:=Vp (P:=P) (w:=w) h3;exact⟨(k,e.val)::vs,.cons ⟨rfl,Fh h2⟩ a,.cons (UC h1) rfl b,by rw[A9,A9,c]⟩
theorem Vq :∀{es:List DictEntry}{kvs:List (Af×V)},Fx es=some kvs->es.map (·.hash)=kvs.map (λkv=>Lf w kv.1)->∀e∈es,∃k,(Bv P w).is k e.key=true/\e.hash=(Bv P w).hash k
 | [],_,_,_=>λe he=>nomatch he
 | e::r,l,h,hh=>λe' he=>by
  obtain⟨k,v,kvs,h1,h2,h3,rfl⟩:=Vr h;rw[A9,A9]at hh;obtain⟨hh1,hh2⟩:=List.cons.inj hh;rcases(AL.mp he)with z | z
  ·subst z;exact⟨k,UC h1,hh1⟩
  exact Vq h3 hh2 e' z
def UF {P:Program}{w:World}{K:W.Frag}{a:Addr}{es:Array DictEntry}{ep:Nat}{kvs:List (Af×V)}(l:K.lookup a=some ⟨.type "dict",none,.dict es ep,#[]⟩)(hs:(a == sysModules)=false)(c:Fx es.toList=some kvs)
  (hh:es.toList.map (·.hash)=kvs.map (λkv=>Lf w kv.1))(nd:(kvs.map (·.1)).Nodup):KD P w K a kvs:=by
 refine⟨hs,λh In=>?_⟩
 obtain⟨vs,h1,h2,h3⟩:=Vp (P:=P) (w:=w) c
 refine⟨vs,h1,_,es,ep,In _ _ l,⟨rfl,rfl,rfl⟩,rfl,λe he=>Vq c hh e (by simpa using he),h2,by rw[h3];exact nd⟩
end L2
namespace SK
end SK
namespace L2
open PySem
def PX {ps:List Str}(h:ps.Nodup):(SK.dd (BV (ps.map (Sum.inr:Str->Af))) (ps.map (Sum.inr:Str->Af)).length).length=ps.length:=by
 have hk:(ps.map (Sum.inr:Str->Af)).length=ps.length:=Ak ..;rw[SK.dd_full (n:=ps.length) (λi j hi hj e=>?_) _ (by lia),hk];have ei:BV (ps.map (Sum.inr:Str->Af)) i=Sum.inr ps[i]:=by simp[BV,List.getD,hi]
 have ej:BV (ps.map (Sum.inr:Str->Af)) j=Sum.inr ps[j]:=by simp[BV,List.getD,hj]
 rw[ei,ej]at e;exact(Gb h).mp (Cv e)
def EE (ha:H a=some (.tup xs))(hb:H b=some (.tup ys))(hz:xs.length+ys.length<=sizeLine)(h:∀(t:Addr) (H':Hp),Same H H'->H' t=some (.tup (xs++ys))->Q (.ref t) H'):Tv K (.ref a) (.ref b) H Q:=by
 refine⟨a,b,xs,ys,rfl,rfl,SqT.of ha,SqT.of hb,hz,λe=>?_,λ_ e=>?_,λ_ _ p hp=>?_⟩
 ·subst e;exact h b H (Same.refl _) hb
 ·subst e;exact h a H (Same.refl _) (by rw[Cm];exact ha)
 exact h p _ (Same.new hp) Ag
end L2
namespace HT
open PySem PySem.Spec PyProof.Rows
end HT
namespace L2
open PySem PySem.Spec PyProof.Rows
section
variable {X:Cx}
def Zy (hu:X.A.units+64<cLine):Bt X (compareOp .Eq) (λx y H Q=>∃(a b:Addr) (xs ys:List Str),x=.ref a/\y=.ref b/\H a=some (.lst (xs.map V.str))/\H b=some (.lst (ys.map V.str))/\PySem.SeqAt.shaped (.list (xs.map PyData.str))=true /\
  PySem.SeqAt.shaped (.list (ys.map PyData.str))=true/\Q (.bl (PyData.eqv (.list (xs.map PyData.str)) (.list (ys.map PyData.str)))) H):=by
 intro aa s σ H x y v u Q I rx ry h
 obtain⟨a,b,xs,ys,rfl,rfl,ha,hb,h1,h2,q⟩:=h
 cases rx
 cases ry
 obtain⟨as,ra⟩:=Tq I.hok ha
 obtain⟨bs,rb⟩:=Tq I.hok hb
 exact PySem.SeqAt.compareEq_shaped ra rb h1 h2 hu ⟨.bl _,H,I,rfl,q⟩
def Qc (ok:HOk P w H h) (e:H a=some (.lst us))(r:RdVs H us ds):∃as,Reads h (.ref a) (.list ds) as:=by obtain⟨z,its,n,rv,ho⟩:=ok a _ e;obtain⟨as,ra⟩:=RdVs.reads ok r rv;exact⟨_,.list ho rfl rfl (by simpa using ra)⟩
def YO (neg:Bool):R2:=λx y H Q=>∃(a:Addr) (us:List V) (d:PyData) (ds:List PyData),y=.ref a/\H a=some (.lst us)/\RdVs H us ds/\RdV H x d/\PySem.SeqAt.shaped d=true/\PySem.SeqAt.shaped (PyData.list ds)=true/\Q (.bl (neg ^^ (ds.any λe=>PyData.eqv e d))) H
def Zq (hu:X.A.units+65<cLine):Bt X (compareOp .NotIn) (YO true):=by intro aa s σ H x y v u Q I rx ry h;obtain⟨a,us,d,ds,rfl,ha,rs,rd,h1,h2,q⟩:=h;cases ry;obtain⟨as,ra⟩:=Qc I.hok ha rs;obtain⟨bs,rb⟩:=rd.reads I.hok rx;refine PySem.SeqAt.notIn_list_reads ra rb (GM h2) (GM h1) (room_in_shaped h1 hu) ⟨.bl _,H,I,rfl,?_⟩;simpa using q
end
end L2
namespace ZT
open PySem PyProof.Rows
end ZT
namespace F17
open PySem
end F17
namespace L2
open PySem PySem.Spec PyProof.Rows
section
variable {X:Cx}{aa:List (Addr×Obj)}{σ:St}{H:Hp}{s:Shared}
def Inv.trackF (I:Inv X aa σ H s)(hf:FpOk X aa H S)(new:ObjOk X.prog X.w (Ab H S ob) s.heap S ob):Inv X aa σ (Ab H S ob) s:=by
 refine I.step (H':=Ab H S ob) (h':=s.heap) (g':=s.gens) (t':=s.toks) (d':=s.drawn) (ch:=[S]) (λb hb=>?_) (λb o _ _ _ e _=>e) (λb o _ _ _ e _=>⟨o.slots,e⟩) (λb o hc _ n=>?_) (λb o _ e=>⟨o,e⟩)
  (λb xs e=>by rw[Ai (AF e hf.1)];exact e) (λb o xs e=>by rw[Ai (AF e hf.1)];exact e) (λb ps e=>⟨#[],by rw[Ai (AF e hf.1),e];simp⟩) (λm hm=>hm) (λb u e=>?_) I.bare
 ·rw[AX]at hb;subst hb;exact⟨hf.2.2.2.1,hf.2.1,hf.2.2.2.2.1,hf.2.2.2.2.2⟩
 ·rw[Ai (λz=>hc (AX.mpr z))];exact n
 by_cases hb:b=S
 ·subst hb;rw[Ag]at e;cases e;exact new
 rw[Ai hb]at e;exact(I.hok b u e).stay (λc v _ q=>q) (λc q=>by rw[Ai (AF q hf.1)];exact q) λc xs q=>by rw[Ai (AF q hf.1)];exact q
def PZ (h:H r=none):Same H (Ab H r o):=λb u e=>by rw[Ai (AF e h)];exact e
end
end L2
namespace SG
open PySem
def Rs (xs:Array Nat):Prop:=∀(i j:Nat) (a b:Nat),i<j->xs[i]? = some a->xs[j]? = some b->a<b
def XG (r:Rs xs)(v:Nat):∀(f lo hi:Nat),hi-lo<=f->lo<=hi->hi<=xs.size->(∀(i a:Nat),i<lo->xs[i]? = some a->a<v)->(∀(i a:Nat),hi<=i->xs[i]? = some a->v<=a) ->
  SetTable.below.go xs v f lo hi<=xs.size/\(∀(i a:Nat),i<SetTable.below.go xs v f lo hi->xs[i]? = some a->a<v)/\(∀(i a:Nat),SetTable.below.go xs v f lo hi<=i->xs[i]? = some a->v<=a):=by
 intro f
 induction f with
 | zero=>
  intro lo hi h1 h2 h3 l u;have e:lo=hi:=by lia
  subst e;exact⟨h3,l,u⟩
 | succ f ih=>
  intro lo hi h1 h2 h3 l u;unfold SetTable.below.go;split
  ·rename_i lt;have hm:(lo+hi) / 2<xs.size:=by lia
   have eg:xs.getD ((lo+hi) / 2) v=xs[(lo+hi) / 2]:=by simp[Array.getD,hm]
   have e2:xs[(lo+hi) / 2]? = some xs[(lo+hi) / 2]:=Ep hm;dsimp only;rw[eg];split
   ·rename_i c;refine ih _ _ (by lia) (by lia) h3 (λi a hi9 e=>?_) u;rcases lt_or_ge i ((lo+hi) / 2)with z | z
    ·exact Ib (r i _ a _ z e e2) c
    have z2:i=(lo+hi) / 2:=by lia
    subst z2;rw[e2]at e;cases e;exact c
   rename_i c;refine ih _ _ (by lia) (by lia) (by lia) l (λi a hi9 e=>?_);rcases lt_or_ge ((lo+hi) / 2) i with z | z
   ·exact Ic (lt_of_le_of_lt (le_of_not_lt c) (r _ i _ a z e2 e))
   have z2:i=(lo+hi) / 2:=by lia
   subst z2;rw[e2]at e;cases e;exact le_of_not_lt c
  rename_i c;have e:lo=hi:=by lia
  subst e;exact⟨h3,l,u⟩
def place (r:Rs xs)(v:Nat):SetTable.below xs v<=xs.size/\(∀(i a:Nat),i<SetTable.below xs v->xs[i]? = some a->a<v)/\(∀(i a:Nat),SetTable.below xs v<=i->xs[i]? = some a->v<=a):=
 XG r v xs.size 0 xs.size (by lia) (A5 _) (Au _) (λi a h=>by lia) (λi a h e=>by have:=(OB.mp e).1;lia)
def Y7 (r:Rs xs){k:Nat}(hk:k<=xs.size)(l:∀(i a:Nat),i<k->xs[i]? = some a->a<v)(u:∀(i a:Nat),k<=i->xs[i]? = some a->v<=a):SetTable.below xs v=k:=by
 obtain⟨h1,h2,h3⟩:=place r v;rcases Nat.lt_trichotomy (SetTable.below xs v) k with z | z | z
 ·have hb:SetTable.below xs v<xs.size:=by lia
  have e:=Ep hb;have a1:=l _ _ z e;have a2:=h3 _ _ (Au _) e;lia
 ·exact z
 have hb:k<xs.size:=by lia
 have e:=Ep hb;have a1:=h2 _ _ z e;have a2:=u _ _ (Au _) e;lia
def Lg {α:Type}(xs:Array α){p:Nat}(hp:p<=xs.size)(x:α)(i:Nat):(SetTable.insertAt xs p x)[i]? = if i<p then xs[i]? else if i=p then some x else xs[i-1]?:=by
 have h:(SetTable.insertAt xs p x).toList=xs.toList.take p++x::xs.toList.drop p:=by rw[SetTable.toList_insertAt]
 rw[<- FC,h,<- FC,<- FC];have hl:(xs.toList.take p).length=p:=by rw[Bu,DY];lia
 split
 ·rename_i c;rw[Dq (by lia),List.getElem?_take,As c]
 rename_i c;rw[ES (by lia),hl];split
 ·rename_i c2;subst c2;simp
 rename_i c2;obtain⟨d,rfl⟩:∃d,i=p+(d+1):=⟨i-p-1,by lia⟩;rw[show p+(d+1)-p=d+1 by lia,List.getElem?_cons_succ,List.getElem?_drop];congr 1
def Yq (r:Rs xs) (hn:¬xs[SetTable.below xs v]? = some v):Rs (SetTable.insertAt xs (SetTable.below xs v) v):=by
 obtain⟨h1,h2,h3⟩:=place r v
 have h4:∀(i a:Nat),SetTable.below xs v<=i->xs[i]? = some a->v<a:=by
  intro i a hi e;rcases lt_or_ge v a with z | z
  ·exact z
  have e2:=h3 i a hi e;have e3:a=v:=by lia
  subst e3;rcases Nat.eq_or_lt_of_le hi with q | q
  ·rw[q]at hn;exact absurd e hn
  have hb:SetTable.below xs a<xs.size:=by have:=(OB.mp e).1;lia
  have e4:=Ep hb;have e5:=r _ _ _ _ q e4 e;have e6:=h3 _ _ (Au _) e4;lia
 intro i j a b hij ea eb;rw[Lg _ h1]at ea eb;split at ea
 ·rename_i c1;split at eb
  ·exact r i j a b hij ea eb
  split at eb
  ·cases eb;exact h2 i a c1 ea
  exact r i (j-1) a b (by lia) ea eb
 split at ea
 ·cases ea;split at eb
  ·lia
  split at eb
  ·lia
  exact h4 (j-1) b (by lia) eb
 split at eb
 ·lia
 split at eb
 ·lia
 exact r (i-1) (j-1) a b (by lia) ea eb
def Td {l:List Nat}(h:l.Pairwise (· < ·)):Rs l.toArray:=by intro i j a b hij ea eb;rw[Rt]at ea eb;obtain⟨hi,rfl⟩:=AG.mp ea;obtain⟨hj,rfl⟩:=AG.mp eb;exact pairwise_iff_getElem.mp h i j hi hj hij
def Tc (n:Nat):Rs (Array.range n):=by
 have:Array.range n=(List.range n).toArray:=by simp
 rw[this];exact Td pairwise_lt_range
def Yp:Rs #[]:=λi j a b _ e=>by simp at e
structure Tk (t t':SetTable):Prop where
 rs:Rs t'.place
 led:t'.led=t.led
def OU (t:SetTable)(n:Nat):Tk t (t.standIn n):=⟨Tc n,rfl⟩
def kK {t:SetTable} :∀(n:Nat) (p:SetTable.Probe) (j:Nat) (d:Option Nat),(∀v,p.dummy=some v->¬t.place[SetTable.below t.place v]? = some v)->SetTable.probe.go t f h n p=some (.empty j d) ->
  ¬t.place[SetTable.below t.place (d.getD j)]? = some (d.getD j):=by
 intro n
 induction n with
 | zero=>intro p j d _ e;cases e
 | succ n ih=>
  intro p j d hd e;unfold SetTable.probe.go at e;split at e
  ·rename_i hs;cases e;cases hpd:p.dummy with
   | some v=>exact hd v hpd
   | none=>show ¬t.place[SetTable.below t.place p.j]? = some p.j;intro z;unfold SetTable.slot at hs;simp[z]at hs
  ·rename_i hs;refine ih _ j d (λv hv=>?_) e;have e3:v=p.j:=by unfold SetTable.advance at hv;split at hv <;> simp at hv <;> exact hv.symm
   subst e3;intro z;unfold SetTable.slot at hs;simp[z]at hs
  split at e
  ·cases e
  refine ih _ j d (λv hv=>hd v ?_) e;unfold SetTable.advance at hv;split at hv <;> simpa using hv
def iP {t:SetTable}(r:Rs t.place)(es:Array (Int×Value))(h:Int)(x:Value):Tk t (layNew t es h x).2.1:=by
 unfold layNew;split
 ·rename_i slot wd hf;unfold SetTable.freeSlot at hf;split at hf
  ·rename_i j d hp;have hn:=kK _ _ j d (λv hv=>by unfold SetTable.probeStart at hv;simp at hv) hp;cases hf;show Tk t ((t.put (d.getD j)).1.orStandIn _);unfold SetTable.orStandIn;split
   ·exact⟨Yq r hn,rfl⟩
   exact⟨Tc _,rfl⟩
  cases hf
 exact OU t _
def YC {t:SetTable}(es:Array (Int×Value))(m:Nat):Tk t (relayAll t es m).2.1:=by
 unfold relayAll;split
 ·rename_i t' order e;unfold SetTable.relaid SetTable.laid at e;cases ho:SetTable.layClean (SetTable.sizeAbove m-1) (es.map (·.1))with
  | none=>rw[ho]at e;cases e
  | some owner=>
   rw[ho]at e;have e2:some _=some (t',order):=e;cases e2;dsimp only;split
   ·refine⟨?_,rfl⟩;dsimp only;refine Td ?_
    have hsub:∀l:List Nat,(List.map (λx=>x.1) (l.filterMap λj=>(owner.getD j none).map (j,·))).Sublist l:=by
     intro l;induction l with
     | nil=>exact List.Sublist.slnil
     | cons a r ih=>
      rw[Oe];cases hh:owner.getD a none with
      | none=>exact List.Sublist.cons _ ih
      | some v=>exact List.Sublist.cons₂ _ ih
    exact List.Pairwise.sublist (hsub _) pairwise_lt_range
   exact OU t _
 exact OU t _
theorem perm_of {κ:Type}[DecidableEq κ]:∀{l m:List κ},l.Nodup->(∀x∈l,x∈m)->m.length<=l.length->m.Perm l
 | [],m,_,_,h=>by
  cases m with
  | nil=>exact Lz _
  | cons a r=>simp at h
 | a::l,m,nd,sub,h=>by (obtain⟨n1,n2⟩:=Bq.mp nd);have ha:=sub a Bj;have p1:=List.perm_cons_erase ha;have p2:(m.erase a).Perm l:=perm_of n2 (λx hx=>(List.mem_erase_of_ne (λ(e:x=a)=>n1 (e ▸ hx))).mpr (sub x (A6 _ hx))) (by have:=p1.length_eq;rw[CS]at this h;lia);exact p1.trans (p2.cons a)
structure Gd (w:World)(t:SetTable):Prop where
 rs:Rs t.place
 led:t.led=!w.params.followText "set-order"
def Gd.tk {t:SetTable}(g:Gd w t)(k:Tk t r):Gd w r:=⟨k.rs,k.led.trans g.led⟩
abbrev EB (es:Array (Int×Value))(ep:Nat)(t:SetTable):Obj:={ cls:=.type "set",dict:=none,data:=.set es ep t,slots:=#[] }
section
variable {prog:Program}{w:World}{κ:Type} [DecidableEq κ] (knd:KeyKind prog w κ)
structure Sd (S:κ->Bool)(n:Nat)(es:Array (Int×Value))(t:SetTable):Prop where
 el:ElemsOf knd es.toList
 me:∀k,S k=true↔∃e∈es.toList,knd.is k e.2=true
 bd:es.size<scanBound
 ft:t.fits es.size=true
 sz:es.size=n
 gd:Gd w t
def SetG (h:Heap)(b:Addr)(S:κ->Bool)(n:Nat):Prop:=∃es ep t,h.get? b=some (EB es ep t)/\Sd knd S n es t
variable {knd}{A:Around}{E:Value->Shared->Prop}{s:Shared}
def TF {h:Heap}{b:Addr}{es us:Array (Int×Value)}{ep:Nat}{t r:SetTable}(ho:h.get? b=some (EB es ep t)):(h.update b (Obj.putSet us r)).get? b=some (EB us (ep+1) r):=
 HZ (Obj.putSet us r) ho rfl
def after {g:Bool->Sem Unit}(hg:∀(c:Bool) (z:Shared) (F:Unit->Shared->Prop),F () z->wpAny (model prog w) A (g c) F E z){b:Addr}{es us:Array (Int×Value)}{ep:Nat}{t r:SetTable}
  (ho:s.heap.get? b=some (EB es ep t)){S:κ->Bool}(q:Sd knd S us.size us r){wd:Bool}{Rr:Option Bool->Shared->Prop}
  (fin:∀h',Heap.SameBut b s.heap h'->SetG knd h' b S us.size->Rr (some true) { s with heap:=h' }) :
  wpAny (model prog w) A (do
   storeSet b us r
   if (!wd && r.tooFull)=true then do
     g (relayAll r us (SetTable.grown us.size)).2.2
     storeSet b (relayAll r us (SetTable.grown us.size)).1 (relayAll r us (SetTable.grown us.size)).2.1
     pure (some true)
    else pure (some true)) Rr E s:=by
 refine Ae (wpAny_storeSet_of ho rfl ?_ (fits_of_scanBound q.bd))
 have o1:=TF (us:=us) (r:=r) ho
 have b1:=F7 s.heap b (Obj.putSet us r)
 split
 ·have pm:=relayAll_perm r us (SetTable.grown us.size);have fr:=relayAll_fits r us (SetTable.grown us.size);have tk:=YC (t:=r) us (SetTable.grown us.size);generalize relayAll r us (SetTable.grown us.size)=Z at pm fr tk ⊢;obtain⟨ys,t3,gv⟩:=Z;dsimp only at pm fr tk ⊢;have hz:ys.size=us.size:=by rw[<- DY,pm.length_eq,DY]
  have bd2:ys.size<scanBound:=by rw[hz];exact q.bd
  refine Ae (hg _ _ _ (Ae (wpAny_storeSet_of o1 rfl (An (fin _ (b1.trans (F7 _ b _)) ⟨ys,_,t3,TF o1,q.el.perm pm,λk=>(q.me k).trans ⟨?_,?_⟩,bd2,fr,hz,q.gd.tk tk⟩)) (fits_of_scanBound bd2))))
  ·rintro⟨e,he,z⟩;exact⟨e,pm.mem_iff.mpr he,z⟩
  rintro⟨e,he,z⟩;exact⟨e,pm.mem_iff.mp he,z⟩
 exact An (fin _ b1 ⟨us,_,r,o1,q⟩)
def nX {k:κ} (key:knd.is k x=true)(sc:x.scannable=true)(g:SetG knd s.heap b S n)(room:n+1<scanBound)
  (fin:∀h',Heap.SameBut b s.heap h'->SetG knd h' b (λy=>S y || decide (y=k)) (if S k then n else n+1)->Q (!S k) { s with heap:=h' }) :
  wpAny (model prog w) A (setAddHashed b x (knd.hash k)) Q E s:=by
 obtain⟨es,ep,t,ho,i⟩:=g
 (unfold setAddHashed setAddHashedIn)
 refine DE (Ae (LI ho rfl i.ft ?_))
 dsimp only
 rw[byScan_of sc i.bd i.el]
 simp only[↓reduceIte]
 unfold setAddByScan
 refine Ae (Ae (Ga (Ae (wpAny_setScan_of key ho rfl i.ft i.el ?_))))
 cases hfi:List.findIdx? (λe=>knd.is k e.2) es.toList with
 | some j=>
  dsimp only;obtain⟨hj,pj,_⟩:=List.findIdx?_eq_some_iff_getElem.mp hfi;have yes:S k=true:=(i.me k).mpr ⟨_,BY hj,pj⟩;have z:=fin s.heap (Heap.SameBut.refl b s.heap) ⟨es,ep,t,ho,i.el,λy=>?_,i.bd,i.ft,by rw[yes];exact i.sz,i.gd⟩
  ·rw[yes]at z;(exact An (An z))
  rw[<- i.me y,Bool.or_eq_true,Oo];exact⟨λc=>c.elim id λe=>e ▸ yes,.inl⟩
 | none=>
  dsimp only;have no:S k=false:=by refine Rx.mpr λc=>?_;obtain⟨e,he,pe⟩:=(i.me k).mp c;exact Bool.noConfusion ((List.findIdx?_eq_none_iff.mp hfi e he).symm.trans pe)
  have quiet:∀(c:Bool) (z:Shared) (F:Unit->Shared->Prop),F () z->wpAny (model prog w) A (match c with | true=>rule "set.scan.the-table-gave-way" | false=>pure ()) F E z:=λc z F f=>by
   cases c
   ·exact An f
   exact Ga f
  have pm:=layNew_perm t es (knd.hash k) x;have fr:=layNew_fits t es (knd.hash k) x;have tk:=iP i.gd.rs es (knd.hash k) x;generalize layNew t es (knd.hash k) x=Z at pm fr tk ⊢;obtain⟨us,t1,wd,gv⟩:=Z;dsimp only at pm fr tk ⊢;rw[Array.toList_push]at pm;have hz:us.size=n+1:=by rw[<- DY,pm.length_eq,AY,DY,i.sz];rfl
  refine Ae (quiet _ _ _ ?_);have iu:∀r:SetTable,r.fits us.size=true->Gd w r->Sd knd (λy=>S y || decide (y=k)) us.size us r:=λr h1 h2=>⟨(i.el.push key sc).perm pm,mem_push_iff key i.me pm,by lia,h1,rfl,h2⟩;have last:∀h',Heap.SameBut b s.heap h'->SetG knd h' b (λy=>S y || decide (y=k)) us.size->Q true { s with heap:=h' }:=λh' c1 c2=>by have z:=fin h' c1;rw[no]at z;rw[hz]at c2;exact z c2
  split
  ·refine Ae ?_;rw[hashByValue_scannable 8 sc];refine An (after (knd:=knd) quiet ho (iu _ ?_ ?_) λh' c1 c2=>An (last h' c1 c2))
   ·split
    ·exact fr
    exact SetTable.fits_plain_off fr
   split
   ·exact i.gd.tk tk
   exact⟨tk.rs,tk.led.trans i.gd.led⟩
  refine Ae (An (?_:_));simp only[↓reduceIte];exact after (knd:=knd) quiet ho (iu _ fr (i.gd.tk tk)) λh' c1 c2=>An (last h' c1 c2)
end
end SG
namespace SG
open PySem
open Sem (wp)
def sl_next:Slot "set_iterator" "__next__" "set_iterator.__next__" := .of (owner := "set_iterator") (n := "__next__") (by rw[E9,Fb];kernel_rfl)
 (by decide +kernel) (by decide +kernel) (by decide +kernel) (by first | exact .inl (by decide +kernel) | exact .inr (by decide +kernel))
 (by rw[Gg];kernel_rfl)
def U9:entryFor table "set_iterator.__next__" = some Builtin.«set_iterator.__next__»:=entryFor_of_fast (by kernel_rfl)
def VS (v:Value):argsOk "set_iterator.__next__" ⟨[v],[]⟩:=by unfold argsOk;kernel_rfl
def lV:entryFor table "set.__iter__" = some Builtin.«frozenset.__iter__»:=entryFor_alias (id' := "frozenset.__iter__") (by kernel_rfl) rfl (by decide +kernel) (by kernel_rfl)
section
variable {prog:Program}{w:World}{A:Around}{E:Value->Shared->Prop}{s:Shared}
def Wi (h0:n≠0)(q:∀i d,i<n->Q i { s with drawn:=d }):wpAny M A (choose src n) Q E s:=λΓ p _=>by show wp M Γ (.choose src n .pure) _ _ p s;rw[Sem.wp_choose];exact⟨h0,q _ _ (mod_lt _ (Nat.pos_of_ne_zero h0))⟩
theorem QS {α:Type}:∀{l:List α}{i:Nat}(h:i<l.length),(l[i]::l.eraseIdx i).Perm l
 | [],i,h=>nomatch h
 | a::r,0,_=>Lz _
 | a::r,i+1,h=>((List.Perm.swap a _ _).symm.symm).trans ((QS (l:=r) (i:=i) (Nat.lt_of_succ_lt_succ h)).cons a)
theorem Vb {M:Model}{α:Type}:∀(n:Nat) (xs:List α),xs.length=n->∀(s:Shared) (Q:List α->Shared->Prop),(∀ys d,ys.Perm xs->Q ys { s with drawn:=d })->wpAny M A (drawOrder n xs) Q E s
 | 0,xs,h,s,Q,q=>by obtain rfl:=RB.mp h;exact An (q [] s.drawn (Lz _))
 | n+1,[],h,_,_,_=>by cases h
 | n+1,x::xs,h,s,Q,q=>by show wpAny M A (choose .order (x::xs).length >>= _) _ _ _;refine Ae (Wi (by simp) λi d hi=>?_);have e:(x::xs)[i]? = some (x::xs)[i]:=AH hi;rw[e];dsimp only;refine Ae (Vb n _ (by rw[V0 hi,h];rfl) _ _ λys d2 p=>An (q _ d2 ?_));refine(p.cons _).trans ?_;exact QS hi
abbrev Jp (f:Value)(i:Nat)(b:Addr)(n ep:Nat):Obj:={ cls:=.type "set_iterator",dict:=none,data:=.fields #[f,.int i 0,.ref b,.int n 0,.int ep 0],slots:=#[] }
abbrev Nm (ps:List Nat):Obj:={ cls:=.type "tuple",dict:=none,data:=.seq (ps.map λ(i:Nat)=>rawInt i).toArray 0,slots:=#[] }
def Hj (t:SetTable):Nat->Nat
 | 0=>0
 | k+1=>t.place.getD k 0+1
theorem TL {α:Type}(f:Nat->Nat):∀(n k:Nat) (xs:List α) (out:Array α),xs.length=n->(pickOrder.go f n k xs out).toList.Perm (out.toList++xs)
 | 0,k,xs,out,h=>by obtain rfl:=RB.mp h;rw[Cm];exact Lz _
 | n+1,k,xs,out,h=>by have hi:f k % xs.length<xs.length:=mod_lt _ (by lia);unfold pickOrder.go;rw[AH hi];dsimp only;refine(TL f n (k+1) _ _ (by rw[V0 hi,h];rfl)).trans ?_;rw[Array.toList_push,De];exact(QS hi).append_left _
def TK {α:Type}(f:Nat->Nat)(xs:Array α):(pickOrder f xs).toList.Perm xs.toList:=by have:=TL f xs.size 0 xs.toList #[] (by simp);rw[Oh]at this;exact this
inductive Way (w:World)(b:Addr)(es:Array (Int×Value))(ep:Nat)(t:SetTable):(Nat->Value)->List (Addr×Obj)->List Value->Prop
 | text:w.params.followText "set-order" = true->Way w b es ep t (λ_=>.int 0 0) [] ((pickOrder (w.params.setOrder b ep) es).toList.map (·.2))
 | slots:w.params.followText "set-order" = false->(!t.plain && decide (es.size > 1))=false->Way w b es ep t (λi=>.int (Hj t i) 0) [] (es.toList.map (·.2))
 | drawn (T:Addr) (ps:List Nat):w.params.followText "set-order" = false->ps.Perm (List.range es.size)->Way w b es ep t (λ_=>.ref T) [(T,Nm ps)] (ps.map λi=>((es[i]?).map (·.2)).getD .none)
def Way.perm {t:SetTable} (y:Way w b es ep t f nw ys):ys.Perm (es.toList.map (·.2)):=by
 cases y with
 | text _=>exact(TK _ es).map _
 | slots _ _=>exact Lz _
 | drawn T ps _ h=>refine(h.map _).trans (List.Perm.of_eq ?_);refine ext_getElem (by simp) λi h1 h2=>?_;rw[Ak,EI]at h1;simp[h1]
def Mh {t:SetTable} (ho:s.heap.get? b=some (EB es ep t))(ft:t.fits es.size=true) :
  (w.params.followText "set-order" = true->Q (((pickOrder (w.params.setOrder b ep) es)[i]?).map λe=>(e.2,slot)) s) ->
  (w.params.followText "set-order" = false->(!t.plain && decide (es.size > 1))=false/\t.led=true/\Q (match es[SetTable.below t.place slot]?,t.place[SetTable.below t.place slot]? with | some (_,x),some j=>some (x,j+1) | _,_=>none) s) ->
  wpAny (model prog w) A (setNext b slot i ep) Q E s:=by
 intro h1 h2
 unfold setNext
 refine Ae (LI ho rfl ft ?_)
 dsimp only
 unfold setsByText
 (refine Ae (Ae (LD (An ?_))))
 cases hb:w.params.followText "set-order" with
 | true=>have e:(model prog w).w.params.followText "set-order" = true:=hb;simp only[e,↓reduceIte];(simp only[Rw,EK,↓reduceIte]);refine Ae ?_;unfold setWalk setsByText;refine Ae (LI ho rfl ft ?_);dsimp only;(refine Ae (Ae (LD (An ?_))));simp only[e,↓reduceIte];exact Ae (LD (An (An (h1 hb))))
 | false=>
  have e:(model prog w).w.params.followText "set-order" = false:=hb;obtain⟨a1,a2,a3⟩:=h2 hb;simp only[e,EK,↓reduceIte];split
  ·rename_i c;have c2:(!t.plain && decide (es.size > 1))=true:=c;rw[a1]at c2;cases c2
  refine Ae ?_;show wpAny _ _ (if (!t.led && !es.isEmpty)=true then unsupported "set:maker-not-led" else pure PUnit.unit) _ _ _;rw[a2];exact An (An a3)
def SZ {t:SetTable}(r:Rs t.place) (h:i<=t.place.size):SetTable.below t.place (Hj t i)=i:=by
 refine Y7 r h (λj a hj e=>?_) (λj a hj e=>?_)
 ·cases i with
  | zero=>lia
  | succ k=>
   have hk:k<t.place.size:=h;have ek:t.place[k]? = some t.place[k]:=Ep hk;have e3:Hj t (k+1)=t.place[k]+1:=by show t.place.getD k 0+1=_;simp[Array.getD,hk]
   rw[e3];rcases lt_or_ge j k with z | z
   ·exact G5 (r j k _ _ z e ek)
   obtain rfl:j=k:=by lia
   rw[ek]at e;cases e;exact G3 _
 cases i with
 | zero=>exact A5 _
 | succ k=>
  have hk:k<t.place.size:=h;have ek:t.place[k]? = some t.place[k]:=Ep hk;have e3:Hj t (k+1)=t.place[k]+1:=by show t.place.getD k 0+1=_;simp[Array.getD,hk]
  rw[e3];exact r k j _ _ hj ek e
def Xi {α:Type}{Q:α->Shared->Prop}(hh:A.handled=none)(q:∀h' e,(∀b o,s.heap.get? b=some o->h'.get? b=some o)->(∃o,h'.get? e=some o/\o.cls=.type "StopIteration")->E (.ref e) { s with heap:=h' }) :
  wpAny (model prog w) A (newExc (.type "StopIteration") [] >>= λe=>(raiseNew e:Sem α)) Q E s:=by
 refine Ae ?_
 simp only[newExc,newTuple]
 (refine Ae (CW ?_ (by size_fits)))
 (refine Ae (m:=firstArgMember _ _) (CQ (a:=Value.none) (by first | rfl | (simp only[firstArgMember];rfl)) ?_))
 (refine CW ?_ (by size_fits))
 simp only[raiseNew]
 (refine Ae (N6 ?_))
 rw[hh]
 (refine Ae (An (wpAny_throw ?_)))
 exact q _ _ (λb o e=>AU _ (AU _ e)) ⟨_,Bg _ rfl,rfl⟩
def Xk {t:SetTable} (y:Way w b es ep t f nw ys)(g:Gd w t)(ft:t.fits es.size=true)
  (hI:s.heap.get? I=some (Jp (f i) i b es.size ep))(hb:s.heap.get? b=some (EB es ep t))(hn:∀p∈nw,s.heap.get? p.1=some p.2)(hv:ys[i]? = some v)
  (q:∀h',h'.get? I=some (Jp (f (i+1)) (i+1) b es.size ep)->Heap.SameBut I s.heap h'->Q (some v) { s with heap:=h' }):wpAny (model prog w) A (pyNext (.ref I)) Q E s:=by
 have ty:s.TypeIs (.ref I) "set_iterator" := ⟨_,hI,rfl⟩
 unfold pyNext
 refine Ae (G4 (FD (name:=Str.ofString "__next__") ty sl_next (CV sl_next ty U9 ?_ (VS _))))
 unfold Builtin.«set_iterator.__next__»
 refine Ae (m:=slotArgs "__next__" 0 _) (An ?_)
 refine Ae (Oa hI rfl ?_)
 dsimp only
 refine Ae (RH hb rfl ft ?_)
 rw[Am (by simp)]
 have hps:t.place.size=es.size:=by unfold SetTable.fits at ft;simp only[BZ,GY]at ft;exact ft.1
 cases y with
 | text ht=>simp only[Co];rw[AI,FC]at hv;obtain⟨e,he,rfl⟩:=JN.mp hv;refine Ae (Mh hb ft (λ_=>?_) (λhf=>by rw[ht]at hf;cases hf));rw[he];refine Ae (ER hI (by simp) λh1 o1 b1=>Ae (ER o1 (by simp) λh2 o2 b2=>An ⟨e.2,rfl,An (q h2 o2 (b1.trans b2))⟩))
 | slots hf hd=>
  simp only[Co];rw[AI,FC]at hv;obtain⟨e,he,rfl⟩:=JN.mp hv;have hi:=(OB.mp he).1;have ep2:t.place[i]? = some t.place[i]:=Ep (by lia);refine Ae (Mh hb ft (λht=>by rw[ht]at hf;cases hf) (λ_=>⟨hd,by rw[g.led,hf];rfl,?_⟩));rw[SZ g.rs (by lia),he,ep2];refine Ae (ER hI (by simp) λh1 o1 b1=>Ae (ER o1 (by simp) λh2 o2 b2=>An ⟨e.2,rfl,An (q h2 ?_ (b1.trans b2))⟩));have e3:Hj t (i+1)=t.place[i]+1:=by show t.place.getD i 0+1=_;simp[Array.getD,show i<t.place.size by lia]
  show h2.get? I=some (Jp (.int ((Hj t (i+1):Nat):Int) 0) (i+1) b es.size ep);rw[e3];exact o2
 | drawn T ps hf hp=>
  simp only[Co];rw[AI]at hv;obtain⟨p,hpi,rfl⟩:=JN.mp hv;have hpl:p<es.size:=DJ.mp (hp.mem_iff.mp (Bz hpi));refine Ae (JM (hn (T,Nm ps) (AX.mpr rfl)) rfl ?_);dsimp only;have e1:(ps.map λ(i:Nat)=>rawInt i).toArray[i]? = some (Value.int p 0):=by rw[Rt,AI,hpi];rfl
  rw[e1];dsimp only;have e2:es[p]? = some es[p]:=Ep hpl;refine Ae (m:=setNextDrawn b _ _) ?_;unfold setNextDrawn;refine Ae (LI hb rfl ft ?_);dsimp only;simp only[Co,Rw,EK,↓reduceIte,e2];refine An (Ae (ER hI (by simp) λh1 o1 b1=>An ⟨_,rfl,An ?_⟩));have z:=q h1 o1 b1;rw[e2]at z;exact z
def Xl {t:SetTable} (hh:A.handled=none)(y:Way w b es ep t f nw ys)(g:Gd w t)(ft:t.fits es.size=true)
  (hI:s.heap.get? I=some (Jp (f es.size) es.size b es.size ep))(hb:s.heap.get? b=some (EB es ep t))(hn:∀p∈nw,s.heap.get? p.1=some p.2)
  (q:∀h',(∀c o,c≠I->s.heap.get? c=some o->h'.get? c=some o)->Q none { s with heap:=h' }):wpAny (model prog w) A (pyNext (.ref I)) Q E s:=by
 have ty:s.TypeIs (.ref I) "set_iterator" := ⟨_,hI,rfl⟩
 unfold pyNext
 refine Ae (G4 (FD (name:=Str.ofString "__next__") ty sl_next (CV sl_next ty U9 ?_ (VS _))))
 unfold Builtin.«set_iterator.__next__»
 refine Ae (m:=slotArgs "__next__" 0 _) (An ?_)
 refine Ae (Oa hI rfl ?_)
 dsimp only
 refine Ae (RH hb rfl ft ?_)
 rw[Am (by simp)]
 have hps:t.place.size=es.size:=by unfold SetTable.fits at ft;simp only[BZ,GY]at ft;exact ft.1
 have fin:∀(h1:Heap) (F:Fin->Shared->Prop),Heap.SameBut I s.heap h1->wpAny (model prog w) A.in1 (newExc (.type "StopIteration") [] >>= λe=>(raiseNew e:Sem Fin)) F (λe s'=>wpAny (model prog w) A (do
    let c <- isInstance e (Value.type "StopIteration")
    if c=true then pure none else throw e) Q E s') { s with heap:=h1 }:=by
  intro h1 F b1
  refine Xi hh λh2 e k2 z=>?_
  obtain⟨o,ho,hc⟩:=z
  exact Ae (Ik (T := "StopIteration") (b:=true) ⟨o,ho,hc⟩ isSubtype_stop (An (q _ λc o c1 e=>k2 _ _ (b1.extBut _ _ c1 e))))
 cases y with
 | text ht=>
  simp only[Co];have he:(pickOrder (w.params.setOrder b ep) es)[es.size]? = none:=by refine JV ?_;have:=(TK (w.params.setOrder b ep) es).length_eq;simp only[DY]at this;lia
  refine Ae (Mh hb ft (λ_=>?_) (λhf=>by rw[ht]at hf;cases hf));rw[he];exact Ae (ER hI (by simp) λh1 o1 b1=>fin h1 _ b1)
 | slots hf hd=>simp only[Co];refine Ae (Mh hb ft (λht=>by rw[ht]at hf;cases hf) (λ_=>⟨hd,by rw[g.led,hf];rfl,?_⟩));rw[SZ g.rs (by lia),JV (Au _)];exact Ae (ER hI (by simp) λh1 o1 b1=>fin h1 _ b1)
 | drawn T ps hf hp=>
  simp only[Co];refine Ae (JM (hn (T,Nm ps) (AX.mpr rfl)) rfl ?_);dsimp only;have e1:(ps.map λ(i:Nat)=>rawInt i).toArray[es.size]? = none:=by refine JV ?_;have:=hp.length_eq;simp at this ⊢;lia
  rw[e1];dsimp only;exact Ae (ER hI (by simp) λh1 o1 b1=>Ae (ER o1 (by simp) λh2 o2 b2=>fin h2 _ (b1.trans b2)))
end
def S2:Slot "set_iterator" "__iter__" "set_iterator.__iter__" := .of (owner := "set_iterator") (n := "__iter__") (by rw[E9,Fb];kernel_rfl)
 (by decide +kernel) (by decide +kernel) (by decide +kernel) (by first | exact .inl (by decide +kernel) | exact .inr (by decide +kernel))
 (by rw[Gg];kernel_rfl)
def lU:entryFor table "set_iterator.__iter__" = some Builtin.«dict_keyiterator.__iter__»:=entryFor_alias (id' := "dict_keyiterator.__iter__") (by kernel_rfl) rfl (by decide +kernel) (by kernel_rfl)
def nU (v:Value):argsOk "set_iterator.__iter__" ⟨[v],[]⟩:=by unfold argsOk;kernel_rfl
def hX:typeLookup (.type "set") "__len__" = pure (some (.builtin "set.__len__")):=by rw[E9,Fb];kernel_rfl
section
variable {prog:Program}{w:World}{A:Around}{E:Value->Shared->Prop}{s:Shared}
theorem L8 {t:SetTable} (hh:A.handled=none)(y:Way w b es ep t f nw ys)(g:Gd w t)(ft:t.fits es.size=true)(hl:ys.length=es.size)(n1:b≠I)(n2:∀p∈nw,p.1≠I) :
  WalksS prog w A I (I::b::nw.map (·.1)) [I] (λx z=>x=z) es.size (λi v=>ys[i]? = some v)
   (λi s=>s.heap.get? I=some (Jp (f i) i b es.size ep)/\s.heap.get? b=some (EB es ep t)/\∀p∈nw,s.heap.get? p.1=some p.2) where
 sub:=λc hc=>by rw[AX.mp hc];exact Bj
 grefl:=λ_=>rfl
 gtrans:=λ_ _ _ a b=>a.trans b
 frame:=λi s h' tk st _ k=>⟨k I Bj _ st.1,k b (A6 _ Bj) _ st.2.1,λp hp=>k p.1 (A6 _ (A6 _ (Cy hp))) _ (st.2.2 p hp)⟩
 item:=λi s Q E hi st q=>by refine Xk (v:=ys[i]'(by lia)) y g ft st.1 st.2.1 st.2.2 (AH _) λh' o1 b1=>?_;refine q _ _ (AH _) ⟨o1,b1.extBut _ _ n1 st.2.1,λp hp=>b1.extBut _ _ (n2 p hp) (st.2.2 p hp)⟩ ⟨λc o hc e=>b1.extBut _ _ (λz=>hc (by rw[z];exact AX.mpr rfl)) e,rfl,rfl,rfl,Au _⟩
 done:=λs Q E st q=>Xl hh y g ft st.1 st.2.1 st.2.2 λh' k=>q _ ⟨λc o hc e=>k c o (λz=>hc (by rw[z];exact AX.mpr rfl)) e,rfl,rfl,rfl,Au _⟩
 self:=λi s Q E st q=>by have ty:s.TypeIs (.ref I) "set_iterator" := ⟨_,st.1,rfl⟩;refine LH ty S2 (CV S2 ty lU ?_ (nU _));show wpAny _ _ (ret (.ref I)) _ _ s;exact An ⟨_,rfl, "set_iterator",_,ty,sl_next.lookup,q⟩
def jD {t:SetTable} (g:Gd w t)(ft:t.fits es.size=true)(hz:es.size<=1000)(hb:s.heap.get? b=some (EB es ep t))
  (q:∀(h':Heap) (d:Drawn) (I:Addr) (f:Nat->Value) (nw:List (Addr×Obj)) (ys:List Value),Way w b es ep t f nw ys->s.heap.objs.size<=I->(∀p∈nw,s.heap.objs.size<=p.1/\p.1≠I/\h'.get? p.1=some p.2)->h'.get? I=some (Jp (f 0) 0 b es.size ep) -> (∀c o,s.heap.get? c=some o->h'.get? c=some o)->Q (.ref I) { s with heap:=h',drawn:=d }):wpAny (model prog w) A (pyIter (.ref b)) Q E s:=by
 have ty:s.TypeIs (.ref b) "set" := ⟨_,hb,rfl⟩
 refine LH ty F.slot_set_iter (CV F.slot_set_iter ty lV ?_ (F.args_set_iter_1 _))
 unfold Builtin.«frozenset.__iter__»
 refine Ae (m:=Builtin.Frozenset.slot0 "__iter__" _) (An ?_)
 refine Ae (m:=Builtin.Frozenset.sizeOf b) (Ae (RH hb rfl ft (An ?_)))
 dsimp only
 have made:∀(f:Nat->Value) (nw:List (Addr×Obj)) (ys:List Value) (h1:Heap) (d:Drawn),Way w b es ep t f nw ys->(∀p∈nw,s.heap.objs.size<=p.1/\h1.get? p.1=some p.2)->(∀c o,s.heap.get? c=some o->h1.get? c=some o)->s.heap.objs.size<=h1.objs.size ->
   wpAny (model prog w) A.in1 (do
    let z <- setEpoch b
    let u <- newFields "set_iterator" [f 0,rawInt 0,.ref b,rawInt es.size,rawInt z]
    ret u) (λfin s'=>∃v,fin=Fin.done (Flow.ret v)/\∃T' r,s'.TypeIs v T'/\typeLookup (.type T') "__next__" = pure (some r)/\Q v s') E { s with heap:=h1,drawn:=d }:=by
  intro f nw ys h1 d y n1 k le
  refine Ae (wpAny_setEpoch_of (k _ _ hb) rfl ft ?_)
  refine Ae (CW (An ⟨_,rfl, "set_iterator",_,⟨_,Bg _ rfl,rfl⟩,sl_next.lookup,?_⟩))
  exact q _ d _ f nw ys y le (λp hp=>⟨(n1 p hp).1,Be (A1 (n1 p hp).2),AU _ (n1 p hp).2⟩) (Bg _ rfl) λc o e=>AU _ (k c o e)
 refine Ae (m:=setDrawn b) ?_
 unfold setDrawn setsByText
 refine Ae (LI hb rfl ft ?_)
 dsimp only
 refine Ae (Ae (LD (An (An ?_))))
 split
 ·rename_i c;have c2:(!w.params.followText "set-order" && (!t.plain && decide (es.size > 1)))=true:=c
  have hf:w.params.followText "set-order" = false:=by
   cases hq:w.params.followText "set-order" with
   | false=>rfl
   | true=>rw[hq]at c2;cases c2
  refine Ae (Vb es.size (List.range es.size) EI _ _ λps d pm=>?_);have lp:(ps.map λ(i:Nat)=>rawInt i).length<=sizeLine:=by have h1:=pm.length_eq;have h2:sizeLine=16777216:=AK;rw[EI]at h1;rw[Ak];lia
  refine Ae (wpAny_newTuple ?_ lp);refine made (λ_=>.ref s.heap.objs.size) [(s.heap.objs.size,Nm ps)] _ _ d (.drawn _ ps hf pm) (λp hp=>?_) (λc o e=>AU _ e) (by rw[G7];exact Fc _);rw[AX.mp hp];exact⟨Au _,Bg _ rfl⟩
 rename_i c
 refine Ae (An ?_)
 cases hq:w.params.followText "set-order" with
 | true=>exact made (λ_=>.int 0 0) [] _ s.heap s.drawn (.text hq) (λp hp=>nomatch hp) (λ_ _ e=>e) (Au _)
 | false=>have c2:¬(!w.params.followText "set-order" && (!t.plain && decide (es.size > 1)))=true:=c;rw[hq]at c2;exact made (λi=>.int (Hj t i) 0) [] _ s.heap s.drawn (.slots hq (Rx.mpr c2)) (λp hp=>nomatch hp) (λ_ _ e=>e) (Au _)
def jW (ty:s.TypeIs (.ref b) "set") (h:Q false s):wpAny (model prog w) A (Builtin.List.listLengthHint (.ref b)) Q E s:=by
 (unfold Builtin.List.listLengthHint);refine Ae (EL ty hX ?_);generalize hid:("set.__len__" : String)=id0;wp_delta;rw[show splitId id0=some ("set", "__len__") from by subst hid;decide +kernel];subst hid;refine Ae (Ik (T := "set") (b:=true) ty (by rw[Gg];kernel_rfl) ?_);rw[Am (by decide)];split
 ·exact Ae (G1 ty (An h))
 rename_i c;exact absurd (by decide +kernel) c
def mV {t:SetTable} (hh:A.handled=none)(g:Gd w t)(ft:t.fits es.size=true)(hz:es.size<=1000)(hb:s.heap.get? b=some (EB es ep t))
  (q:∀(h':Heap) (d:Drawn) (tk:Nat) (ys:List Value),ys.Perm (es.toList.map (·.2))->s.heap.objs.size<=h'.objs.size->(∀c o,s.heap.get? c=some o->h'.get? c=some o)->R ys { s with heap:=h',drawn:=d,toks:=tk }):wpAny (model prog w) A (collect (.ref b)) R E s:=by
 have hlb:b<s.heap.objs.size:=A1 hb
 unfold collect
 (refine Ae (Ob (DF F.entry_proto_collect ?_)))
 (rw[Eo F.plain_proto_collect _])
 show wpAny _ A.in1 (newList [] >>= λl=>again (.builtin "list.__iadd__" ⟨[l,.ref b],[]⟩)) _ _ _
 refine Ae (CW (An ⟨EJ Om _,DF F.entry_list_iadd ?_⟩))
 (rw[Eo Om _])
 show wpAny _ A.in1 (Builtin.List.listExtendWith (.ref s.heap.objs.size) (.ref b) (.ref s.heap.objs.size)) _ _ _
 have hb1:(s.heap.push { cls:=.type "list",data:=.seq ([]:List Value).toArray }).get? b=some (EB es ep t):=AU _ hb
 have ty:Shared.TypeIs { s with heap:=s.heap.push { cls:=.type "list",data:=.seq ([]:List Value).toArray } } (.ref b) "set" := ⟨_,hb1,rfl⟩
 (unfold Builtin.List.listExtendWith)
 refine Ae (G1 ty ?_)
 have e1:Builtin.List.listSameRef (.ref s.heap.objs.size) (.ref b)=false:=by simp[Builtin.List.listSameRef,Er hlb]
 have e2:(Value.type "set" == Value.type "list")=false:=by decide
 have e3:(Value.type "set" == Value.type "tuple")=false:=by decide
 simp only[e1,e2,e3,N7,EK,Ec]
 have sz:(s.heap.push { cls:=.type "list",data:=.seq ([]:List Value).toArray }).objs.size=s.heap.objs.size+1:=G7 ..
 refine Ae (jD g ft hz hb1 λh' d I f nw ys y hI hn oI k=>?_)
 rw[sz]at hI hn
 have ty2:Shared.TypeIs { s with heap:=h',drawn:=d } (.ref b) "set" := ⟨_,k _ _ hb1,rfl⟩
 refine Ae (DE (jW ty2 ?_))
 have hS:h'.get? s.heap.objs.size=some { cls:=.type "list",data:=.seq ([]:List Value).toArray }:=k _ _ (Bg _ rfl)
 have hl:ys.length=es.size:=by have:=y.perm.length_eq;simpa using this
 have W:=L8 (prog:=prog) (A:=A.in1) (I:=I) hh y g ft hl (λz=>Es _ (CU (z ▸ hlb:I<s.heap.objs.size) (Nat.le_of_succ_le hI))) (λp hp=>(hn p hp).2.1)
 have hSf:s.heap.objs.size∉I::b::nw.map (·.1):=by
  intro z;rcases(AL.mp z)with z | z
  ·exact Es _ (CU (G3 _) (z ▸ hI))
  rcases(AL.mp z)with z | z
  ·exact Es _ (z ▸ hlb)
  obtain⟨p,hp,z⟩:=Bi.mp z;have:=(hn p hp).1;lia
 have run:∀(h2:Heap) (c:Nat) (Rr:Result->Shared->Prop),(∀b o,b≠s.heap.objs.size->h'.get? b=some o->h2.get? b=some o)->h2.get? s.heap.objs.size=some { cls:=.type "list",data:=.seq ([]:List Value).toArray c } ->
   (∀(h3:Heap) (tk c':Nat) (acc:Array Value),h3.get? s.heap.objs.size=some { cls:=.type "list",dict:=none,data:=.seq acc c',slots:=#[] }->acc.toList=ys->(∀c o,s.heap.get? c=some o->h3.get? c=some o)->Rr (.ok (.ret (.ref s.heap.objs.size))) { s with heap:=h3,drawn:=d,toks:=tk }) ->
   codeAny (model prog w) A (.builtin "list.extend.loop" ⟨[.ref s.heap.objs.size,.ref I,.ref s.heap.objs.size],[]⟩) Rr { s with heap:=h2,drawn:=d }:=by
  intro h2 c Rr k2 hS2 fin
  have neI:I≠s.heap.objs.size:=Er hI
  refine codeAny_extend_loopS W (by rw[AK];lia) _ hSf _ es.size 0 _ _ _ rfl (A5 _) ⟨k2 _ _ neI oI,k2 _ _ (Be hlb) (k _ _ hb1),λp hp=>k2 _ _ (Er (hn p hp).1) (hn p hp).2.2⟩ hS2 (ItemsOf.nil _) λs3 acc c' hm hS3 it=>?_
  obtain⟨h3,g3,d3,tk3,os3⟩:=s3
  obtain⟨m1,m2,m3,m4,m5⟩:=hm
  have eg:s.gens=g3:=m2
  have ed:d3=d:=m3
  have es':os3=s.os:=m4
  subst eg ed es'
  refine fin h3 tk3 c' acc hS3 ?_ λc o e=>m1 c o ?_ (k2 c o (Be (A1 e)) (k c o (AU _ e)))
  ·refine ext_getElem (by rw[DY,it.1,hl]) λi h1 h2=>?_
   have e:ys[i]? = some acc.toList[i]:=it.2 i acc.toList[i] (by rw[<- FC];exact AH h1)
   rw[AH h2]at e
   exact(Bs e).symm
  have lc:c<s.heap.objs.size:=A1 e
  intro z
  rcases(AL.mp z)with z | z
  ·exact Es _ (z ▸ lc)
  exact Es _ (Ib lc (Nat.lt_of_succ_le ((AX.mp z) ▸ hI)))
 have last:∀(h3:Heap) (tk c':Nat) (acc:Array Value),h3.get? s.heap.objs.size=some { cls:=.type "list",dict:=none,data:=.seq acc c',slots:=#[] }->acc.toList=ys->(∀c o,s.heap.get? c=some o->h3.get? c=some o) ->
   R acc.toList { s with heap:=h3,drawn:=d,toks:=tk }:=λh3 tk c' acc o3 e k3=>by
  rw[e]
  exact q h3 d tk ys y.perm (Ic (A1 o3)) k3
 split
 ·refine Ae (Ga (Ae ?_));(show wpAny _ A.in1 (updateSeq s.heap.objs.size (·.push .none) >>= λ_=>updateSeq s.heap.objs.size (·.pop)) _ _ _);(refine Ae (Og hS rfl ?_));have hS2:=HZ (Obj.mapSeq (·.push Value.none)) hS rfl;refine Og hS2 rfl ?_;have hS3:=HZ (Obj.mapSeq (·.pop)) hS2 rfl;refine An ⟨EJ RG _,run _ _ _ (λb o hb e=>(LS _ _ (Ea hb)).trans ((LS _ _ (Ea hb)).trans e)) hS3 λh3 tk c' acc o3 e k3=>?_⟩;(show wpAny _ A (load s.heap.objs.size >>= _) _ _ _);exact Ae (wpAny_load o3 (An (last h3 tk c' acc o3 e k3)))
 refine An ⟨EJ RG _,run _ _ _ (λ_ _ _ e=>e) hS λh3 tk c' acc o3 e k3=>?_⟩
 (show wpAny _ A (load s.heap.objs.size >>= _) _ _ _)
 exact Ae (wpAny_load o3 (An (last h3 tk c' acc o3 e k3)))
end
end SG
namespace SG
open PySem PyProof.Rows
section
variable {prog:Program}{w:World}{A:Around}{E:Value->Shared->Prop}{s:Shared}
def iv:Value->Int
 | .int i _=>i
 | _=>0
theorem UK:∀{vs:List Value},(∀v∈vs,∃t,v=.int (iv v) t)->IntsAre vs (vs.map iv)
 | [],_=>.nil
 | v::r,h=>by obtain⟨t,e⟩:=h v Bj;rw[e];exact .cons _ t (UK λx hx=>h x (A6 _ hx))
def sorted_set {t:SetTable} (hh:A.handled=none)(g:Gd w t)(ft:t.fits es.size=true)(hz:es.size<64)(hb:s.heap.get? b=some (EB es ep t))(hi:∀e∈es.toList,∃t,e.2=.int (iv e.2) t)
  (q:∀(h':Heap) (d:Drawn) (tk e D:Nat) (out:Array Value) (ns:List Int),IntsAre out.toList ns->ns.Perm (es.toList.map λe=>iv e.2)->ns.Pairwise (·<=·)->h'.get? D=some (seqObj "list" out e)->s.heap.objs.size<=D->(∀c o,s.heap.get? c=some o->h'.get? c=some o) -> Q (.ref D) { s with heap:=h',drawn:=d,toks:=tk }):wpAny (model prog w) A (call (.builtin "sorted") [.ref b]) Q E s:=by
 (refine RW kind_sorted plain_sorted entry_sorted (args_sorted1 _) ?_)
 unfold Builtin.«sorted»
 (refine Ae (m:=checkCount "sorted" 1 1 _) (An ?_))
 refine Ae (mV (A:=A.in1) hh g ft (by lia) hb λh1 d tk ys pm lb k1=>?_)
 have hl:ys.length=es.size:=by have:=pm.length_eq;simpa using this
 (refine Ae (wpAny_newList ?_ (by rw[AK];lia)))
 have ai:∀v∈ys,∃t,v=.int (iv v) t:=λv hv=>by obtain⟨e,he,rfl⟩:=Bi.mp (pm.mem_iff.mp hv);exact hi e he
 have pi:(ys.map iv).Perm (es.toList.map λe=>iv e.2):=by have:=pm.map iv;rw[By]at this;exact this
 have oL:(h1.push { cls:=.type "list",data:=.seq ys.toArray }).get? h1.objs.size=some (seqObj "list" ys.toArray 0):=Bg _ rfl
 refine Ae (DE (CV slot_list_sort ⟨_,oL,rfl⟩ entry_list_sort (list_sort_tree oL (UK ai) (by lia) λout ns a1 a2 a3=>⟨_,rfl,?_⟩) (args_list_sort _)))
 obtain⟨e,he⟩:=sortedHeap_at (out:=out) oL
 refine An ⟨_,rfl,q _ d tk e _ out ns a1 (a2.trans pi) a3 he lb λc o z=>?_⟩
 have lc:=A1 (k1 c o z)
 rw[sortedHeap_old (Be lc) (by rw[size_push'];exact G5 lc)]
 exact AU _ (k1 c o z)
end
section
variable {prog:Program}{w:World}{κ:Type} [DecidableEq κ] {knd:KeyKind prog w κ}{A:Around}{R:Result->Shared->Prop}{I:Addr}{fp wr:List Addr}{G:Array GenState->Array GenState->Prop}{n:Nat}{P:Nat->Value->Prop}{St:Nat->Shared->Prop}
def kept (q:SetG knd h S f m)(e:∀o,h.get? S=some o->h'.get? S=some o):SetG knd h' S f m:=by obtain⟨es,ep,t,ho,r⟩:=q;exact⟨es,ep,t,e _ ho,r⟩
def NR {k:Nat}(q:SetG knd h S f m)(e:∀x,f x=g x)(em:m=k):SetG knd h S g k:=by have:f=g:=funext e;subst this em;exact q
def QR (W:WalksS prog w A.in1 I fp wr G n P St)(S:Addr)(nS:S∉fp)(val:Nat->κ)(hv:∀i v,P i v->knd.is (val i) v=true/\v.scannable=true)(hb:n+1<scanBound) :
  ∀(k i:Nat) (s:Shared),n-i=k->i<=n->St i s->SetG knd s.heap S (λx=>decide (x∈SK.dd val i)) (SK.dd val i).length ->
   (∀s',Moved (S::wr) G s s'->SetG knd s'.heap S (λx=>decide (x∈SK.dd val n)) (SK.dd val n).length->R (.ok (.ret .none)) s') ->
   (codeAny (model prog w) A (.builtin "set.update.loop" ⟨[.ref S,.ref I],[]⟩) R s):=by
 have nw:S∉wr:=λh=>nS (W.sub _ h)
 have sub:∀b∈wr,b∈S::wr:=λb z=>A6 _ z
 intro k
 induction k with
 | zero=>
  intro i s hk hi st hS fin;obtain rfl:i=n:=by lia
  refine DF N1 ?_;rw[Eo JG _];refine Ae (m:=pyNext (.ref I)) (W.done s _ _ st λs1 hm=>?_);exact An (fin s1 (hm.mono sub) (kept hS λo e=>hm.heap S o nw e))
 | succ k ih=>
  intro i s hk hi st hS fin;have lt:i<n:=by lia
  refine DF N1 ?_;rw[Eo JG _];refine Ae (m:=pyNext (.ref I)) (W.item i s _ _ lt st λv s1 hP st1 hm=>?_);obtain⟨key,sc⟩:=hv i v hP;refine Ae (m:=holding [v] (setAdd S v)) (DE ?_);unfold setAdd;refine DE (Ae (knd.pyHash (k:=val i) key ?_));have room:(SK.dd val i).length+1<scanBound:=by have:=SK.dd_le (val:=val) i;lia
  refine nX (knd:=knd) (s:={ s1 with toks:=s1.toks+1 }) key sc (kept hS λo e=>hm.heap S o nw e) room λh2 sb hS2=>?_;have hS3:SetG knd h2 S (λx=>decide (x∈SK.dd val (i+1))) (SK.dd val (i+1)).length:=NR hS2 (λx=>(SK.dd_step i x).symm) (SK.dd_size i).symm;have oth:∀b o,b≠S->s1.heap.get? b=some o->h2.get? b=some o:=λb o z e=>(sb.2 b z).trans e;refine An ⟨EJ JG _,ih (i+1) _ (by lia) lt (W.frame _ s1 h2 (s1.toks+1) st1 (Fc _) λb hb o e=>oth b o (λz=>nS (z ▸ hb)) e) hS3 λs2 hm2 q=>?_⟩;refine fin s2 (Moved.trans W.gtrans ((hm.mono sub).then_heap (Fc _) λb o hb e=>oth b o (λz=>hb (z ▸ Bj)) e) hm2) q
end
section
variable {prog:Program}{w:World}{κ:Type} [DecidableEq κ] {knd:KeyKind prog w κ}{A:Around}{E:Value->Shared->Prop}{s:Shared}
abbrev Uu (w:World):Bool:=!w.params.followText "set-order"
abbrev CP (led:Bool):Obj:={ cls:=.type "set",dict:=none,data:=.set #[] 0 (.fresh 0 0 led) }
def mW (v:Value) (q:Q1 (.ref s.heap.objs.size) { s with heap:=s.heap.push (CP (Uu w)) }) :
  codeAny (model prog w) A (.call (.builtin "set.__new__") ⟨[.type "set",v],[]⟩) (wants Q1 E) s:=by
 refine LC ?_
 show wpAny _ A.in1 (do checkBuiltinCall "set.__new__" ⟨[.type "set",v],[]⟩;again (.builtin "set.__new__" ⟨[.type "set",v],[]⟩)) _ _ s
 refine Ae (CQ (PySem.F.newCall_set_1 v) (An ⟨EJ PySem.F.plain_set_new _,DF PySem.F.entry_set_new ?_⟩))
 rw[Eo PySem.F.plain_set_new _]
 (unfold Builtin.«set.__new__» Builtin.Frozenset.newClass)
 have hsub:=sub_set_self
 obtain⟨hp,gs,d,tk,os⟩:=s
 dsimp only
 wp_walk
 (refine LD (An ?_))
 dsimp only
 simp only[newObj]
 exact Ae (wpAny_alloc (An (An q)))
def make {val:Nat->κ} (hh:A.handled=none)(hl:s.heap.IsList l items)(hv:∀i v,items[i]? = some v->knd.is (val i) v=true/\v.scannable=true)(hb:items.size+1<scanBound)
  (q:∀(h':Heap) (tk:Nat),SetG knd h' s.heap.objs.size (λx=>decide (x∈SK.dd val items.size)) (SK.dd val items.size).length->(∀b o,s.heap.get? b=some o->h'.get? b=some o)->Q (.ref s.heap.objs.size) { s with heap:=h',toks:=tk }) :
  (wpAny (model prog w) A (call (.type "set") [.ref l]) Q E s):=by
 obtain⟨c,tl,hmro⟩:=Do.mro
 have hmade:=Do.made
 have hsub:=Do.sub
 refine wpAny_call (LC (show wpAny _ _ (callAny (.type "set") _) _ _ _ from ?_))
 refine An ⟨Code.quiet_builtin _ (by decide +kernel),DF PySem.F.entry_type_call ?_⟩
 (rw[Around.under_plain (weight_type_call_type "set" [.ref l] []) rfl])
 have h1:=Do.notType
 have h2:=Do.canCreate
 have hct:=PySem.F.typeCall_set_1 (.ref l)
 (repeat (any_goals (first | assumption | wp_step)))
 refine G2 (mW (.ref l) (E:=E) (Q1:=λob s1=>∃led:Bool,led=Uu w/\ob=.ref s.heap.objs.size/\s1={ s with heap:=s.heap.push (CP led) }) ⟨_,rfl,rfl,rfl⟩) λr s1 hr=>?_
 cases r with
 | error e=>exact hr
 | ok fl=>
  cases fl with
  | ret ob=>
   obtain⟨led,hled,rfl,rfl⟩:=hr;have hS:(s.heap.push (CP led)).get? s.heap.objs.size=some (CP led):=Bg _ rfl;have hT:Shared.TypeIs { s with heap:=s.heap.push (CP led) } (.ref s.heap.objs.size) "set" := ⟨_,hS,rfl⟩;have hli:=Do.init.lookup;have hbi:=Do.init.bind (.ref s.heap.objs.size);(repeat (any_goals (first | assumption | wp_step)));refine G2 (codeAny_call_builtin (R:=wants (λr s2=>r=.none/\∃h' tk,s2={ s with heap:=h',toks:=tk }/\SetG knd h' s.heap.objs.size (λx=>decide (x∈SK.dd val items.size)) (SK.dd val items.size).length /\ (∀b o,s.heap.get? b=some o->h'.get? b=some o)) E) Do.init.plain PySem.F.entry_set_init (check_set_init_1 hT ?_)) λr2 s2 hr2=>?_
   ·obtain⟨⟨ocls,odict,odata,oslots⟩,hol,hcl,nl,hdl⟩:=hl;simp only at hcl hdl;subst hcl hdl;have hol':(s.heap.push (CP led)).get? l=some { cls:=.type "list",dict:=odict,data:=.seq items nl,slots:=oslots }:=AU _ hol;have x1:=PySem.F.sub_list_set;have x2:=V1;have x3:(Value.type "list" == Value.type "dict")=false:=by decide
    have hl1:(s.heap.push (CP led)).IsList l items:=⟨_,hol',rfl,nl,rfl⟩;(unfold Builtin.«set.__init__» noKeywords Builtin.Frozenset.updateFrom);generalize hPI:pyIter=PI;wp_walk;subst hPI;(refine LK hl1 ?_);(refine Ae (Ob ?_));have lt:l<s.heap.objs.size:=A1 hol;have sz:(s.heap.push (CP led)).objs.size=s.heap.objs.size+1:=G7 ..;(have hh3:A.in1.in1.in1.handled=none:=by simp[hh]);have ne1:l≠(s.heap.push (CP led)).objs.size:=by rw[sz];exact Be (G5 lt)
    have nS:s.heap.objs.size∉[(s.heap.push (CP led)).objs.size,l]:=by rw[sz];simp only[AL,Cn,Ck,not_or];exact⟨Be (G3 _),Er lt⟩
    refine QR (knd:=knd) ((Walks.list hh3 _ l ne1 items).toS) s.heap.objs.size nS val hv hb (items.size-0) 0 _ (by lia) (A5 _) ⟨⟨_,Bg _ rfl,rfl,rfl⟩,hl1.push _⟩ ?_ λs3 hm q3=>?_
    ·have g:=AU ({ cls:=.type "list_iterator",data:=.fields #[.ref l,.int 0 0] }:Obj) hS;exact⟨_,_,_,g,λe he=>by simp at he,λx=>by simp[SK.dd],by decide,by rfl,rfl,Yp,hled⟩
    obtain⟨h3,g3,d3,tk3,os3⟩:=s3;obtain⟨m1,m2,m3,m4,m5⟩:=hm;have eg:g3=s.gens:=m2;have ed:d3=s.drawn:=m3;have es:os3=s.os:=m4;subst eg ed es;refine An (An ⟨rfl,h3,tk3,rfl,q3,λb o e=>m1 b o ?_ (AU _ (AU _ e))⟩);have lb:b<s.heap.objs.size:=A1 e;rw[sz];simp only[AL,Cn,Ck,not_or];exact⟨Be lb,Be (G5 lb)⟩
   cases r2 with
   | error e=>exact hr2
   | ok fl2=>
    cases fl2 with
    | ret r=>obtain⟨rfl,h',tk,rfl,a1,a2⟩:=hr2;(repeat (any_goals (first | assumption | wp_step)));exact q _ _ a1 a2
    | _=>exact hr2.elim
  | _=>exact hr.elim
end
end SG
namespace L2
open PySem PyProof.Rows
section
variable {X:Cx}
def Inv.dr (d:Drawn)(I:Inv X aa σ H s):Inv X aa σ H { s with drawn:=d }:=⟨I.ok,I.os,I.bare,I.base,I.loc,I.cell,I.free,I.freeC,I.pin,I.hok,I.len⟩
def Uk {κ:Type}[DecidableEq κ](ks:List κ)(x:κ):Bool:=decide (x∈ks)
def memB_iff {κ:Type}[DecidableEq κ]{ks:List κ}{x:κ}:Uk ks x=true↔x∈ks:=decide_eq_true_iff
def Gj (P:Program)(w:World)(a:Addr)(ks:List Af):HO:=.ext λh=>SG.SetG (Bv P w) h a (Uk ks) ks.length
def nG (hc:X.calm=true):Cp X (.type "set") (λxs H Q=>∃p ks,xs=[.ref p]/\SqL X.K H p (ks.map kV)/\ks.length<=1000/\∀a,H a=none->Q (.ref a) (Ab H a (Gj X.prog X.w a (SK.dd (BV ks) ks.length)))):=by
 intro aa s σ H xs us Q I r h;obtain⟨p,ks,rfl,hp,hk,q⟩:=h;obtain⟨u,rfl,ru⟩:=CB r;cases ru;obtain⟨its,rv,pl,hz⟩:=I.list hp;have hlen:=rv.length;rw[Ak]at hlen;refine SG.make (knd:=Bv X.prog X.w) (val:=BV ks) (I.ok.hd hc) pl.isList (λi v hv=>?_) (by rw[BB];unfold scanBound;lia) λh' tk hS kp=>?_
 ·have hi:its[i]? = some v:=by simpa using hv
  have hib:i<ks.length:=by have:=(AG.mp hi).1;lia
  obtain⟨u',hu',ru⟩:=rv.get (i:=i) (x:=kV ks[i]) (by simp[hib]);rw[hi]at hu';cases hu';have e:BV ks i=ks[i]:=by simp[BV,List.getD,hib]
  rw[e];refine⟨Ek ru,?_⟩;cases hkk:ks[i]with
  | inl j=>rw[hkk]at ru;obtain⟨t,rfl⟩:=ru;rfl
  | inr y=>rw[hkk]at ru;obtain⟨t,rfl⟩:=ru;rfl
 have es:its.toArray.size=ks.length:=by simp[hlen]
 rw[es]at hS;refine⟨.ref _,_,I.laid (a:=s.heap.objs.size) (o:=Gj X.prog X.w s.heap.objs.size (SK.dd (BV ks) ks.length)) kp (Au _) ⟨hS,?_,λh1 h2 f1 e=>SG.kept f1 e⟩,rfl,q _ (I.hok.fresh (Au _))⟩;obtain⟨es,_,_,e,_⟩:=hS;exact⟨_,e⟩
theorem Si:∀{ns:List Int}{us:List Value},IntsAre us ns->Vals (ns.map V.int) us
 | _,_,.nil=>.nil
 | _,_,.cons _ t r=>.cons ⟨t,rfl⟩ (Si r)
def nE (hc:X.calm=true):Cp X (.builtin "sorted") (λxs H Q=>∃(a:Addr) (ns:List Int),xs=[.ref a]/\H a=some (Gj X.prog X.w a (ns.map Sum.inl))/\ns.Nodup/\ns.length<64/\∀(l:Addr) (zs:List Int),H l=none->zs.Perm ns->zs.Pairwise (·<=·)->Q (.ref l) (Ab H l (.lst (zs.map V.int)))):=by
 intro aa s σ H xs us Q I r h;obtain⟨a,ns,rfl,ha,nd,hz,q⟩:=h;obtain⟨u,rfl,ru⟩:=CB r;cases ru;obtain⟨⟨es,ep,t,ho,i⟩,_,_⟩:=I.hok a _ ha;have sz:=i.sz;rw[Ak]at sz
 have key:∀e∈es.toList,∃n t,n∈ns/\e.2=.int n t:=λe he=>by
  obtain⟨⟨k,hk,_⟩,_⟩:=i.el e he;have hm:=memB_iff.mp ((i.me k).mpr ⟨e,he,hk⟩);obtain⟨n,hn,rfl⟩:=Bi.mp hm;rcases Dy (show Ej (.inl n) e.2=true from hk)with⟨j,t,e1,e2⟩ | ⟨y,t,e1,e2⟩
  ·cases e1;exact⟨n,t,hn,e2⟩
  cases e1
 have pm:(es.toList.map λe=>SG.iv e.2).Perm ns:=by
  refine SG.perm_of nd (λx hx=>?_) (by rw[Ak,DY];lia);obtain⟨e,he,hk⟩:=(i.me (.inl x)).mp (memB_iff.mpr (Cy hx));rcases Dy (show Ej (.inl x) e.2=true from hk)with⟨j,t,e1,e2⟩ | ⟨y,t,e1,e2⟩
  ·cases e1;exact Bi.mpr ⟨e,he,by rw[e2];rfl⟩
  cases e1
 refine SG.sorted_set (I.ok.hd hc) i.gd i.ft (by lia) ho (λe he=>?_) λh' d tk c D out zs a1 a2 a3 a4 a5 a6=>?_
 ·obtain⟨n,t,_,e2⟩:=key e he;exact⟨t,by rw[e2];rfl⟩
 have pz:=a2.trans pm;have hl:=pz.length_eq;have hs:sizeLine=16777216:=AK;refine⟨.ref _,_,(I.laid (a:=D) (o:=.lst (zs.map V.int)) (t':=tk) a6 a5 ⟨by rw[Ak];lia,out.toList,c,Si a1,by simpa using a4⟩).dr d,rfl,q _ _ (I.hok.fresh a5) pz a3⟩
def T5 (hu:X.A.units+64<cLine):Bt X (compareOp .NotEq) (λx y H Q=>∃(a b:Addr) (us vs:List V) (ds es:List PyData),x=.ref a/\y=.ref b/\H a=some (.lst us)/\H b=some (.lst vs)/\RdVs H us ds/\RdVs H vs es /\
  PySem.SeqAt.shaped (.list ds)=true/\PySem.SeqAt.shaped (.list es)=true/\Q (.bl (!PyData.eqv (.list ds) (.list es))) H):=by
 intro aa s σ H x y v u Q I rx ry h
 obtain⟨a,b,us,vs,ds,es,rfl,rfl,ha,hb,rd,re,h1,h2,q⟩:=h
 cases rx
 cases ry
 obtain⟨as,ra⟩:=Qc I.hok ha rd
 obtain⟨bs,rb⟩:=Qc I.hok hb re
 exact RY ra rb h1 h2 hu ⟨.bl _,H,I,rfl,q⟩
end
section
variable {X:Cx}
def CA (v a:Addr):HO:=.ext λh=>h.IsItemsView v a
def gM:He X "dict.items" (λx xs H Q=>∃a kvs,x=.ref a/\xs=[]/\H a=some (.dK kvs)/\∀v,H v=none->Q (.ref v) (Ab H v (CA v a))):=by intro aa s σ H x xs v us Q I rx rv h;obtain⟨a,kvs,rfl,rfl,ha,q⟩:=h;cases rx;cases rv;obtain⟨hz,hm,vs,hkv,hd⟩:=F3 I.hok ha;refine Ge Oy hd.typeIs PySem.F.entry_dict_items (VX _) (meets_dict_items (Bv X.prog X.w) a hm) ⟨⟨vs,hd⟩,?_⟩;refine⟨.ref s.heap.objs.size,_,I.laid (t':=s.toks) (o:=CA s.heap.objs.size a) (λb o e=>AU _ e) (Au _) ⟨⟨_,Bg _ rfl,rfl,rfl⟩,⟨_,Bg _ rfl⟩,λh1 h2 f e=>?_⟩,rfl,q _ (I.hok.fresh (Au _))⟩;obtain⟨o,ho,r⟩:=f;exact⟨o,e o ho,r⟩
def J4 (a:Addr)(o:Obj)(kvs:List (Af×V)):It:=
 ⟨λi H=>i<kvs.length/\H a=some (.frz o (.dK kvs)),λi H x H'=>∃p k v,x=.ref p/\H p=none/\H'=Ab H p (.tup [kV k,v])/\kvs[i]? = some (k,v),λi H=>kvs.length<=i/\H a=some (.frz o (.dK kvs))⟩
theorem Su {P:Program}{w:World}{K:W.Frag}{elts:List Expr}{x1}{tp:Pos}(it a:Addr)(o:Obj)(kvs:List (Af×V))(es:Array DictEntry)(ep:Nat)(hd:o.data=.dict es ep) :
  FG P w K (.Tuple elts x1 tp) (J4 a o kvs) [it] it (λi h=>∃ok ov,IsItemIter h it a i kvs.length ep ok ov) where
 mem:=by simp
 obj:=λi h st b hb=>by
  have e:b=it:=by simpa using hb
  subst e;obtain⟨_,_,st⟩:=st;exact⟨_,st,λv z=>nomatch z⟩
 keep:=λi h h' st k=>by obtain⟨ok,ov,st⟩:=st;exact⟨ok,ov,k it (by simp) _ st⟩
 item:=by
  intro X hP hw hK hc i aa s σ H E I hf st hg;subst hP hw hK;obtain⟨hi,ha⟩:=hg;obtain⟨ok,ov,st⟩:=st;obtain⟨vs,hkv,hat⟩:=NO I ha hd;have hl:=hkv.length;have hx:kvs[i]? = some (kvs[i].1,kvs[i].2):=AH hi;obtain⟨u,hu,ru⟩:=KV.get2 hkv hx;rw[hl]at st;have tz:s.heap.objs.size≠it:=Er (A1 st);refine wpAny_pyNext_items_item (knd:=Bv X.prog X.w) st hat hu λkey h' hk hout ht hsz kk=>?_;refine⟨_,rfl,wpAny_letOwnedTupleGo_items (s:={ s with heap:=h' }) hout λh'' g6 sb=>?_⟩
  have rk:RelV (kV kvs[i].1) key:=by
   rcases Dy (show Ej kvs[i].1 key=true from hk)with⟨j,t,e1,e2⟩ | ⟨y,t,e1,e2⟩
   ·rw[e1,e2];exact⟨t,rfl⟩
   rw[e1,e2];exact⟨t,rfl⟩
  have kall:∀c o,c∉[it]->s.heap.get? c=some o->h''.get? c=some o:=λc o hc e=>by have hc':c≠it:=λz=>hc (by rw[z];exact AX.mpr rfl);exact sb.extBut _ _ hc' (kk c o hc' e)
  have new:ObjOk X.prog X.w (Ab H s.heap.objs.size (.tup [kV kvs[i].1,kvs[i].2])) h'' s.heap.objs.size (.tup [kV kvs[i].1,kvs[i].2]):=
   ⟨by show 2<=sizeLine;decide,[key,u],.cons rk (.cons ru .nil),_,sb.extBut _ _ tz ht,rfl,0,rfl⟩
  have fr:H s.heap.objs.size=none:=I.hok.fresh (Au _);rw[<- hl]at g6;refine⟨.ref s.heap.objs.size,_,I.stepN (t':=s.toks) hf kall new,rfl,⟨_,_,_,rfl,fr,rfl,hx⟩,⟨_,_,g6⟩,λc hc=>?_⟩;have e:c=it:=by simpa using hc
  rw[Ai (by rw[e];exact tz.symm)];exact(hf c hc).1
 done:=by intro X hP hw hK hc i aa s σ H E I hf st hg;subst hP hw hK;obtain⟨hi,ha⟩:=hg;obtain⟨ok,ov,st⟩:=st;obtain⟨vs,hkv,hat⟩:=NO I ha hd;have hl:=hkv.length;rw[hl]at st;exact wpAny_pyNext_items_end (knd:=Bv X.prog X.w) (I.ok.hd hc) st hat (Ru (by lia)) λh' eb=>⟨rfl,I.stepL (t':=s.toks) hf λc o hc e=>eb c o (λz=>hc (by rw[z];exact AX.mpr rfl)) e⟩
 self:=λ_ _ _ _ _ st h=>by obtain⟨ok,ov,st⟩:=st;refine LH ⟨_,st,rfl⟩ V4 (CV V4 ⟨_,st,rfl⟩ PySem.W.kcp_entry ?_ (PySem.F.args_dict_itemiterator_iter_1 _));show wpAny _ _ (ret (.ref it)) _ _ _;exact An ⟨_,rfl, "dict_itemiterator",_,⟨_,st,rfl⟩,PySem.F.slot_dict_itemiterator_next.lookup,h⟩
end
end L2
namespace EN
open PySem PyProof.Rows
theorem draws (hh:A.handled=none)(it l:Addr)(hne:l≠it)(items:Array Value) :
  Draws prog w A it [it,l] items.size (λi v=>items[i]? = some v) (λi h=>h.IsTupleIter it l i/\h.IsTuple l items) where
 live:=λ_ _ st=>by obtain⟨⟨o,ho,_⟩,_⟩:=st;exact⟨o,ho⟩
 frame:=λ_ _ _ st hk=>by obtain⟨⟨o,ho,r⟩,o2,ho2,r2⟩:=st;exact⟨⟨o,hk it (by simp) o ho,r⟩,o2,hk l (by simp) o2 ho2,r2⟩
 item:=λi s Q E hi st hq=>by refine ZT.next_item st.1 st.2 (v:=items[i]) (by simp[hi]) λh' hit' hs'=>?_;exact hq _ h' s.toks (by simp[hi]) ⟨hit',st.2.extBut hs'.extBut hne⟩ hs'
 done:=λs Q E st hE=>ZT.next_end hh st.1 st.2 (by simp) hE
abbrev oE (it:Addr):Obj:={ cls:=.type "enumerate",data:=.fields #[.none,.bool false,.ref it,rawInt 0,.none,.none] }
def make (l:Addr)(items:Array Value) :
  Meets (Builtin.«enumerate.__new__» ⟨[.type "enumerate",.ref l],[]⟩) (λ_ R s=>s.heap.IsTuple l items /\ R (.ok (.ret (.ref (s.heap.push (ZT.zI l)).objs.size))) { s with heap:=(s.heap.push (ZT.zI l)).push (oE s.heap.objs.size) }):=
 .of_wp λprog w A R s h=>by
  (obtain⟨hp,g,d,tk,os⟩:=s);obtain⟨hl,h⟩:=h;have hsub:=sub_enumerate;have hT:Heap.IsTuple (Shared.heap ⟨hp,g,d,tk,os⟩) l items:=hl;obtain⟨⟨c,dct,dt,sl⟩,ho,hc,n,hd⟩:=id hl;replace hc:c=.type "tuple" := hc;replace hd:dt=.seq items n:=(hd);subst hc hd;wp_walk using OA ho;(refine wpAny_stack_any λst=>An ?_);split
  ·rename_i c _ _ _ _ _;cases ((c == Value.type "enumerate"))
   ·wp_walk using OA ho,Ot hT;exact⟨_,rfl,h⟩
   wp_walk using OA ho,Ot hT;exact⟨_,rfl,h⟩
  wp_walk using OA ho,Ot hT;exact⟨_,rfl,h⟩
end EN
namespace L2
open PySem PyProof.Rows
section
variable {X:Cx}
def J5 (K:W.Frag)(a:Addr):It:=
 ⟨λi H=>∃xs x,SqT K H a xs/\xs[i]? = some x,λi H v H'=>∃p x,v=.ref p/\H p=none/\H'=Ab H p (.tup [.int (i:Nat),x])/\∀xs,SqT K H a xs->xs[i]? = some x,λi H=>∃xs,SqT K H a xs/\xs.length=i⟩
theorem Ww {P:Program}{w:World}{K:W.Frag}{elts:List Expr}{x1}{tp:Pos}(e it a:Addr)(hne:e≠it):FG P w K (.Tuple elts x1 tp) (J5 K a) [e,it] e (λi h=>(∃old,IsEnum h e it (i:Nat) old)/\h.IsTupleIter it a i) where
 mem:=by simp
 obj:=λn h st c hc=>by
  obtain⟨⟨old,h1⟩,o4,e4,_,d4⟩:=st;simp only[AL,Cn,Ck]at hc;rcases hc with rfl | rfl
  ·exact⟨_,h1,λv e=>nomatch e⟩
  exact⟨_,e4,λv e=>by rw[d4]at e;cases e⟩
 keep:=λn h h' st k=>by obtain⟨⟨old,h1⟩,o4,e4,r4⟩:=st;exact⟨⟨old,k e (by simp) _ h1⟩,o4,k it (by simp) _ e4,r4⟩
 item:=by
  intro X hP hw hK hc n aa s σ H E I hf st hg;subst hP hw hK;obtain⟨xs,x,qa,hx⟩:=hg;obtain⟨⟨old,h1⟩,h4⟩:=st;obtain⟨its,rv,pa,_⟩:=I.tuple qa;obtain⟨u,hu,ru⟩:=rv.get hx;have off:∀c∈[e,it],a≠c:=λc hc z=>I.fpT qa (z ▸ hf c hc);have ne1:=off e (by simp);have ne2:=off it (by simp);have hl:n<its.toArray.size:=by have:=(AG.mp hu).1;simpa using this
  have tz:s.heap.objs.size≠e:=Er (A1 h1);refine wpAny_pyNext_enum_itemD (EN.draws (A:=X.A.in1) (show X.A.in1.handled=none from I.ok.hd hc) it a ne2 its.toArray) h1 ⟨h4,(show s.heap.IsTuple a its.toArray from pa)⟩ hl hne (by simp only[AL,Cn,Ck,not_or];exact⟨hne,ne1.symm⟩) λy h' tk hP hout hst' ht hsz kk=>?_
  have hy:y=u:=by
   have h2:its[n]? = some y:=by simpa using hP
   rw[hu]at h2;exact(Bs h2).symm
  subst hy;refine⟨_,rfl,wpAny_letOwnedTupleGo_enum (s:={ s with heap:=h',toks:=tk+1 }) hout λh'' g6 sb=>?_⟩;have kall:∀c o,c∉[e,it]->s.heap.get? c=some o->h''.get? c=some o:=λc o hc z=>by simp only[AL,Cn,Ck,not_or]at hc;exact sb.extBut _ _ hc.1 (kk c o hc.1 hc.2 z)
  have new:ObjOk X.prog X.w (Ab H s.heap.objs.size (.tup [.int (n:Nat),x])) h'' s.heap.objs.size (.tup [.int (n:Nat),x]):=
   ⟨by show 2<=sizeLine;decide,[.int n tk,y],.cons ⟨tk,rfl⟩ (.cons ru .nil),_,sb.extBut _ _ tz ht,rfl,0,rfl⟩
  have fr:H s.heap.objs.size=none:=I.hok.fresh (Au _);obtain⟨oi,ei,ri⟩:=hst'.1;have lt2:it<s.heap.objs.size:=by obtain⟨o4,e4,_⟩:=h4;exact A1 e4
  refine⟨.ref s.heap.objs.size,_,I.stepN (t':=tk+1) hf kall new,rfl,⟨_,x,rfl,fr,rfl,λzs hz=>by rw[I.tuple_inj hz qa];exact hx⟩,⟨⟨_,by simpa using g6⟩,oi,sb.extBut _ _ hne.symm ei,ri⟩,λc hc=>?_⟩
  have hcn:c≠s.heap.objs.size:=by
   simp only[AL,Cn,Ck]at hc;rcases hc with rfl | rfl
   ·exact tz.symm
   exact Be lt2
  rw[Ai hcn];exact(hf c hc).1
 done:=by
  intro X hP hw hK hc n aa s σ H E I hf st hg;subst hP hw hK;obtain⟨xs,qa,hx⟩:=hg;obtain⟨⟨old,h1⟩,h4⟩:=st;obtain⟨its,rv,pa,_⟩:=I.tuple qa;have hl:=rv.length;have hsz:its.toArray.size=n:=by simp;lia
  have off:∀c∈[e,it],a≠c:=λc hc z=>I.fpT qa (z ▸ hf c hc);refine wpAny_pyNext_enum_endD (EN.draws (A:=X.A.in1) (show X.A.in1.handled=none from I.ok.hd hc) it a (off it (by simp)) its.toArray) h1 ⟨by rw[hsz];exact h4,(show s.heap.IsTuple a its.toArray from pa)⟩ λh' eb=>⟨rfl,I.stepL (t':=s.toks) hf λc o hc z=>eb c o (λq=>hc (by rw[q];simp)) z⟩
 self:=λ_ _ _ _ _ st h=>by obtain⟨⟨old,h1⟩,_⟩:=st;exact wpAny_pyIter_enum h1 h
def jU (K:W.Frag)(ta:TA):TI:=λσ H R=>ta σ H λvs H1=>∃a,vs=[.ref a]/\(∃xs,SqT K H1 a xs)/\R (J5 K a) H1
def Qn {x1}(hg:Gl X "enumerate")(hm:X.mg "enumerate" = none)(hv:bootBuiltins "enumerate" = some (.type "enumerate"))(ha:PA X [a] ta)
  (hs:starEach [a] X.env=[(false,eval a X.env)]:=by rfl):PI X (.Tuple elts x1 tp) (.Call (.Name "enumerate" p) [a] [] pos) (jU X.K ta):=by
 intro aa s σ H R I h
 refine Call_ (HS I hg hm hv (LW (Aw (ha pos aa s σ H _ I h) λus s1 hp0=>?_) (by rw[hs];rfl) (by rfl)))
 obtain⟨vs,H1,I1,r1,q1⟩:=hp0
 obtain⟨x,rfl,⟨xs,qa⟩,q⟩:=q1
 obtain⟨u,rfl,ru⟩:=CB r1
 cases ru
 obtain⟨its,r2,pa,_⟩:=I1.tuple qa
 refine callType_new F.called_enumerate (by decide) (F.typeCall_enumerate_1 _) (F.newCall_enumerate_1 _) (λobj=>RL obj _) F.entry_enumerate_new (EN.make x its.toArray) ⟨show s1.heap.IsTuple x its.toArray from pa,?_⟩
 have e1:(s1.heap.push (ZT.zI x)).objs.size=s1.heap.objs.size+1:=G7 ..
 have g2:((s1.heap.push (ZT.zI x)).push (EN.oE s1.heap.objs.size)).get? (s1.heap.push (ZT.zI x)).objs.size=some _:=Bg _ rfl
 have g1:((s1.heap.push (ZT.zI x)).push (EN.oE s1.heap.objs.size)).get? s1.heap.objs.size=some _:=AU _ (Bg _ rfl)
 have kept:∀c o,s1.heap.get? c=some o->((s1.heap.push (ZT.zI x)).push (EN.oE s1.heap.objs.size)).get? c=some o:=λc o e=>AU _ (AU _ e)
 show _/\_
 refine⟨⟨_,g2,rfl⟩,wpAny_pyIter_enum (i:=0) (old:=.none) g2 ⟨_,[_,_],_,_,H1,rfl,I1.kept (t':=s1.toks) kept,Ww _ s1.heap.objs.size x (by rw[e1];exact Er (G3 _)),⟨⟨_,g2⟩,_,g1,rfl,rfl⟩,λc hc=>?_,q⟩⟩
 have hc':s1.heap.objs.size<=c:=by simp only[AL,Cn,Ck]at hc;rcases hc with e | e <;> (rw[e];show @LE.le Nat _ _ _;lia)
 exact I1.fpOk hc' (I1.hok.fresh hc')
end
mutual
/-- what a value reads as,lists too -/
inductive RdW (H:Hp):V->PyData->Prop
 | flat {x:V}{d:PyData}:RdV H x d->RdW H x d
 | lst {a:Addr}{xs:List V}{ds:List PyData}:H a=some (.lst xs)->RdWs H xs ds->RdW H (.ref a) (.list ds)
inductive RdWs (H:Hp):List V->List PyData->Prop
 | nil:RdWs H [] []
 | cons {x:V}{d:PyData}{xs:List V}{ds:List PyData}:RdW H x d->RdWs H xs ds->RdWs H (x::xs) (d::ds)
end
mutual
theorem RdW.reads (ok:HOk P w H h):∀{x:V}{d:PyData}{u:Value},RdW H x d->RelV x u->∃as,Reads h u d as
 | _,_,_,.flat r,ru=>r.reads ok ru
 | _,_,u,.lst (a:=a) e r,ru=>by obtain rfl:u=Value.ref a:=ru;obtain⟨z,its,n,rv,ho⟩:=ok _ _ e;obtain⟨as,ra⟩:=RdWs.reads ok r rv;exact⟨_,.list ho rfl rfl (by simpa using ra)⟩
theorem RdWs.reads (ok:HOk P w H h):∀{xs:List V}{ds:List PyData}{us:List Value},RdWs H xs ds->Vals xs us->∃as,ReadsAll h us ds as
 | _,_,_,.nil,r=>by cases r;exact⟨_,.nil⟩
 | _,_,_,.cons r rs,v=>by
  cases v with
  | cons ru rv=>obtain⟨as,ra⟩:=RdW.reads ok r ru;obtain⟨bs,rb⟩:=RdWs.reads ok rs rv;exact⟨_,.cons ra rb⟩
end
theorem RdWs.of :∀{xs:List V}{ds:List PyData},RdVs H xs ds->RdWs H xs ds
 | _,_,.nil=>.nil
 | _,_,.cons r rs=>.cons (.flat r) (RdWs.of rs)
section
variable {X:Cx}
def YK (neg:Bool):R2:=λx y H Q=>∃d e,RdW H x d/\RdW H y e/\PySem.SeqAt.shaped d=true/\PySem.SeqAt.shaped e=true/\Q (.bl (neg ^^ PyData.eqv d e)) H
def Zr (hu:X.A.units+64<cLine):Bt X (compareOp .NotEq) (YK true):=by intro aa s σ H x y v u Q I rx ry h;obtain⟨d,e,rd,re,h1,h2,q⟩:=h;obtain⟨as,ra⟩:=rd.reads I.hok rx;obtain⟨bs,rb⟩:=re.reads I.hok ry;refine RY ra rb h1 h2 hu ⟨.bl _,H,I,rfl,?_⟩;rw[Bool.true_xor]at q;exact q
end
end L2
namespace DP
open PySem PyProof.Rows
def iF:typeLookup (.type "list") "keys" = pure none:=by rw[E9,Fb];kernel_rfl
def Va:entryFor table "dict.update.loop" = some Builtin.«dict.update.loop»:=entryFor_of_fast (by kernel_rfl)
def Nd:plainId "dict.update.loop" = true:=by decide +kernel
section
variable {prog:Program}{w:World}{A:Around}{E:Value->Shared->Prop}{s:Shared}
def iS (hh:A.handled=none)(ho:s.heap.get? a=some { cls:=.type "list",dict:=none,data:=.seq its n,slots:=#[] })
  (q:∀h' t',(∀b u,s.heap.get? b=some u->h'.get? b=some u)->Q none { s with heap:=h',toks:=t' }):wpAny (model prog w) A (getAttr? (.ref a) "keys") Q E s:=by
 (obtain⟨hp,g,d,tk,os⟩:=s)
 have ty:∀k,(⟨hp,g,d,k,os⟩:Shared).TypeIs (.ref a) "list" := λ_=>⟨_,ho,rfl⟩
 have f1:=sub_AttributeError
 (have f3:=RS.lookup)
 (have f4:=RS.bind (.ref a))
 (have f5:=am_list_getattr_none)
 (unfold getAttr? getAttrBy? getAttrBy)
 repeat (any_goals (first | assumption | exact ty _ | ((with_reducible show wpAny _ _ (call (Value.builtin "list.__getattribute__") _ _) _ _ _);refine GU RS (ty _) am_entry_list_getattribute (F.args_list_getattribute_2 _ _) (meets_getattribute_miss_list a its n #[] "keys" _ iF (by decide +kernel) (by rw[AK];decide +kernel)) ⟨ho,hh,λh9 k9 e9 x9=>?_⟩) | wp_step))
 obtain⟨t8,u8,he⟩:=x9.there
 have kp:=x9.of
 (show wpAny _ _ (getattributeRaised _ _ _ _ _ _ _) _ _ _)
 unfold getattributeRaised
 (repeat (any_goals (first | assumption | wp_step)))
 exact q _ _ x9.keeps
end
section
variable {prog:Program}{w:World}{κ:Type} [DecidableEq κ] {knd:KeyKind prog w κ}{A:Around}{R:Result->Shared->Prop}
def put (kvs:List (κ×Value)):List (κ×Value):=kvs.foldl (λacc p=>stored acc p.1 p.2) []
def YW (kvs:List (κ×Value))(p:κ×Value):put (kvs++[p])=stored (put kvs) p.1 p.2:=by unfold put;rw[List.foldl_append];rfl
def Xh (kvs:List (κ×Value))(k:κ)(v:Value):(stored kvs k v).length<=kvs.length+1:=by
 unfold stored;split
 ·rw[Ak];lia
 rw[AY];exact Au _
def YX:∀kvs:List (κ×Value),(put kvs).length<=kvs.length:=by
 have go:∀(kvs acc:List (κ×Value)),(kvs.foldl (λacc p=>stored acc p.1 p.2) acc).length<=acc.length+kvs.length:=by
  intro kvs;induction kvs with
  | nil=>exact λacc=>Au _
  | cons p r ih=>intro acc;have h1:=ih (stored acc p.1 p.2);have h2:=Xh acc p.1 p.2;(rw[JI,CS]);lia
 intro kvs;have:=go kvs [];rw[length_nil,N3]at this;exact this
def loop {I l D:Addr}{items:Array Value}{kvs:List (κ×Value)}{h0:Heap}(hh:A.in1.handled=none)(n1:l≠I)(n2:D≠I)(n3:D≠l)(hz:kvs.length<=1000000)(hl:items.size=kvs.length)
  (tup:∀(i:Nat) (k:κ) (v:Value),kvs[i]? = some (k,v)->∃t key n o,items[i]? = some (.ref t)/\t≠D/\t≠I/\knd.is k key=true/\h0.get? t=some o/\o.cls=.type "tuple" /\ o.data=.seq #[key,v] n) :
  ∀(m i:Nat) (s:Shared),kvs.length-i=m->i<=kvs.length->s.heap.IsListIter I l i->s.heap.IsList l items->s.heap.DictOf knd D (put (kvs.take i))->(∀b o,b≠D->b≠I->h0.get? b=some o->s.heap.get? b=some o) ->
   (∀(h':Heap) (t':Nat),h'.DictOf knd D (put kvs)->(∀b o,b≠D->b≠I->s.heap.get? b=some o->h'.get? b=some o)->R (.ok (.ret .none)) { s with heap:=h',toks:=t' }) ->
   codeAny (model prog w) A (.builtin "dict.update.loop" ⟨[.ref D,.ref I,.int (i:Nat) 0,.none],[]⟩) R s:=by
 intro m
 induction m with
 | zero=>
  intro i s hm hi st hL hd kp fin;obtain rfl:i=kvs.length:=by lia
  rw[BP]at hd;refine DF Va ?_;rw[Eo Nd _];refine Ae (m:=pyNext (.ref I)) (wpAny_pyNext_list_end hh st hL (by simp[hl]) λh1 e1=>?_);show wpAny _ _ (Builtin.Dict.addKeywords D [] >>= λ_=>ret Value.none) _ _ _;refine Ae (m:=Builtin.Dict.addKeywords D []) (An (An (fin h1 s.toks ?_ λb o c1 c2 e=>e1 b o c2 e)));exact hd.extBut e1 n2
 | succ m ih=>
  intro i s hm hi st hL hd kp fin;have lt:i<kvs.length:=by lia
  obtain⟨t,key,n,o,hit,td,tI,hk,ht,hcl,hdt⟩:=tup i kvs[i].1 kvs[i].2 (AH lt);have ht1:=kp t _ td tI ht;refine DF Va ?_;rw[Eo Nd _];refine Ae (m:=pyNext (.ref I)) (wpAny_pyNext_list_item st hL hit λh1 st1 sb=>?_);have ht2:=sb.extBut _ _ tI ht1;have e1:put (kvs.take (i+1))=stored (put (kvs.take i)) kvs[i].1 kvs[i].2:=by rw[BF lt,YW]
  have hln:=YX (kvs.take i);rw[Bu]at hln;refine Ae (DE (Ae (wpAny_tryCatch ?_)));unfold Builtin.Dict.pairItems;refine Ae (G1 (T := "tuple") ⟨_,ht2,hcl⟩ ?_);rw[As (by decide)];refine Ae (JM ht2 hdt (An ?_));refine DE (wpAny_dictSet_pairs (s:={ s with heap:=h1 }) hk (hd.sameBut sb n2) (λh2 hd2 sb2=>?_) (by rw[AK];lia));rw[<- e1]at hd2;refine An ⟨EJ Nd _,ih (i+1) _ (by lia) lt (st1.extBut sb2.extBut n2.symm) ((hL.extBut sb.extBut n1).extBut sb2.extBut n3.symm) hd2 (λb o c1 c2 e=>sb2.extBut _ _ c1 (sb.extBut _ _ c2 (kp b o c1 c2 e))) λh3 t3 d3 k3=>fin h3 t3 d3 λb o c1 c2 e=>k3 b o c1 c2 (sb2.extBut _ _ c1 (sb.extBut _ _ c2 e))⟩
end
section
variable {prog:Program}{w:World}{κ:Type} [DecidableEq κ] {knd:KeyKind prog w κ}{A:Around}{E:Value->Shared->Prop}{s:Shared}
def make (hh:A.handled=none)(ho:s.heap.get? l=some { cls:=.type "list",dict:=none,data:=.seq items n,slots:=#[] })(hz:kvs.length<=1000000)(hl:items.size=kvs.length)
  (tup:∀(i:Nat) (k:κ) (v:Value),kvs[i]? = some (k,v)->∃t key n o,items[i]? = some (.ref t)/\knd.is k key=true/\s.heap.get? t=some o/\o.cls=.type "tuple" /\ o.data=.seq #[key,v] n)
  (q:∀(h':Heap) (tk:Nat),h'.DictOf knd s.heap.objs.size (put kvs)->(∀b o,s.heap.get? b=some o->h'.get? b=some o)->Q (.ref s.heap.objs.size) { s with heap:=h',toks:=tk }) :
  wpAny (model prog w) A (call (.type "dict") [.ref l]) Q E s:=by
 refine callType_codes (Q₁:=λobj s1=>obj=.ref s.heap.objs.size/\s1={ s with heap:=s.heap.push { cls:=.type "dict",data:=.dict #[] } }) F.kt_called_dict (F.kt_typeCall_dict_1 _) F.entry_dict_init (kt_code_dict_new _ ⟨rfl,rfl⟩) ?_
 rintro obj s1 ⟨rfl,rfl⟩
 (have hnew:(s.heap.push { cls:=.type "dict",data:=.dict #[] }).DictOf knd s.heap.objs.size []:=Heap.DictOf.new s.heap)
 (refine⟨hnew.typeIs,F.args_dict_init_2 _ _,?_⟩)
 (unfold Builtin.«dict.__init__»)
 refine Ae ?_
 (unfold Builtin.Dict.selfAndRest)
 (refine Ae (wpAny_notOrdered_dict hnew.typeIs ?_))
 show wpAny _ _ (pure (s.heap.objs.size,[Value.ref l])) _ _ _
 refine An ?_
 show wpAny _ _ (Builtin.Dict.updateFrom "dict.__init__" s.heap.objs.size (.ref l) [] .none) _ _ _
 (unfold Builtin.Dict.updateFrom)
 have ho1:(s.heap.push { cls:=.type "dict",data:=.dict #[] }).get? l=some { cls:=.type "list",dict:=none,data:=.seq items n,slots:=#[] }:=AU _ ho
 refine Ae (G1 (T := "list") ⟨_,ho1,rfl⟩ ?_)
 rw[As (by decide)]
 refine Ae (iS (show A.in1.in1.handled=none from hh) ho1 λh2 t2 k2=>?_)
 rw[As (show(none:Option Value).isNone=true from rfl)]
 refine Ae (Ga ?_)
 have hL2:h2.IsList l items:=⟨_,k2 _ _ ho1,rfl,n,rfl⟩
 refine Ae (LK hL2 ?_)
 have lD:s.heap.objs.size<h2.objs.size:=by obtain⟨od,_,_,hod,_⟩:=hnew;exact A1 (k2 _ _ hod)
 have ll:l<s.heap.objs.size:=A1 ho
 have kp:∀b o,s.heap.get? b=some o->(h2.push { cls:=.type "list_iterator",data:=.fields #[.ref l,.int 0 0] }).get? b=some o:=λb o e=>AU _ (k2 _ _ (AU _ e))
 have hd2:(h2.push { cls:=.type "list_iterator",data:=.fields #[.ref l,.int 0 0] }).DictOf knd s.heap.objs.size []:=by obtain⟨od,es,ep,hod,r⟩:=hnew;exact⟨od,es,ep,AU _ (k2 _ _ hod),r⟩
 refine An ⟨EJ Nd _,loop (knd:=knd) (kvs:=kvs) (h0:=s.heap) (I:=h2.objs.size) (l:=l) (D:=s.heap.objs.size) (items:=items) (show A.in1.in1.handled=none from hh) (Be (Ib ll lD)) (Be lD) (Er ll) hz hl (λi k v e=>?_) (kvs.length-0) 0 _ rfl (A5 _) ⟨_,Bg _ rfl,rfl,rfl⟩ (hL2.push _) hd2 (λb o _ _ e=>kp b o e) λh3 t3 d3 k3=>⟨rfl,q h3 t3 d3 λb o e=>k3 b o (Be (A1 e)) (Be (Ib (A1 e) lD)) (kp b o e)⟩⟩
 obtain⟨t,key,n,o,a1,a2,a3,a4,a5⟩:=tup i k v e
 exact⟨t,key,n,o,a1,Be (A1 a3),Be (Ib (A1 a3) lD),a2,a3,a4,a5⟩
end
end DP
namespace L2
open PySem PyProof.Rows
section
variable {X:Cx}
def putAll (kvs:List (Af×V)):List (Af×V):=kvs.foldl (λacc p=>BL acc p.1 p.2) []
def KV.putAll:∀{kvs:List (Af×V)}{vs:List (Af×Value)},KV kvs vs->KV (L2.putAll kvs) (DP.put vs):=by
 have go:∀{kvs:List (Af×V)}{vs:List (Af×Value)}{a:List (Af×V)}{b:List (Af×Value)},KV kvs vs->KV a b->KV (kvs.foldl (λacc p=>BL acc p.1 p.2) a) (vs.foldl (λacc p=>stored acc p.1 p.2) b):=by
  intro kvs;induction kvs with
  | nil=>intro vs a b r ra;cases r;exact ra
  | cons p r ih=>
   intro vs a b rr ra;cases rr with
   | cons h t=>rw[JI,JI,<- h.1];exact ih t (ra.put _ h.2)
 intro kvs vs r;exact go r .nil
theorem Sh:∀{ts:List Addr}{us:List Value},Vals (ts.map V.ref) us->us=ts.map Value.ref
 | [],_,r=>by cases r;rfl
 | t::ts,_,r=>by
  cases r with
  | cons h q=>cases h;rw[Sh q];rfl
def YY (kvs:List (Af×V)):(L2.putAll kvs).length<=kvs.length:=by
 have go:∀(kvs a:List (Af×V)),(kvs.foldl (λacc p=>BL acc p.1 p.2) a).length<=a.length+kvs.length:=by
  intro kvs;induction kvs with
  | nil=>exact λa=>Au _
  | cons p r ih=>intro a;have h1:=ih (BL a p.1 p.2);have h2:=Ju a p.1 p.2;(rw[JI,CS]);lia
 have:=go kvs [];rw[length_nil,N3]at this;exact this
theorem TV (ok:HOk P w H h):∀(ts:List Addr) (kvs:List (Af×V)),ts.length=kvs.length->(∀(i:Nat) (t:Addr) (k:Af) (v:V),ts[i]? = some t->kvs[i]? = some (k,v)->H t=some (.tup [kV k,v])) ->
  ∃vs:List (Af×Value),KV kvs vs/\∀(i:Nat) (k:Af) (v:Value),vs[i]? = some (k,v)->∃t key n o,ts[i]? = some t/\(Bv P w).is k key=true/\h.get? t=some o/\o.cls=.type "tuple" /\ o.data=.seq #[key,v] n
 | [],[],_,_=>⟨[],.nil,λi k v e=>by simp at e⟩
 | [],_::_,hl,_=>by cases hl
 | _::_,[],hl,_=>by cases hl
 | t::ts,(k,v)::kvs,hl,hh=>by
  obtain⟨vs,r,q⟩:=TV ok ts kvs (Nat.succ.inj hl) λi t' k' v' h1 h2=>hh (i+1) t' k' v' (by simpa using h1) (by simpa using h2);obtain⟨z,its,rv,o,ho,hc,n,hd⟩:=ok t _ (hh 0 t k v rfl rfl);obtain⟨uk,uv,rfl,rk,rv'⟩:=L9 rv;refine⟨(k,uv)::vs,.cons ⟨rfl,rv'⟩ r,λi k' v' e=>?_⟩;cases i with
  | zero=>cases e;exact⟨t,uk,n,o,rfl,Ek rk,ho,hc,hd⟩
  | succ i=>obtain⟨t',key,n',o',b1,b2⟩:=q i k' v' (by simpa using e);exact⟨t',key,n',o',by simpa using b1,b2⟩
def VF (hc:X.calm=true):Cp X (.type "dict") (λxs H Q=>∃(p:Addr) (ts:List Addr) (kvs:List (Af×V)),xs=[.ref p]/\H p=some (.lst (ts.map V.ref))/\ts.length=kvs.length/\kvs.length<=1000 /\
  (∀(i:Nat) (t:Addr) (k:Af) (v:V),ts[i]? = some t->kvs[i]? = some (k,v)->H t=some (.tup [kV k,v]))/\∀d,H d=none->Q (.ref d) (Ab H d (.dK (putAll kvs)))):=by
 intro aa s σ H xs us Q I r h
 obtain⟨p,ts,kvs,rfl,hp,hl,hz,ht,q⟩:=h
 obtain⟨u,rfl,ru⟩:=CB r
 cases ru
 obtain⟨z,its,n,rv,hlen,e⟩:=I.lstM hp
 obtain⟨vs,rk,at'⟩:=TV I.hok ts kvs hl ht
 have ei:=Sh rv
 subst ei
 have hlv:=rk.length
 rw[Ak]at hlen
 refine DP.make (knd:=Bv X.prog X.w) (kvs:=vs) (I.ok.hd hc) e (by lia) (by rw[BB,Ak];lia) (λi k v ev=>?_) λh' tk hd kp=>?_
 ·obtain⟨t,key,n',o,b1,b2,b3,b4,b5⟩:=at' i k v ev;exact⟨t,key,n',o,by rw[Rt,AI,b1];rfl,b2,b3,b4,b5⟩
 have hp2:=YY kvs
 have hs:sizeLine=16777216:=AK
 have big:=I.big
 refine⟨.ref _,_,I.laid (a:=s.heap.objs.size) (o:=.dK (putAll kvs)) (t':=tk) kp (Au _) ⟨by lia,?_,_,KV.putAll rk,hd⟩,rfl,q _ (I.hok.fresh (Au _))⟩
 exact GH.mpr (Er big)
end
end L2
namespace LP
open PySem PyProof.Rows
end LP
namespace L2
open PySem PyProof.Rows
end L2
namespace RT
open PySem PyProof.Rows
def Qy:Manifest.owners.lookup (String.ofList ['d','e','s','r','e','v','e','r'].reverse)=some Manifest.sig_reversed:=by kernel_rfl
def slot_next:Slot "reversed" "__next__" "reversed.__next__" := .of (owner := "reversed") (n := "__next__") (by rw[E9,Fb];kernel_rfl) (by decide +kernel) (by decide +kernel) (by decide +kernel) (by first | exact .inl (by decide +kernel) | exact .inr (by decide +kernel)) (by rw[Gg];kernel_rfl)
def U8:entryFor table "reversed.__next__" = some Builtin.«reversed.__next__»:=entryFor_of_tree (by kernel_rfl)
def VR (a:Value):argsOk "reversed.__next__" ⟨[a],[]⟩:=by unfold argsOk;rw[signature?_of (id := "reversed.__next__") (n:=['_','_','t','x','e','n','_','_']) (o:=['d','e','s','r','e','v','e','r']) (by kernel_rfl) Qy];kernel_rfl
def S0:Slot "reversed" "__iter__" "reversed.__iter__" := .of (owner := "reversed") (n := "__iter__") (by rw[E9,Fb];kernel_rfl) (by decide +kernel) (by decide +kernel) (by decide +kernel) (by first | exact .inl (by decide +kernel) | exact .inr (by decide +kernel)) (by rw[Gg];kernel_rfl)
def nR (a:Value):argsOk "reversed.__iter__" ⟨[a],[]⟩:=by unfold argsOk;rw[signature?_of (id := "reversed.__iter__") (n:=['_','_','r','e','t','i','_','_']) (o:=['d','e','s','r','e','v','e','r']) (by kernel_rfl) Qy];kernel_rfl
def lR:entryFor table "reversed.__iter__" = some Builtin.«dict_keyiterator.__iter__»:=entryFor_alias (id' := "dict_keyiterator.__iter__") (by kernel_rfl) (by first | rfl | decide +kernel | (unfold String.splitOn;simp +decide [String.splitOnAux])) (by decide +kernel) (by kernel_rfl)
def slot_hint:Slot "reversed" "__length_hint__" "reversed.__length_hint__" := .of (owner := "reversed") (n := "__length_hint__") (by rw[E9,Fb];kernel_rfl) (by decide +kernel) (by decide +kernel) (by decide +kernel) (by first | exact .inl (by decide +kernel) | exact .inr (by decide +kernel)) (by rw[Gg];kernel_rfl)
def lT:entryFor table "reversed.__length_hint__" = some Builtin.«reversed.__length_hint__»:=entryFor_of_tree (by kernel_rfl)
def nT (a:Value):argsOk "reversed.__length_hint__" ⟨[a],[]⟩:=by unfold argsOk;rw[signature?_of (id := "reversed.__length_hint__") (n:=['_','_','t','n','i','h','_','h','t','g','n','e','l','_','_']) (o:=['d','e','s','r','e','v','e','r']) (by kernel_rfl) Qy];kernel_rfl
def Yu:typeLookup (.type "reversed") "__len__" = pure none:=by rw[E9,Fb];kernel_rfl
def Wx:typeLookup (.type "tuple") "__reversed__" = pure none:=by rw[E9,Fb];kernel_rfl
def Sw:typeLookup (.type "tuple") "__getitem__" = pure (some (.builtin "tuple.__getitem__")):=by rw[E9,Fb];kernel_rfl
def Wy:isSubtype (.type "tuple") (.type "dict")=pure false:=by rw[Gg];kernel_rfl
def jV:splitId "reversed.__length_hint__" = some ("reversed", "__length_hint__"):=by first | rfl | decide +kernel | kernel_rfl
abbrev rO (t:Addr)(i:Int):Obj:={ cls:=.type "reversed",dict:=none,data:=.fields #[.ref t,rawInt i],slots:=#[] }
section
variable {prog:Program}{w:World}{A:Around}{E:Value->Shared->Prop}{s:Shared}
def Yv {t:Addr} (ht:IsTup s.heap t items)(hz:(items.size:Int)<2^63)
  (h:Q₁ (.ref s.heap.objs.size) { s with heap:=s.heap.push (rO t ((items.size:Int)-1)),toks:=s.toks+1+1 }) :
  codeAny (model prog w) A (.call (.builtin "reversed.__new__") ⟨[.type "reversed",.ref t],[]⟩) (wants Q₁ E) s:=by
 have e0:=F.newCall_reversed_1 (.ref t)
 refine LC ?_
 show wpAny _ A.in1 (do checkBuiltinCall "reversed.__new__" ⟨[.type "reversed",.ref t],[]⟩;again (.builtin "reversed.__new__" ⟨[.type "reversed",.ref t],[]⟩)) _ _ s
 refine Ae (CQ e0 (An ⟨EJ F.plain_reversed_new _,DF F.entry_reversed_new ?_⟩))
 (rw[Eo F.plain_reversed_new _])
 (unfold Builtin.«reversed.__new__»)
 (refine Ae (CQ (newClass_reversed _) ?_))
 try dsimp only
 (refine Ae (CQ (a:=()) (by first | rfl | kernel_rfl) ?_))
 (refine Ae (CQ (a:=()) (by first | rfl | kernel_rfl) ?_))
 try dsimp only
 refine Ae (EL ht.typeIs Wx ?_)
 try dsimp only
 refine Ae ?_
 show wpAny _ _ (isInstance (.ref t) (.type "dict") >>= _) _ _ s
 refine Ae (Ik ht.typeIs Wy ?_)
 show wpAny _ _ (specialOf (.ref t) (Str.ofString "__getitem__") >>= _) _ _ s
 refine Ae (EL ht.typeIs Sw ?_)
 refine CQ (a:=true) rfl ?_
 rw[Am (by decide)]
 refine Ae (len_tuple ht hz ?_)
 refine Ae (CQ (a:=some (items.size:Int)) rfl ?_)
 show wpAny _ _ (Builtin.SmallTypes.newRecord (.type "reversed") [.ref t,rawInt ((items.size:Int)-1)] >>= _) _ _ _
 refine Ae (CW (T := "reversed") (data:=.fields #[.ref t,rawInt ((items.size:Int)-1)]) (An ?_))
 exact h
def Yw {it t:Addr}{i:Nat}{items:Array Value}{x:Value}{Q:Option Value->Shared->Prop}(hit:s.heap.get? it=some (rO t (i:Int)))(ht:IsTup s.heap t items)(hx:items[i]? = some x)(hz:(items.size:Int)<2^63)
  (hQ:∀h' tk,h'.get? it=some (rO t ((i:Int)-1))->Heap.SameBut it s.heap h'->Q (some x) { s with heap:=h',toks:=tk }):wpAny (model prog w) A (pyNext (.ref it)) Q E s:=by
 have ty:s.TypeIs (.ref it) "reversed" := ⟨_,hit,rfl⟩
 have hlt:i<items.size:=(OB.mp hx).1
 unfold pyNext
 refine Ae (G4 (FD (name:=Str.ofString "__next__") ty slot_next (CV slot_next ty U8 ?_ (VR _))))
 unfold Builtin.«reversed.__next__»
 (refine Ae (CQ (a:=(Value.ref it,[])) rfl ?_))
 try dsimp only
 refine Ae (DW hit rfl (x:=.ref t) rfl ?_)
 refine Ae (DW hit rfl (x:=rawInt (i:Int)) rfl ?_)
 (show wpAny _ _ (if (i:Int)<0 then _ else _) _ _ s)
 rw[Am (by lia)]
 show wpAny _ _ (specialOf (.ref t) (Str.ofString "__getitem__") >>= _) _ _ s
 refine Ae (EL ht.typeIs Sw ?_)
 rw[Am (by simp)]
 (refine Ae (wpAny_mkInt ?_))
 refine Ae (G4 (getItem_tuple ht (by lia) (by lia) ((seqIndex_of (k:=(i:Int)) (n:=items.size) (by lia) (by lia)).trans (by simp)) hx ?_))
 show wpAny _ _ (field (.ref it) 1 >>= _) _ _ _
 refine Ae (DW hit rfl (x:=rawInt (i:Int)) rfl ?_)
 show wpAny _ _ (setField (.ref it) 1 (rawInt ((i:Int)-1)) >>= _) _ _ _
 refine Ae (ER hit (by simp) λh1 z1 b1=>?_)
 exact An ⟨_,rfl,An (hQ _ _ z1 b1)⟩
def Yy {t:Addr} (hh:A.handled=none)(hit:s.heap.get? it=some (rO t (-1)))
  (hQ:∀g,Heap.ExtBut it s.heap g->Q none { s with heap:=g }):wpAny (model prog w) A (pyNext (.ref it)) Q E s:=by
 have ty:s.TypeIs (.ref it) "reversed" := ⟨_,hit,rfl⟩
 unfold pyNext
 refine Ae (G4 (FD (name:=Str.ofString "__next__") ty slot_next (CV slot_next ty U8 ?_ (VR _))))
 unfold Builtin.«reversed.__next__»
 (refine Ae (CQ (a:=(Value.ref it,[])) rfl ?_))
 try dsimp only
 refine Ae (DW hit rfl (x:=.ref t) rfl ?_)
 refine Ae (DW hit rfl (x:=rawInt (-1)) rfl ?_)
 (show wpAny _ _ (if (-1:Int)<0 then _ else _) _ _ s)
 rw[As (by decide)]
 refine Ae (Ga ?_)
 refine Ae ?_
 show wpAny _ _ (setField (.ref it) 1 (rawInt (-1)) >>= λ_=>setField (.ref it) 0 .none) _ _ _
 refine Ae (ER hit (by simp) λh1 z1 b1=>ER z1 (by simp) λh2 z2 b2=>?_)
 refine Ae ?_
 (show wpAny _ _ (newExc (.type "StopIteration") [] >>= _) _ _ _)
 refine Ae ?_
 simp only[newExc,newTuple]
 (refine Ae (CW ?_ (by size_fits)))
 refine Ae (m:=firstArgMember _ _) (CQ (a:=Value.none) (by first | (simp only[firstArgMember];rfl) | rfl) ?_)
 (refine CW ?_ (by size_fits))
 simp only[raiseNew]
 (refine Ae (N6 ?_))
 (rw[show A.in1.handled=none from hh])
 (refine Ae (An (wpAny_throw ?_)))
 refine Ae (Ik (T := "StopIteration") (b:=true) ⟨_,Bg _ rfl,rfl⟩ isSubtype_stop (An (hQ _ ?_)))
 exact λb o hb e=>AU _ (AU _ (b2.extBut b o hb (b1.extBut b o hb e)))
def Tg {t:Addr} (hit:s.heap.get? it=some (rO t i))(h:Q (.ref it) s):wpAny (model prog w) A (pyIter (.ref it)) Q E s:=by have ty:s.TypeIs (.ref it) "reversed" := ⟨_,hit,rfl⟩;refine LH ty S0 (CV S0 ty lR ?_ (nR _));(show wpAny _ _ (ret (.ref it)) _ _ s);exact An ⟨_,rfl, "reversed",_,ty,slot_next.lookup,h⟩
def Yx {t:Addr} (hit:s.heap.get? it=some (rO t ((items.size:Int)-1)))(ht:IsTup s.heap t items)(hz:(items.size:Int)<2^63)(hs:items.size<=sizeLine)(hp:0<items.size)
  (hQ:∀tk,Q true { s with toks:=tk }):wpAny (model prog w) A (Builtin.List.listLengthHint (.ref it)) Q E s:=by
 have ty:s.TypeIs (.ref it) "reversed" := ⟨_,hit,rfl⟩
 (unfold Builtin.List.listLengthHint)
 refine Ae (EL ty Yu ?_)
 show wpAny _ _ (specialOf (Value.ref it) (Str.ofString "__length_hint__") >>= _) _ _ _
 refine Ae (EL ty slot_hint.lookup ?_)
 dsimp only
 rw[jV]
 dsimp only
 refine Ae (Ik ty F.sub_reversed_self ?_)
 rw[Am (by decide),Am (by decide +kernel)]
 refine Ae (Ga ?_)
 refine Ae (CQ (slot_hint.bind _) ?_)
 dsimp only
 refine Ae (G4 (CV slot_hint ty lT ?_ (nT _)))
 unfold Builtin.«reversed.__length_hint__»
 refine Ae (CQ (a:=Value.ref it) rfl ?_)
 refine Ae (DW hit rfl (x:=.ref t) rfl ?_)
 (rw[Am (show ¬((Value.ref t == Value.none)=true) from BE)])
 refine Ae (len_tuple ht hz ?_)
 refine Ae (CQ (a:=some (items.size:Int)) rfl ?_)
 show wpAny _ _ (field (.ref it) 1 >>= _) _ _ _
 refine Ae (DW hit rfl (x:=rawInt ((items.size:Int)-1)) rfl ?_)
 show wpAny _ _ (if (items.size:Int)<(items.size:Int)-1+1 then _ else _) _ _ _
 rw[Am (by lia)]
 (refine Ae (wpAny_mkInt (An ⟨_,rfl,?_⟩)))
 have e:(items.size:Int)-1+1=items.size:=by lia
 rw[e]
 dsimp only
 generalize hn:(items.size:Int)=n
 refine Ae ?_
 refine CQ (a:=some n) rfl ?_
 dsimp only
 have f1:Builtin.List.listFitsIndex n=true:=by (unfold Builtin.List.listFitsIndex);rw[BZ,Oo,Oo];exact⟨by lia,by rw[<- hn];exact hz⟩
 have f2:Builtin.List.listTooLong n.toNat=false:=by unfold Builtin.List.listTooLong;exact BC (by rw[<- hn,Co];lia)
 rw[Am (by rw[f1];decide),Am (by lia),Am (by rw[f2];decide)]
 refine An ?_
 have f3:(n != 0)=true:=by rw[bne_iff_ne];lia
 rw[f3]
 exact hQ _
end
theorem L8 (hh:A.handled=none)(I t:Addr)(hne:t≠I)(items:Array Value)(hz:(items.size:Int)<2^63) :
  Walks prog w A I [I,t] [I] items.size (λi v=>items[items.size-1-i]? = some v) (λi h=>i<=items.size/\h.get? I=some (rO t ((items.size:Int)-1-(i:Int)))/\IsTup h t items) where
 sub:=λb hb=>by rw[AX.mp hb];exact Bj
 frame:=λ_ _ _ x hk=>⟨x.1,hk I (by simp) _ x.2.1,by obtain⟨o,ho,r⟩:=x.2.2;exact⟨o,hk t (by simp) o ho,r⟩⟩
 item:=λi s Q' E' hi x hQ=>by (have e:(items.size:Int)-1-(i:Int)=((items.size-1-i:Nat):Int):=by lia);have hit:=x.2.1;rw[e]at hit;(have hx:items[items.size-1-i]? = some (items[items.size-1-i]'(by lia)):=Ep (by lia));refine Yw hit x.2.2 hx hz λh' tk hit' hs'=>?_;(have e2:((items.size-1-i:Nat):Int)-1=(items.size:Int)-1-((i+1:Nat):Int):=by lia);rw[e2]at hit';obtain⟨o,ho,r⟩:=x.2.2;exact hQ _ h' tk hx ⟨hi,hit',o,(hs'.2 t hne).trans ho,r⟩ λb o hb eo=>hs'.extBut b o (λh=>hb (by simp[h])) eo
 done:=λs Q E x hQ=>by (have e:(items.size:Int)-1-(items.size:Int)=-1:=by lia);have hit:=x.2.1;rw[e]at hit;exact Yy hh hit λh' he'=>hQ h' s.toks λb o hb eo=>he' b o (λh=>hb (by simp[h])) eo
 self:=λ_ _ _ _ x hQ=>Tg x.2.1 hQ
section
variable {prog:Program}{w:World}{A:Around}{E:Value->Shared->Prop}{s:Shared}
def Yz {t:Addr} (hh:A.handled=none)(hit:s.heap.get? it=some (rO t ((items.size:Int)-1)))(ht:IsTup s.heap t items)(hne:t≠it)(hz:(items.size:Int)<2^63)(hs:items.size<=sizeLine)(hp:0<items.size)
  (hQ:∀h' tk acc,(∀b o,b≠it->s.heap.get? b=some o->h'.get? b=some o)->ItemsOf (λi v=>items[items.size-1-i]? = some v) acc items.size->Q acc.toList { s with heap:=h',toks:=tk }) :
  (wpAny (model prog w) A (collect (.ref it)) Q E s):=by
 have ty:s.TypeIs (.ref it) "reversed" := ⟨_,hit,rfl⟩
 have hlt:=A1 hit
 have htl:=ht.lt
 have hSI:s.heap.objs.size≠it:=Er hlt
 have hSf:s.heap.objs.size∉[it,t]:=λh=>by
  simp only[AL,Cn,Ck]at h;rcases h with h | h
  ·exact hSI h
  exact Er htl h
 unfold collect
 (refine Ae (Ob (DF F.entry_proto_collect ?_)))
 (rw[Eo F.plain_proto_collect _])
 (show wpAny _ A.in1 (newList [] >>= λl=>again (.builtin "list.__iadd__" ⟨[l,.ref it],[]⟩)) _ _ s)
 (refine Ae (CW ?_))
 (refine An ⟨EJ Om _,DF F.entry_list_iadd ?_⟩)
 (rw[Eo Om _])
 have p1:∀b o,s.heap.get? b=some o->(s.heap.push { cls:=.type "list",data:=.seq ([]:List Value).toArray }).get? b=some o:=λb o e=>AU _ e
 (show wpAny _ A.in1 (Builtin.List.listExtendWith (.ref s.heap.objs.size) (.ref it) (.ref s.heap.objs.size)) _ _ _)
 (unfold Builtin.List.listExtendWith)
 refine Ae (G1 (T := "reversed") ⟨_,p1 _ _ hit,rfl⟩ ?_)
 have h1:Builtin.List.listSameRef (.ref s.heap.objs.size) (.ref it)=false:=by simp[Builtin.List.listSameRef,hSI]
 have h2:(Value.type "reversed" == Value.type "list")=false:=by decide
 have h3:(Value.type "reversed" == Value.type "tuple")=false:=by decide
 (simp only[h1,h2,h3,N7,EK,Ec])
 refine Ae (Tg (p1 _ _ hit) ?_)
 refine Ae (DE (Yx (p1 _ _ hit) (ht.push _) hz hs hp λtk=>?_))
 rw[As (by rfl)]
 refine Ae (Ga ?_)
 (have hS₁:(s.heap.push { cls:=.type "list",data:=.seq ([]:List Value).toArray }).get? s.heap.objs.size=some { cls:=.type "list",data:=.seq ([]:List Value).toArray }:=Bg _ rfl)
 refine Ae ?_
 (show wpAny _ A.in1 (updateSeq s.heap.objs.size (·.push .none) >>= λ_=>updateSeq s.heap.objs.size (·.pop)) _ _ _)
 (refine Ae (Og hS₁ rfl ?_))
 (have hS₂:=HZ (Obj.mapSeq (·.push Value.none)) hS₁ rfl)
 (refine Og hS₂ rfl ?_)
 (have hS₃:=HZ (Obj.mapSeq (·.pop)) hS₂ rfl)
 have oth:∀b o,b≠s.heap.objs.size->s.heap.get? b=some o->(((s.heap.push { cls:=.type "list",data:=.seq ([]:List Value).toArray }).update s.heap.objs.size (Obj.mapSeq (·.push Value.none))).update s.heap.objs.size (Obj.mapSeq (·.pop))).get? b=some o:=
  λb o hb e=>(LS _ _ (Ea hb)).trans ((LS _ _ (Ea hb)).trans (p1 b o e))
 have st:0<=items.size/\(((s.heap.push { cls:=.type "list",data:=.seq ([]:List Value).toArray }).update s.heap.objs.size (Obj.mapSeq (·.push Value.none))).update s.heap.objs.size (Obj.mapSeq (·.pop))).get? it=some (rO t ((items.size:Int)-1-((0:Nat):Int)))/\IsTup (((s.heap.push { cls:=.type "list",data:=.seq ([]:List Value).toArray }).update s.heap.objs.size (Obj.mapSeq (·.push Value.none))).update s.heap.objs.size (Obj.mapSeq (·.pop))) t items:=by
  refine⟨A5 _,?_,?_⟩
  ·rw[show(items.size:Int)-1-((0:Nat):Int)=items.size-1 by lia];exact oth _ _ hSI.symm hit
  obtain⟨o,ho,r⟩:=ht;exact⟨o,oth _ _ (Be htl) ho,r⟩
 refine An ⟨EJ RG _,codeAny_extend_loopS (L8 (A:=A.in1) hh it t hne items hz).toS hs _ hSf _ items.size 0 _ _ _ rfl (A5 _) st hS₃ (ItemsOf.nil _) λs' acc' c' hm hS' hacc=>?_⟩
 (show wpAny _ A (load s.heap.objs.size >>= _) _ _ s')
 refine Ae (wpAny_load hS' (An ?_))
 have kk:∀b o,b≠it->s.heap.get? b=some o->s'.heap.get? b=some o:=λb o hb e=>by
  have hbl:=A1 e;refine hm.heap b o (λh=>?_) (oth b o (Be hbl) e);rcases(AL.mp h)with h | h
  ·exact Be hbl h
  exact hb (AX.mp h)
 have g1:s'.gens=s.gens:=hm.gens
 have g2:s'.drawn=s.drawn:=hm.drawn
 have g3:s'.os=s.os:=hm.os
 (obtain⟨h',g',d',tk',os'⟩:=s')
 cases g1
 cases g2
 cases g3
 exact hQ h' tk' acc' kk hacc
def Wz {t:Addr} (hh:A.handled=none)(hit:s.heap.get? it=some (rO t ((items.size:Int)-1)))(ht:IsTup s.heap t items)(hne:t≠it)(hz:(items.size:Int)<2^63)(hs:items.size<=sizeLine)(hp:0<items.size)
  (h:∀(h':Heap) (tk:Nat) (acc:Array Value),(∀b o,b≠it->s.heap.get? b=some o->h'.get? b=some o)->ItemsOf (λi v=>items[items.size-1-i]? = some v) acc items.size->Q₁ (.ref h'.objs.size) { s with heap:=h'.push { cls:=.type "tuple",data:=.seq acc },toks:=tk }) :
  codeAny (model prog w) A (.call (.builtin "tuple.__new__") ⟨[.type "tuple",.ref it],[]⟩) (wants Q₁ E) s:=by
 have e0:=F.newCall_tuple_1 (.ref it)
 refine LC ?_
 show wpAny _ A.in1 (do checkBuiltinCall "tuple.__new__" ⟨[.type "tuple",.ref it],[]⟩;again (.builtin "tuple.__new__" ⟨[.type "tuple",.ref it],[]⟩)) _ _ s
 refine Ae (CQ e0 (An ⟨EJ F.plain_tuple_new _,DF F.entry_tuple_new ?_⟩))
 (rw[Eo F.plain_tuple_new _])
 have hsub:=sub_tuple_self
 (have hinit:=init_tuple_lookup)
 have hmh:=madeHere_tuple
 have hTI:s.TypeIs (.ref it) "reversed" := ⟨_,hit,rfl⟩
 (have hh1:A.in1.handled=none:=hh)
 wp_walk using G1 hTI,Yz hh1 hit ht hne hz hs hp
 intro h' tk acc kk hacc
 (show wpAny _ _ (Builtin.Tuple.tupleExact acc.toList.toArray >>= λv=>ret v) _ _ _)
 (unfold Builtin.Tuple.tupleExact)
 (have e:acc.toList.toArray=acc:=by simp)
 refine Ae (CW ?_ (show acc.toList.toArray.size<=sizeLine from by rw[e,hacc.1];exact hs))
 refine An ?_
 rw[e]
 exact h h' tk acc kk hacc
def Xv:Slot "reversed" "__init__" "object.__init__" := .of (owner := "object") (n := "__init__") (by rw[E9,Fb];kernel_rfl) (by decide +kernel) (by decide +kernel) (by decide +kernel) (by first | exact .inl (by decide +kernel) | exact .inr (by decide +kernel)) (by rw[Gg];kernel_rfl)
def called_rev:TypeCalled "reversed" "reversed.__new__" "object.__init__" := ⟨by decide +kernel,by decide +kernel,⟨_,_,F.mro_reversed⟩,F.made_reversed,by decide +kernel,by rw[Gg];kernel_rfl,Xv⟩
def call_rev {t:Addr} (ht:IsTup s.heap t items)(hz:(items.size:Int)<2^63)
  (h:Q (.ref s.heap.objs.size) { s with heap:=s.heap.push (rO t ((items.size:Int)-1)),toks:=s.toks+1+1 }):wpAny (model prog w) A (call (.type "reversed") [.ref t]) Q E s:=
 callType_codes (Q₁:=λobj s₁=>s₁.TypeIs obj "reversed" /\ Q obj s₁) called_rev (F.typeCall_reversed_1 _) F.entry_object_init (Yv ht hz ⟨⟨_,Bg _ rfl,rfl⟩,h⟩)
  λobj s₁ h₁=>⟨h₁.1,RL obj _,object_init_meets called_rev.init.lookup called_rev.made (by decide) prog w A.in1 _ s₁ ⟨h₁.1,rfl,h₁.2⟩⟩
def call_tup {t:Addr} (hh:A.handled=none)(hit:s.heap.get? it=some (rO t ((items.size:Int)-1)))(ht:IsTup s.heap t items)(hne:t≠it)(hz:(items.size:Int)<2^63)(hs:items.size<=sizeLine)(hp:0<items.size)
  (h:∀(h':Heap) (tk:Nat) (acc:Array Value),(∀b o,b≠it->s.heap.get? b=some o->h'.get? b=some o)->ItemsOf (λi v=>items[items.size-1-i]? = some v) acc items.size->Q (.ref h'.objs.size) { s with heap:=h'.push { cls:=.type "tuple",data:=.seq acc },toks:=tk }) :
  wpAny (model prog w) A (call (.type "tuple") [.ref it]) Q E s:=
 callType_codes (Q₁:=λobj s₁=>s₁.TypeIs obj "tuple" /\ Q obj s₁) F.called_tuple (F.typeCall_tuple_1 _) F.entry_object_init (Wz (A:=A.in1) hh hit ht hne hz hs hp λh' tk acc kk hacc=>⟨⟨_,Bg _ rfl,rfl⟩,h h' tk acc kk hacc⟩)
  λobj s₁ h₁=>⟨h₁.1,RL obj _,object_init_meets F.called_tuple.init.lookup F.called_tuple.made (by decide) prog w A.in1 _ s₁ ⟨h₁.1,rfl,h₁.2⟩⟩
end
def rev_items {items acc:Array Value}(h:ItemsOf (λi v=>items[items.size-1-i]? = some v) acc items.size):acc=items.toList.reverse.toArray:=by
 apply Array.ext_getElem?;intro i;have hl:=h.1;by_cases hi:i<items.size
 ·have h1:acc[i]? = some (acc[i]'(by lia)):=Ep (by lia);rw[<- FC,<- FC,RF,List.getElem?_reverse (by simpa using hi),FC,FC,DY,h.2 i _ h1,h1]
 rw[JV (by lia),JV (by simp;lia)]
end RT
namespace LU
open PySem PyProof.Rows
end LU
namespace L2
open PySem PySem.Spec PyProof.Rows
def nL:bootBuiltins "reversed" = some (.type "reversed"):=by decide +kernel
def WH (K:W.Frag)(ta:TA):TE:=λσ H Q=>ta σ H λvs H1=>∃a xs,vs=[.ref a]/\SqT K H1 a xs/\xs≠[]/\∀p,H1 p=none->Q (.ref p) (Ab H1 p (.tup xs.reverse))
theorem Sg:∀{xs:List V}{us:List Value},Vals xs us->Vals xs.reverse us.reverse
 | _,_,.nil=>.nil
 | _,_,.cons a b=>by (rw[On,On]);exact(Sg b).append (.cons a .nil)
def Zf (hc:X.calm=true) (hgl:Gl X "tuple")(hml:X.mg "tuple" = none)(hvl:bootBuiltins "tuple" = some (.type "tuple"))(hg:Gl X "reversed")(hm:X.mg "reversed" = none)(hv:bootBuiltins "reversed" = some (.type "reversed"))(ha:PA X [a] ta)
  (hs:starEach [a] X.env=[(false,eval a X.env)]:=by rfl)
  (hs0:starEach [.Call (.Name "reversed" p2) [a] [] pos2] X.env=[(false,eval (.Call (.Name "reversed" p2) [a] [] pos2) X.env)]:=by rfl) :
  PE X (.Call (.Name "tuple" p1) [.Call (.Name "reversed" p2) [a] [] pos2] [] pos1) (WH X.K ta):=by
 intro aa s σ H Q I h
 refine LL (HS I hgl hml hvl ?_)
 refine LW ?_ (by rw[hs0];rfl) rfl
 rw[hs0]
 show wpAny _ _ (spliced ((false,eval (.Call (.Name "reversed" p2) [a] [] pos2) X.env)::backTo pos1 [])) _ _ s
 refine JS ?_
 refine Call_ (HS I hg hm hv (LW (Aw (ha pos2 aa s σ H _ I h) λus s1 hp0=>?_) (by rw[hs];rfl) (by rfl)))
 obtain⟨vs,H1,I1,r1,q1⟩:=hp0
 obtain⟨x,xs,rfl,qa,hne,q⟩:=q1
 obtain⟨u,rfl,ru⟩:=CB r1
 cases ru
 obtain⟨its,r2,pa,hz⟩:=I1.tuple qa
 have hl:=r2.length
 have ae:sizeLine=16777216:=AK
 have hpos:=Io.mpr hne
 have hsz:its.toArray.size=its.length:=BB
 have hi:((its.toArray.size:Nat):Int)<2^63:=by lia
 have pt:IsTup s1.heap x its.toArray:=pa
 have hx:=pt.lt
 refine RT.call_rev pt hi ?_
 refine LJ ?_
 refine RT.call_tup (A:=X.A) (t:=x) (items:=its.toArray) (I1.ok.hd hc) (Bg _ rfl) (pt.push _) (Be hx) hi (by lia) (by lia) λh' tk acc kk hacc=>?_
 have ea:=RT.rev_items hacc
 rw[RF]at ea
 subst ea
 have Ih:Inv X aa σ H1 { s1 with heap:=h',toks:=tk }:=I1.kept (t':=tk) λb o e=>kk b o (Be (A1 e)) (AU _ e)
 have I2:Inv X aa σ (Ab H1 h'.objs.size (.tup xs.reverse)) { s1 with heap:=h'.push { cls:=.type "tuple",data:=.seq its.reverse.toArray },toks:=tk }:=
  Ih.laid (t':=tk) (λb o e=>AU _ e) (Au _) (show ObjOk X.prog X.w _ _ _ (.tup xs.reverse) from ⟨by rw[Ip];lia,its.reverse,Sg r2,IsTup.new _ _⟩)
 exact⟨.ref h'.objs.size,_,I2,rfl,q _ (Ih.hok.fresh (Au _))⟩
end L2
namespace SI
open PySem PySem.W PyProof.Rows
def run {α:Type}(f:Nat->Nat->Bool):KasT α->α
 | .ret a=>a
 | .ask i j k=>run f (k (f i j))
def good {α:Type}(n:Nat):KasT α->Bool
 | .ret _=>true
 | .ask i j k=>(decide (i<n) && decide (j<n) && decide (i≠j)) && (good n (k true) && good n (k false))
def UQ {α:Type}{n:Nat}{k:Bool->KasT α}(h:(good n (k true) && good n (k false))=true)(b:Bool):good n (k b)=true:=by
 rw[BZ]at h;cases b with
 | true=>exact h.1
 | false=>exact h.2
theorem Tb {α:Type}{n:Nat}{f:Nat->Nat->Bool}{cmp:Nat->Nat->(Bool->Shared->Prop)->Shared->Prop}{Q:α->Shared->Prop}{s:Shared}(hc:∀i j (C:Bool->Shared->Prop),i<n->j<n->i≠j->C (f i j) s->cmp i j C s) :
  ∀t:KasT α,good n t=true->Q (run f t) s->t.kasWp cmp Q s
 | .ret _,_,h=>h
 | .ask i j k,g,h=>by unfold good at g;rw[BZ,BZ,BZ]at g;have g2:=g.2;exact hc i j _ (A4 g.1.1.1) (A4 g.1.1.2) (A4 g.1.2) (Tb hc (k (f i j)) (UQ g2 _) h)
theorem P8 {α:Type}{n:Nat}{f g:Nat->Nat->Bool}(hc:∀i j,i<n->j<n->i≠j->f i j=g i j):∀t:KasT α,good n t=true->run f t=run g t
 | .ret _,_=>rfl
 | .ask i j k,q=>by unfold good at q;rw[BZ,BZ,BZ]at q;have g2:=q.2;show run f (k (f i j))=run g (k (g i j));rw[hc i j (A4 q.1.1.1) (A4 q.1.1.2) (A4 q.1.2)];exact P8 hc _ (UQ g2 _)
def US:good 2 (kas_sort 2)=true:=by decide +kernel
def UR:good 3 (kas_sort 3)=true:=by decide +kernel
def f3 (a b c:Bool):Nat->Nat->Bool
 | 0,1=>a
 | 1,0=>!a
 | 0,2=>b
 | 2,0=>!b
 | 1,2=>c
 | 2,1=>!c
 | _,_=>false
def Hi (f:Nat->Nat->Bool)(p:List Nat)(n:Nat):Bool:=decide (p.Perm (List.range n)) && (p.zip p.tail).all λq=>f q.1 q.2
def s2:∀a:Bool,Hi (f3 a false false) (run (f3 a false false) (kas_sort 2)).toList 2=true:=by decide +kernel
def s3:∀a b c:Bool,(!(a && c && !b) && !(!a && !c && b))=true->Hi (f3 a b c) (run (f3 a b c) (kas_sort 3)).toList 3=true:=by decide +kernel
section
variable {prog:Program}{w:World}{A:Around}{E:Value->Shared->Prop}{s:Shared}
def Xp (ho:s.heap.get? a=some (seqObj "list" vs.toArray n))(h3:vs.length<=3)
  (ask:2<=vs.length->∀h',(∀b o,b≠a->s.heap.get? b=some o->h'.get? b=some o)->wpAny (model prog w) A (keyKind' vs.toArray) (λκ s'=>s'={ s with heap:=h' }/\∀i j (C:Bool->Shared->Prop),i<vs.length->j<vs.length->i≠j->C (f i j) s'->kas_ask prog w A κ vs i j C s') (λ_ _=>False) { s with heap:=h' })
  (fin:∀h' c (p:List Nat),p.length=vs.length->(2<=vs.length->p=(run f (kas_sort vs.length)).toList)->(vs.length<2->p=List.range vs.length)->(∀b o,b≠a->s.heap.get? b=some o->h'.get? b=some o)->h'.get? a=some (seqObj "list" (p.map λi=>vs.getD i Value.none).toArray c)->P (.done (.ret .none)) { s with heap:=h' }) :
  (wpAny (model prog w) A (Builtin.«list.sort» ⟨[.ref a],[]⟩) P E s):=by
 (have ha:a<s.heap.objs.size:=A1 ho)
 have o1:=F7 s.heap a (Obj.mapSeq λ_=>(#[]:Array Value))
 (obtain⟨e1,ho1⟩:∃e1,(s.heap.update a (Obj.mapSeq λ_=>(#[]:Array Value))).get? a=some (seqObj "list" #[] e1):=⟨_,get?_update_seq ho λ_=>#[]⟩)
 rw[list_sort_plain]
 (refine Ae (listItems_at ho rfl ?_))
 (refine Ae (listUpdate_at ho rfl ?_ (by rw[BB,AK];lia) (A5 _)))
 (refine Ae (seqEpoch_at ho1 rfl ?_))
 (refine Ae (wpAny_newTuple ?_ (by show vs.length<=_;rw[AK];lia)))
 (refine Ae (wpAny_newList ?_ (A5 _)))
 refine DE ?_
 have keep:∀b o,b≠a->s.heap.get? b=some o->(((s.heap.update a (Obj.mapSeq λ_=>(#[]:Array Value))).push (seqObj "tuple" vs.toArray 0)).push (seqObj "list" #[] 0)).get? b=some o:=λb o hb e=>AU _ (AU _ ((o1.2 b hb).trans e))
 have hoa:(((s.heap.update a (Obj.mapSeq λ_=>(#[]:Array Value))).push (seqObj "tuple" vs.toArray 0)).push (seqObj "list" #[] 0)).get? a=some (seqObj "list" #[] e1):=AU _ (AU _ ho1)
 (show wpAny (model prog w) A _ P E { s with heap:=((s.heap.update a (Obj.mapSeq λ_=>(#[]:Array Value))).push (seqObj "tuple" vs.toArray 0)).push (seqObj "list" #[] 0) })
 generalize ((s.heap.update a (Obj.mapSeq λ_=>(#[]:Array Value))).push (seqObj "tuple" vs.toArray 0)).push (seqObj "list" #[] 0)=h1 at keep hoa ⊢
 dsimp only
 by_cases h2:vs.length<2
 ·have hn2:vs.toArray.size<2:=by rw[BB];exact h2
  rw[As hn2,As hn2];refine Ae (An ?_);refine Ae (CQ (a:=((),SortSt.mk' general' (vs.toArray.zip vs.toArray) #[] 7 none)) rfl ?_);dsimp only;have hout:(arrOf (SortSt.mk' general' (vs.toArray.zip vs.toArray) #[] 7 none)).map (·.2)=((List.range vs.length).map λi=>vs.getD i Value.none).toArray:=by show((vs.toArray.zip vs.toArray).map (·.2))=_;apply LF.mp;rw[Array.toList_map,Array.toList_zip,RF,List.map_snd_zip (Au _)];refine ext_getElem (by simp) λk h1 h2=>?_;simp[Cz,h1]
  rw[hout];have hp:(List.range vs.length).length=vs.length:=EI;have o2:=F7 h1 a (Obj.mapSeq λ_=>((List.range vs.length).map λi=>vs.getD i Value.none).toArray);obtain⟨c2,hc2⟩:∃c2,(h1.update a (Obj.mapSeq λ_=>((List.range vs.length).map λi=>vs.getD i Value.none).toArray)).get? a=some (seqObj "list" ((List.range vs.length).map λi=>vs.getD i Value.none).toArray c2):=⟨_,get?_update_seq hoa λ_=>((List.range vs.length).map λi=>vs.getD i Value.none).toArray⟩;refine Ae (seqEpoch_at hoa rfl ?_);refine Ae (listUpdate_at hoa rfl ?_ (A5 _) (by rw[BB,Ak,AK];lia));show wpAny _ _ (if (e1 != e1)=true then _ else _) _ _ _;rw[Am (by simp)];exact An (fin _ c2 _ hp (λz=>absurd h2 (by lia)) (λ_=>rfl) (λb o hb e=>(o2.2 b hb).trans (keep b o hb e)) hc2)
 have hn2:¬vs.toArray.size<2:=by rw[BB];exact h2
 rw[Am hn2,Am hn2]
 refine Ae (DB (ask (by lia) h1 keep) (λκ s0 hk=>?_) λ_ _ x=>x.elim)
 obtain⟨rfl,hk⟩:=hk
 refine Ae (DB (kat_run (Q:=λst' s'=>s'={ s with heap:=h1 }/\∃p:Array Nat,p.size=vs.length/\arrOf st'=p.map (kas_item (vs.toArray.zip vs.toArray))/\failedOf st'=none/\p=run f (kas_sort vs.length)) (G:=λp s'=>s'={ s with heap:=h1 }/\p=run f (kas_sort vs.length)) rfl (by lia) (by lia) (λp st' s' a1 a2 a3 a4=>⟨a4.1,p,a1,a2,a3,a4.2⟩) (Tb hk _ ?_ ⟨rfl,rfl⟩)) ?_ λ_ _ e=>e)
 ·rcases(by lia:vs.length=2\/vs.length=3)with e | e
  ·rw[e];exact US
  rw[e];exact UR
 rintro⟨⟨⟩,st'⟩ s' ⟨rfl,p,hp,har,hf,hpe⟩
 dsimp only
 have hout:=kat_snds rfl har
 have hp':p.toList.length=vs.length:=by rw[DY];exact hp
 rw[hout]
 have o2:=F7 h1 a (Obj.mapSeq λ_=>(p.toList.map λi=>vs.getD i Value.none).toArray)
 obtain⟨c2,hc2⟩:∃c2,(h1.update a (Obj.mapSeq λ_=>(p.toList.map λi=>vs.getD i Value.none).toArray)).get? a=some (seqObj "list" (p.toList.map λi=>vs.getD i Value.none).toArray c2):=⟨_,get?_update_seq hoa λ_=>(p.toList.map λi=>vs.getD i Value.none).toArray⟩
 refine Ae (seqEpoch_at hoa rfl ?_)
 refine Ae (listUpdate_at hoa rfl ?_ (A5 _) (by rw[BB,Ak,AK];lia))
 rw[hf]
 (simp only[Rw,EK,Ec])
 exact An (fin _ c2 _ hp' (λ_=>by rw[hpe]) (λz=>absurd z h2) (λb o hb e=>(o2.2 b hb).trans (keep b o hb e)) hc2)
def OH (h:Heap)(as:List Addr)(ks:List Str):Prop:=as.length=ks.length/\∀(i:Nat) a k,as[i]? = some a->ks[i]? = some k->∃t x,h.get? a=some { cls:=.type "tuple",data:=.seq #[.str k t,x] }
def lt (ks:List Str)(i j:Nat):Bool:=decide ((ks.getD i Str.empty).cps.toList<(ks.getD j Str.empty).cps.toList)
theorem Sv :∀{as:List Addr}{ks:List Str},OH h as ks->∃fs:List Value,KatTups h (as.map Value.ref) fs/\fs.length=ks.length/\∀v∈fs,∃k t,v=.str k t
 | [],[],_=>⟨[],.nil,rfl,λv hv=>nomatch hv⟩
 | [],_::_,h=>by have:=h.1;simp at this
 | _::_,[],h=>by have:=h.1;simp at this
 | a::as,k::ks,hp=>by
  obtain⟨t,x,e⟩:=hp.2 0 a k rfl rfl;obtain⟨fs,f1,f2,f3⟩:=Sv (as:=as) (ks:=ks) ⟨by have:=hp.1;simpa using this,λi b l hb hl=>hp.2 (i+1) b l (by simpa using hb) (by simpa using hl)⟩;refine⟨.str k t::fs,.cons e rfl rfl rfl f1,by simp[f2],λv hv=>?_⟩;rcases(AL.mp hv)with e | e
  ·exact⟨k,t,e⟩
  exact f3 v e
def WA (hp:OH s.heap as ks)(nd:ks.Nodup)(h2:2<=as.length) :
  wpAny (model prog w) A (keyKind' (as.map Value.ref).toArray) (λκ s'=>s'=s/\∀i j (C:Bool->Shared->Prop),i<(as.map Value.ref).length->j<(as.map Value.ref).length->i≠j->C (lt ks i j) s'->kas_ask prog w A κ (as.map Value.ref) i j C s') E s:=by
 obtain⟨fs,f1,f2,f3⟩:=Sv hp
 have hl:=hp.1
 refine kat_kind (T:=.type "str") f1 (by lia) (λv hv A' Q' E' s' _ q=>?_) (by decide) ⟨rfl,λi j C hi hj hij hC=>?_⟩
 ·obtain⟨k,t,rfl⟩:=f3 v hv;exact G1 (T := "str") rfl q
 rw[Ak]at hi hj
 obtain⟨t,x,e1⟩:=hp.2 i as[i] (ks[i]'(by lia)) (AH hi) (AH (by lia))
 obtain⟨u,y,e2⟩:=hp.2 j as[j] (ks[j]'(by lia)) (AH hj) (AH (by lia))
 have hne:ks[i]'(by lia)≠ks[j]'(by lia):=λz=>hij ((Gb nd).mp z)
 unfold kas_ask
 have g1:(as.map Value.ref).getD i Value.none=.ref as[i]:=by simp[Cz,hi]
 have g2:(as.map Value.ref).getD j Value.none=.ref as[j]:=by simp[Cz,hj]
 rw[g1,g2]
 refine kat_lt e1 rfl e2 rfl ?_
 show KatLex prog w A true _ C [(.str _ t,.str _ u),(x,y)] 0 s
 refine kat_cons (wpAny_eqBool_str ?_)
 rw[BC hne]
 refine kat_no ?_
 have hC':C (decide ((ks[i]'(by lia)).cps.toList<(ks[j]'(by lia)).cps.toList)) s:=by unfold lt at hC;rw[show ks.getD i Str.empty=ks[i]'(by lia) by simp[Cz,(by lia:i<ks.length)],show ks.getD j Str.empty=ks[j]'(by lia) by simp[Cz,(by lia:j<ks.length)]]at hC;exact hC
 exact oneLt_str hC'
end
def HN (nd:ks.Nodup)(hi:i<ks.length)(hj:j<ks.length)(hij:i≠j):lt ks j i=!lt ks i j:=by
 have gi:ks.getD i Str.empty=ks[i]:=by simp[Cz,hi]
 have gj:ks.getD j Str.empty=ks[j]:=by simp[Cz,hj]
 have hne:ks[i]≠ks[j]:=λz=>hij ((Gb nd).mp z);unfold lt;rw[gi,gj];generalize ks[i]=a at hne;generalize ks[j]=b at hne;by_cases h1:a.cps.toList<b.cps.toList
 ·have h2:¬b.cps.toList<a.cps.toList:=List.lt_asymm h1;rw[AR h1,BC h2];rfl
 have h2:b.cps.toList<a.cps.toList:=by refine Decidable.byContradiction λh2=>hne ?_;have e:a.cps.toList=b.cps.toList:=List.le_antisymm (not_lt.mp h2) (not_lt.mp h1);have e2:a.cps=b.cps:=LF.mp e;cases a;cases b;cases e2;rfl
 rw[BC h1,AR h2];rfl
def Um {ks:List Str}{i j k:Nat}(h1:lt ks i j=true)(h2:lt ks j k=true):lt ks i k=true:=AR (List.lt_trans (A4 h1) (A4 h2))
def Xo (nd:ks.Nodup)(h2:2<=ks.length)(h3:ks.length<=3):Hi (lt ks) (run (lt ks) (kas_sort ks.length)).toList ks.length=true:=by
 have cong:∀(g:Nat->Nat->Bool) (n:Nat) (p:List Nat),(∀i j,i<n->j<n->i≠j->lt ks i j=g i j)->Hi g p n=true->Hi (lt ks) p n=true:=λg n p hg hs=>by
  unfold Hi at hs ⊢;rw[BZ]at hs ⊢;refine⟨hs.1,?_⟩;have hperm:=A4 hs.1;rw[Fd]at hs ⊢;have hsd:=hs.2;intro q hq;have hq2:=hsd q hq;have m1:q.1∈p:=(Ly hq).1;have m2:q.2∈p:=List.mem_of_mem_tail (Ly hq).2;have hndp:p.Nodup:=hperm.nodup_iff.mpr List.nodup_range;have hne:q.1≠q.2:=λe=>by obtain⟨k,hk⟩:=G9 hq;rw[List.getElem?_zip_eq_some,List.getElem?_tail]at hk;obtain⟨l1,e1⟩:=AG.mp hk.1;obtain⟨l2,e2⟩:=AG.mp hk.2;have:=(Gb hndp).mp (e1.trans (e.trans e2.symm));lia
  rw[hg q.1 q.2 (DJ.mp (hperm.mem_iff.mp m1)) (DJ.mp (hperm.mem_iff.mp m2)) hne];exact hq2
 rcases(by lia:ks.length=2\/ks.length=3)with e | e
 ·rw[e]
  have hg:∀i j,i<2->j<2->i≠j->lt ks i j=f3 (lt ks 0 1) false false i j:=λi j hi hj hij=>by
   rcases(by lia:(i=0/\j=1)\/(i=1/\j=0))with⟨rfl,rfl⟩ | ⟨rfl,rfl⟩
   ·rfl
   exact HN nd (by lia) (by lia) (by lia)
  rw[P8 hg _ US];exact cong _ 2 _ hg (s2 _)
 rw[e]
 have hg:∀i j,i<3->j<3->i≠j->lt ks i j=f3 (lt ks 0 1) (lt ks 0 2) (lt ks 1 2) i j:=λi j hi hj hij=>by
  rcases(by lia:(i=0/\j=1)\/(i=1/\j=0)\/(i=0/\j=2)\/(i=2/\j=0)\/(i=1/\j=2)\/(i=2/\j=1))with⟨rfl,rfl⟩ | ⟨rfl,rfl⟩ | ⟨rfl,rfl⟩ | ⟨rfl,rfl⟩ | ⟨rfl,rfl⟩ | ⟨rfl,rfl⟩
  ·rfl
  ·exact HN nd (by lia) (by lia) (by lia)
  ·rfl
  ·exact HN nd (by lia) (by lia) (by lia)
  ·rfl
  exact HN nd (by lia) (by lia) (by lia)
 rw[P8 hg _ UR];refine cong _ 3 _ hg (s3 _ _ _ ?_);have f10:=HN (i:=0) (j:=1) nd (by lia) (by lia) (by lia);have f20:=HN (i:=0) (j:=2) nd (by lia) (by lia) (by lia);have f21:=HN (i:=1) (j:=2) nd (by lia) (by lia) (by lia);have t1:=@Um ks 0 1 2;have t2:=@Um ks 2 1 0;rw[f10,f20,f21]at t2;revert t1 t2;cases lt ks 0 1 <;> cases lt ks 0 2 <;> cases lt ks 1 2 <;> simp
section
variable {prog:Program}{w:World}{A:Around}{E:Value->Shared->Prop}{s:Shared}
def items_sorted {κ:Type}[DecidableEq κ]{knd:PySem.KeyKind prog w κ}{kvs:List (κ×Value)}{ep:Nat}{r d:Addr}{ks:List Str}{Q:Value->Shared->Prop}(hh:A.handled=none)(hv:s.heap.IsItemsView r d)(hm:s.heap.DictAt knd d kvs ep)(hn:kvs.length<=3)(hks:ks.length=kvs.length)
  (hkey:∀(j:Nat) k x key,kvs[j]? = some (k,x)->knd.is k key=true->∃y t,ks[j]? = some y/\key=.str y t)(nd:ks.Nodup)
  (h:∀(h1 h':Heap) (tk:Nat) (as:List Addr) (p:List Nat) (c:Nat),(∀b o,s.heap.get? b=some o->h1.get? b=some o)->as.length=kvs.length->KdxG knd kvs s.heap.objs.size h1 as->p.Perm (List.range kvs.length)->((p.zip p.tail).all λq=>lt ks q.1 q.2)=true->(∀b o,h1.get? b=some o->h'.get? b=some o) -> h'.get? h1.objs.size=some (seqObj "list" (p.map λi=>(as.map Value.ref).getD i Value.none).toArray c)->Q (.ref h1.objs.size) { s with heap:=h',toks:=tk }):wpAny (model prog w) A (call (.builtin "sorted") [.ref r]) Q E s:=by
 have e0:=args_sorted1 (.ref r)
 refine RW kind_sorted plain_sorted entry_sorted e0 ?_
 unfold Builtin.«sorted»
 (refine Ae (m:=checkCount "sorted" 1 1 _) (An ?_))
 have ae:sizeLine=16777216:=AK
 refine Ae (kdx_collect (A:=A.in1) (knd:=knd) (kvs:=kvs) (ep:=ep) hh hv hm (by lia) λh1 tk as hk hl hG=>?_)
 refine Ae (wpAny_newList ?_ (by rw[Ak];lia))
 have hoB:(h1.push (seqObj "list" (as.map Value.ref).toArray 0)).get? h1.objs.size=some (seqObj "list" (as.map Value.ref).toArray 0):=Bg _ rfl
 have pa:OH h1 as ks:=⟨by rw[hl,hks],λi a k ha hk'=>by obtain⟨key,k2,x,e1,e2,e3⟩:=hG.pairs i a ha;obtain⟨y,t,e4,rfl⟩:=hkey i k2 x key e1 e2;rw[hk']at e4;cases e4;exact⟨t,x,e3⟩⟩
 have inA:∀a∈as,a≠h1.objs.size:=λa ha=>Be (hG.there ha)
 refine Ae (DE (CV slot_list_sort ⟨_,hoB,rfl⟩ entry_list_sort ?_ (args_list_sort _)))
 refine Xp (f:=lt ks) (s:={ s with heap:=h1.push (seqObj "list" (as.map Value.ref).toArray 0),toks:=tk }) hoB (by rw[Ak];lia) (λh2 h' kk=>?_) (λh' c p hp p2 p1 kk hB=>?_)
 ·rw[Ak]at h2;have pa':OH h' as ks:=⟨pa.1,λi a k ha hk'=>by obtain⟨t,x,e⟩:=pa.2 i a k ha hk';exact⟨t,x,kk a _ (inA a (Bz ha)) (AU _ e)⟩⟩;exact WA (s:={ s with heap:=h',toks:=tk }) pa' nd h2
 rw[Ak]at hp p2 p1
 have ext:∀b o,h1.get? b=some o->h'.get? b=some o:=λb o e=>kk b o (Be (A1 e)) (AU _ e)
 have key:p.Perm (List.range kvs.length)/\((p.zip p.tail).all λq=>lt ks q.1 q.2)=true:=by
  by_cases h2:2<=kvs.length
  ·have e:=p2 (by lia);have hs:=Xo nd (by lia) (by lia);rw[hks,<- hl,<- e]at hs;unfold Hi at hs;rw[BZ]at hs;rw[<- hl];exact⟨A4 hs.1,hs.2⟩
  have e:=p1 (by lia);rw[e,hl];refine⟨.refl _,?_⟩;rcases(by lia:kvs.length=0\/kvs.length=1)with z | z <;> (rw[z];rfl)
 exact⟨_,rfl,An ⟨_,rfl,h h1 h' tk as p c hk hl hG key.1 key.2 ext hB⟩⟩
end
end SI
namespace L2
open PySem PySem.W PyProof.Rows
section
variable {X:Cx}{aa:List (Addr×Obj)}{σ:St}
def OG (H:Hp)(as:List Addr)(ps:List (Str×V)):Prop:=as.length=ps.length/\∀(i:Nat) a p,as[i]? = some a->ps[i]? = some p->H a=some (.tup [.str p.1,p.2])
def FpOk.off (h:FpOk X aa H a)(n:a≠b):FpOk X aa (Ab H b o) a:=⟨by rw[Ai n];exact h.1,h.2⟩
theorem Sy :∀(as:List Addr) (ps:List (Str×V)) (H:Hp),Inv X aa σ H s->as.Nodup->as.length=ps.length->(∀a∈as,FpOk X aa H a) ->
  (∀(i:Nat) a p,as[i]? = some a->ps[i]? = some p->∃u t,RelV p.2 u/\s.heap.get? a=some { cls:=.type "tuple",data:=.seq #[.str p.1 t,u] })->∃H',Inv X aa σ H' s/\Same H H'/\OG H' as ps
 | [],[],H,I,_,_,_,_=>⟨H,I,Same.refl _,rfl,λi a p h=>by simp at h⟩
 | [],_::_,_,_,_,h,_,_=>by simp at h
 | _::_,[],_,_,_,h,_,_=>by simp at h
 | a::as,p::ps,H,I,nd,hl,hf,hp=>by
  obtain⟨u,t,ru,e⟩:=hp 0 a p rfl rfl;have fa:=hf a Bj;have nd':=Bq.mp nd;have I1:Inv X aa σ (Ab H a (.tup [.str p.1,p.2])) s:=I.trackF fa ⟨by show 2<=sizeLine;decide,[.str p.1 t,u],.cons ⟨t,rfl⟩ (.cons ru .nil),_,e,rfl,0,rfl⟩;obtain⟨H',I',s',pr⟩:=Sy as ps _ I1 nd'.2 (by simpa using hl) (λb hb=>(hf b (A6 _ hb)).off λz=>nd'.1 (z ▸ hb)) (λi b q hb hq=>hp (i+1) b q (by simpa using hb) (by simpa using hq));refine⟨H',I',(PZ fa.1).trans s',hl,λi b q hb hq=>?_⟩;cases i with
  | zero=>cases hb;cases hq;exact s' _ _ Ag
  | succ i=>exact pr.2 i b q (by simpa using hb) (by simpa using hq)
def Ny (zs:List (Str×V)):Bool:=(zs.zip zs.tail).all λq=>decide (q.1.1.cps.toList<q.2.1.cps.toList)
def nC (hc:X.calm=true):Cp X (.builtin "sorted") (λxs H Q=>∃(v d:Addr) (ps:List (Str×V)),xs=[.ref v]/\H v=some (CA v d)/\H d=some (.dK (ps.map λp=>(Sum.inr p.1,p.2)))/\ps.length<=3 /\
  ∀(l:Addr) (as:List Addr) (zs:List (Str×V)) (H':Hp),Same H H'->H l=none->zs.Perm ps->Ny zs=true->H' l=some (.lst (as.map V.ref))->OG H' as zs->Q (.ref l) H'):=by
 intro aa s σ H xs us Q I r h
 obtain⟨v,d,ps,rfl,hv,hd,h3,q⟩:=h
 obtain⟨u,rfl,ru⟩:=CB r
 cases ru
 obtain⟨hz,hm,vs,hkv,o,es,ep,ho,ex,hdd,hK,hP,hnd⟩:=F3 I.hok hd
 have hat:s.heap.DictAt (Bv X.prog X.w) d vs ep:=⟨o,es,ho,ex,hdd,hK,hP,hnd⟩
 obtain⟨view,_,_⟩:=I.hok v _ hv
 have hl':=hkv.length
 rw[Ak]at hl'
 have ae:sizeLine=16777216:=AK
 have at':∀(j:Nat) k x,vs[j]? = some (k,x)->∃p,ps[j]? = some p/\k=Sum.inr p.1/\RelV p.2 x:=λj k x hj=>by
  have hjl:=(AG.mp hj).1;have hjp:j<ps.length:=by lia
  obtain⟨u,hu,ru⟩:=KV.get2 (i:=j) hkv (show(ps.map λp=>((Sum.inr p.1:Af),p.2))[j]? = some (Sum.inr (ps[j]).1,(ps[j]).2) by rw[AI,AH hjp];rfl);rw[hj]at hu;cases hu;exact⟨ps[j],AH hjp,rfl,ru⟩
 refine SI.items_sorted (knd:=Bv X.prog X.w) (ks:=ps.map (·.1)) (I.ok.hd hc) view hat (by lia) (by rw[Ak];lia) (λj k x key hj hk=>?_) ?_ λh1 h' tk as p c ext1 hl hG hp hs ext hB=>?_
 ·obtain⟨pp,e1,e2,_⟩:=at' j k x hj;subst e2;rcases Dy (show Ej (Sum.inr pp.1) key=true from hk)with⟨i,t,e1',e2⟩ | ⟨y,t,e1',e2⟩
  ·cases e1'
  cases e1';exact⟨_,t,by rw[AI,e1];rfl,e2⟩
 ·have ek:=hkv.keys;rw[<- ek,By]at hnd;have e:ps.map ((λx:Af×V=>x.1) ∘ λp=>((Sum.inr p.1:Af),p.2))=(ps.map (·.1)).map Sum.inr:=by rw[By];rfl
  rw[e]at hnd;exact List.Pairwise.of_map Sum.inr (λa b h z=>h (by rw[z])) hnd
 have I1:Inv X aa σ H { s with heap:=h1,toks:=tk }:=I.kept (t':=tk) ext1
 have hf:∀a∈as,FpOk X aa H a:=λa ha=>I.fpOk (Ic (hG.above a ha)) (I.hok.fresh (Ic (hG.above a ha)))
 obtain⟨H2,I2,s2,pr⟩:=Sy as ps H I1 (hG.rise.imp λz=>Be z) (by lia) hf (λi a pp ha hpp=>by
  obtain⟨key,k,x,e1,e2,e3⟩:=hG.pairs i a ha;obtain⟨p2,f1,f2,f3⟩:=at' i k x e1;rw[hpp]at f1;cases f1;subst f2;rcases Dy (show Ej (Sum.inr pp.1) key=true from e2)with⟨i',t,g1,g2⟩ | ⟨y,t,g1,g2⟩
  ·cases g1
  cases g1;rw[g2]at e3;exact⟨x,t,f3,e3⟩)
 have hpr:∀i∈p,i<as.length:=λi hi=>by have:=DJ.mp (hp.mem_iff.mp hi);lia
 have hplen:p.length=as.length:=by rw[hp.length_eq,EI,hl]
 have vals:∀q:List Nat,(∀i∈q,i<as.length)->Vals ((q.map λi=>as.getD i 0).map V.ref) (q.map λi=>(as.map Value.ref).getD i Value.none):=λq=>by
  induction q with
  | nil=>exact λ_=>.nil
  | cons i q ih=>
   intro hq;have hi:=hq i Bj;refine .cons ?_ (ih λj hj=>hq j (A6 _ hj));have e1:as.getD i 0=as[i]:=by simp[Cz,hi]
   have e2:(as.map Value.ref).getD i Value.none=.ref as[i]:=by simp[Cz,hi]
   show RelV (.ref (as.getD i 0)) ((as.map Value.ref).getD i Value.none);rw[e1,e2];rfl
 have fr2:H2 h1.objs.size=none:=I2.hok.fresh (Au _)
 have I3:Inv X aa σ (Ab H2 h1.objs.size (.lst ((p.map λi=>as.getD i 0).map V.ref))) { s with heap:=h',toks:=tk }:=
  I2.laid (t':=tk) (a:=h1.objs.size) (o:=.lst ((p.map λi=>as.getD i 0).map V.ref)) ext (Au _) ⟨by rw[Ak,Ak];lia,_,c,vals p hpr,hB⟩
 refine⟨.ref h1.objs.size,_,I3,rfl,q _ (p.map λi=>as.getD i 0) (p.map λi=>ps.getD i (Str.empty,.non)) _ (s2.trans (PZ fr2)) (I1.hok.fresh (Au _)) ?_ ?_ Ag ⟨by rw[Ak,Ak],λi a z ha hz=>?_⟩⟩
 ·refine(hp.map _).trans ?_;have e:(List.range vs.length).map (λi=>ps.getD i (Str.empty,.non))=ps:=by refine ext_getElem (by simp[hl']) λk h1 h2=>?_;simp[Cz,h2]
  rw[e]
 ·unfold Ny;rw[<- List.map_tail,List.zip_map,List.all_map];rw[Fd]at hs ⊢;intro x hx;have:=hs x hx;unfold SI.lt at this;have eg:∀i,(ps.map (·.1)).getD i Str.empty=(ps.getD i (Str.empty,.non)).1:=λi=>by (rw[Cz,Cz,AI]);cases ps[i]? <;> rfl
  rw[eg,eg]at this;exact this
 rw[AI]at ha hz
 cases hk:p[i]? with
 | none=>rw[hk]at ha;cases ha
 | some k=>
  rw[hk]at ha hz;have hka:=hpr k (Bz hk);have ea:as[k]? = some a:=by have e9:as.getD k 0=a:=Bs ha;rw[<- e9,Cz,AH hka];rfl
  have ez:ps[k]? = some z:=by have e9:ps.getD k (Str.empty,.non)=z:=Bs hz;rw[<- e9,Cz,AH (by lia)];rfl
  exact PZ fr2 _ _ (pr.2 k a z ea ez)
end
end L2
namespace L2
open PySem PySem.Spec PyProof.Rows PySem.W
end L2
namespace L2
open PySem PyProof.Rows
section
variable {X:Cx}
def gK:He X "dict.items" (λx xs H Q=>∃a kvs,x=.ref a/\xs=[]/\Rd H a (.dK kvs)/\∀v,H v=none->Q (.ref v) (Ab H v (CA v a))):=by intro aa s σ H x xs v us Q I rx rv h;obtain⟨a,kvs,rfl,rfl,ha,q⟩:=h;cases rx;cases rv;obtain⟨hz,hm,vs,hkv,hd⟩:=E7 I.hok ha;refine Ge Oy hd.typeIs PySem.F.entry_dict_items (VX _) (meets_dict_items (Bv X.prog X.w) a hm) ⟨⟨vs,hd⟩,?_⟩;refine⟨.ref s.heap.objs.size,_,I.laid (t':=s.toks) (o:=CA s.heap.objs.size a) (λb o e=>AU _ e) (Au _) ⟨⟨_,Bg _ rfl,rfl,rfl⟩,⟨_,Bg _ rfl⟩,λh1 h2 f e=>?_⟩,rfl,q _ (I.hok.fresh (Au _))⟩;obtain⟨o,ho,r⟩:=f;exact⟨o,e o ho,r⟩
def WX (to:TE):TE:=λσ H Q=>to σ H λx H1=>∃a kvs,x=.ref a/\Rd H1 a (.dK kvs)/\∀v,H1 v=none->Q (.ref v) (Ab H1 v (CA v a))
def Qp (ho:PE X o to)(hbase:attributeBase o "items" X.env (eval o X.env)=eval o X.env:=by rfl)(hline:(apos.endLine == cpos.line)=true:=by rfl):PE X (.Call (.Attribute o "items" apos) [] [] cpos) (WX to):=by intro aa s σ H Q I h;refine wpAny_Call_method0_late hbase hline (Aw (ho aa s σ H _ I h) λv s1 hp0=>?_);obtain⟨x,H1,I1,r1,a,kvs,e,rd,q⟩:=hp0;subst e;cases r1;obtain⟨h1,h2,_⟩:=QK I1 (.inl ⟨_,rd⟩);exact⟨"dict", "dict.items",JE,Oy,PySem.F.type_dict_items,h1,h2,JW rfl (PySem.evalArgs_none (gK aa s1 σ H1 (.ref a) [] _ [] Q I1 rfl .nil ⟨a,kvs,rfl,rfl,rd,q⟩))⟩
def jT (tl:TE):TI:=λσ H R=>tl σ H λx H1=>∃v a kvs,x=.ref v/\H1 v=some (CA v a)/\((H1 a=some (.dK kvs)/\∀o,R (J4 a o kvs) (Ab H1 a (.frz o (.dK kvs))))\/∃o,H1 a=some (.frz o (.dK kvs))/\R (J4 a o kvs) H1)
def Ql {x1} (hl:PE X l tl):PI X (.Tuple elts x1 tp) l (jT tl):=by
 intro aa s σ H R I h;refine Aw (hl aa s σ H _ I h) λu s1 hp0=>?_;obtain⟨x,H1,I1,r1,q1⟩:=hp0;obtain⟨v,a,kvs,rfl,hv,q⟩:=q1;cases r1;obtain⟨view,_,_⟩:=I1.hok v _ hv;rcases q with⟨ha,q⟩ | ⟨o0,ha,q⟩
 ·obtain⟨hz,hm,vs,hkv,o,es,ep,ho,ex,hd,r⟩:=F3 I1.hok ha;have hat:s1.heap.DictAt (Bv X.prog X.w) a vs ep:=⟨o,es,ho,ex,hd,r⟩;have hl':=hkv.length;refine wpAny_pyIter_items (knd:=Bv X.prog X.w) view hat ⟨s1.heap.objs.size,[s1.heap.objs.size],_,_,Ab H1 a (.frz o (.dK kvs)),rfl,(I1.freeze ha ho).kept (t':=s1.toks) (λb o e=>AU _ e),Su _ a o kvs es ep hd,⟨.none,.none,?_⟩,λb hb=>?_,q o⟩
  ·rw[hl'];exact Bg _ rfl
  have e:b=s1.heap.objs.size:=by simpa using hb
  subst e;exact(I1.freeze ha ho).fpOk (Au _) ((I1.freeze ha ho).hok.fresh (Au _))
 obtain⟨ho,hz,hm,vs,hkv,o',es,ep,ho',ex,hd,r⟩:=I1.hok a _ ha;rw[ho]at ho';cases ho';have hat:s1.heap.DictAt (Bv X.prog X.w) a vs ep:=⟨o0,es,ho,ex,hd,r⟩;have hl':=hkv.length;refine wpAny_pyIter_items (knd:=Bv X.prog X.w) view hat ⟨s1.heap.objs.size,[s1.heap.objs.size],_,_,H1,rfl,I1.kept (t':=s1.toks) (λb o e=>AU _ e),Su _ a o0 kvs es ep hd,⟨.none,.none,?_⟩,λb hb=>?_,q⟩
 ·rw[hl'];exact Bg _ rfl
 have e:b=s1.heap.objs.size:=by simpa using hb
 subst e;exact I1.fpOk (Au _) (I1.hok.fresh (Au _))
end
end L2
namespace L2
open PySem PySem.Spec PyProof.Rows PySem.W
end L2
namespace DPT
open PySem PyProof.Rows
end DPT
namespace L2
open PySem PySem.Spec PyProof.Rows PySem.W
section
variable {X:Cx}
def mZ:Cp X (.type "tuple") (λxs H Q=>∃p ys,xs=[.ref p]/\SqL X.K H p ys/\∀l o,H l=none->o.dict=none->Q (.ref l) (Ab H l (.frz o (.tup ys)))):=by
 intro aa s σ H xs us Q I r h;obtain⟨p,ys,rfl,hq,q⟩:=h;obtain⟨u,rfl,rx⟩:=CB r;cases rx;obtain⟨its,r',pl,hz⟩:=I.list hq;have hlen:=r'.length;refine call_tuple_list pl.isList (λh' kp=>?_) (by simp only[BB] <;> lia);have I1:Inv X aa σ H { s with heap:=h' }:=I.kept (t':=s.toks) kp
 have I2:Inv X aa σ (Ab H h'.objs.size (.frz { cls:=.type "tuple",data:=.seq its.toArray } (.tup ys))) { s with heap:=h'.push { cls:=.type "tuple",data:=.seq its.toArray } }:=
  I1.laid (t':=s.toks) (λb o e=>AU _ e) (Au _) (show ObjOk X.prog X.w _ _ _ (.frz _ (.tup ys)) from ⟨Bg _ rfl,hz,its,r',IsTup.new _ _⟩)
 exact⟨.ref h'.objs.size,_,I2,rfl,q _ _ (I1.hok.fresh (Au _)) rfl⟩
end
end L2
namespace DR
open PySem PyProof.Rows
section
variable {prog:Program}{w:World}{A:Around}{E:Value->Shared->Prop}{s:Shared}
def RawAt (h:Heap)(d:Addr)(es:Array DictEntry)(ep:Nat):Prop:=∃o,h.get? d=some o/\o.ExactDict/\o.data=.dict es ep
def RawAt.typeIs (x:RawAt s.heap d es ep):s.TypeIs (.ref d) "dict" := let ⟨o,ho,hc,_⟩:=x;⟨o,ho,hc.1⟩
def RawAt.lt (x:RawAt h d es ep):d<h.objs.size:=let ⟨_,ho,_⟩:=x;A1 ho
def RawAt.at (x:RawAt h d es ep)(k:∀o,h.get? d=some o->h'.get? d=some o):RawAt h' d es ep:=let ⟨o,ho,r⟩:=x;⟨o,k o ho,r⟩
def iter_raw (hd:(d == sysModules)=false)(hm:RawAt s.heap d es ep)
  (hQ:Q (.ref s.heap.objs.size) { s with heap:=s.heap.push { cls:=.type "dict_keyiterator",data:=.fields #[.ref d,.int 0 0,.int es.size 0,.int ep 0] } }):wpAny (model prog w) A (pyIter (.ref d)) Q E s:=by
 obtain⟨o,ho,hc,hdat⟩:=id hm
 have hT:s.TypeIs (.ref d) "dict" := hm.typeIs
 (refine LH hT F.slot_dict_iter (CV F.slot_dict_iter hT F.entry_dict_iter ?_ (F.args_dict_iter_1 _)))
 (unfold Builtin.«dict.__iter__»)
 refine Ae ?_
 (unfold Builtin.Dict.dictSlotNone)
 (refine Ae (wpAny_notOrdered_dict hT ?_))
 (show wpAny _ _ (pure (Value.ref d)) _ _ s)
 refine An ?_
 (show wpAny _ _ (Builtin.Dict.showsAll d >>= _) _ _ s)
 unfold Builtin.Dict.showsAll
 (rw[Am (by rw[hd];exact BE)])
 refine Ae (An ?_)
 (refine Ae (Ol ho hdat ?_))
 (refine Ae (wpAny_dictEpoch ho hdat ?_))
 (refine Ae (CW (An ⟨_,rfl, "dict_keyiterator",_,⟨_,Bg _ rfl,rfl⟩,Lu.lookup,?_⟩)))
 simpa [rawInt] using hQ
def next_raw (hit:s.heap.IsKeyIter it d i es.size ep)(hm:RawAt s.heap d es ep)(hlt':i<es.size)
  (hQ:∀h',h'.IsKeyIter it d (i+1) es.size ep->Heap.SameBut it s.heap h'->Q (some es[i].key) { s with heap:=h' }):wpAny (model prog w) A (pyNext (.ref it)) Q E s:=by
 (obtain⟨o,ho,hc,hd⟩:=id hit)
 obtain⟨od,hod,hcd,hdd⟩:=id hm
 unfold pyNext
 refine Ae (G4 (FD (name:=Str.ofString "__next__") hit.typeIs Lu (CV Lu hit.typeIs F.entry_dict_keyiterator_next ?_ (F.args_dict_keyiterator_next_1 _))))
 refine Ae (An ?_)
 refine Ae ?_
 refine Ae ?_
 (first | refine Ae (OE hit.typeIs (An ?_)) | refine Ae (Oz hit.typeIs (An ?_)))
 (refine Ae (Oa ho hd ?_))
 (have hown:Builtin.Dict_items.ownsTuple "dict_keyiterator" = false:=by decide)
 (simp only[hown,EK,Ec])
 (show wpAny _ _ (if (Value.ref d == Value.none)=true then _ else _) _ _ s)
 (rw[Am (show ¬((Value.ref d == Value.none)=true) from BE)])
 refine Ae (An ?_)
 (refine Ae (Ol hod hdd ?_))
 rw[Am (by simp)]
 refine Ae (An ?_)
 (refine Ae (wpAny_dictEpoch hod hdd ?_))
 rw[Am (by simp)]
 refine An ?_
 (simp only[show ¬((i:Int)<0) from by lia,Ec,Co,Ep hlt'])
 refine Ae ?_
 (first | refine Ae (OE hit.typeIs (An ?_)) | refine Ae (Oz hit.typeIs (An ?_)))
 (refine Ae (wpAny_isOneOf_keyiter hit.typeIs ?_))
 (show wpAny _ _ (setField (.ref it) 1 (rawInt ((i:Int)+1)) >>= _) _ _ s)
 (refine Ae (Od ho hd (by simp) ?_))
 have hit':(s.heap.update it (Obj.mapFields (·.setIfInBounds 1 (rawInt ((i:Int)+1))))).IsKeyIter it d (i+1) es.size ep:=
  ⟨_,HZ _ ho (Obj.isFreed_of_fields (Os hd _)),(Obj.cls_mapFields ..).trans hc,by rw[Os hd];simp[rawInt]⟩
 (refine Ae (DE ?_))
 (refine Ae (wpAny_isOneOf_keyiter (s:={ s with heap:=s.heap.update it (Obj.mapFields (·.setIfInBounds 1 (rawInt ((i:Int)+1)))) }) hit'.typeIs ?_))
 (show wpAny _ _ (pure es[i].key) _ _ _)
 exact An (An ⟨_,rfl,An (hQ _ hit' (F7 ..))⟩)
def end_raw (hh:A.handled=none)(hit:s.heap.IsKeyIter it d i es.size ep)(hm:RawAt s.heap d es ep)(hge:es.size<=i)
  (hQ:∀h',Heap.ExtBut it s.heap h'->Q none { s with heap:=h' }):wpAny (model prog w) A (pyNext (.ref it)) Q E s:=by
 (obtain⟨o,ho,hc,hd⟩:=id hit)
 obtain⟨od,hod,hcd,hdd⟩:=id hm
 unfold pyNext
 refine Ae (G4 (FD (name:=Str.ofString "__next__") hit.typeIs Lu (CV Lu hit.typeIs F.entry_dict_keyiterator_next ?_ (F.args_dict_keyiterator_next_1 _))))
 refine Ae (An ?_)
 refine Ae ?_
 refine Ae ?_
 (first | refine Ae (OE hit.typeIs (An ?_)) | refine Ae (Oz hit.typeIs (An ?_)))
 (refine Ae (Oa ho hd ?_))
 (have hown:Builtin.Dict_items.ownsTuple "dict_keyiterator" = false:=by decide)
 (simp only[hown,EK,Ec])
 (show wpAny _ _ (if (Value.ref d == Value.none)=true then _ else _) _ _ s)
 (rw[Am (show ¬((Value.ref d == Value.none)=true) from BE)])
 refine Ae (An ?_)
 (refine Ae (Ol hod hdd ?_))
 rw[Am (by simp)]
 refine Ae (An ?_)
 (refine Ae (wpAny_dictEpoch hod hdd ?_))
 rw[Am (by simp)]
 refine An ?_
 (simp only[show ¬((i:Int)<0) from by lia,Ec,Co,JV hge])
 refine Ae ?_
 (first | refine Ae (OE hit.typeIs (An ?_)) | refine Ae (Oz hit.typeIs (An ?_)))
 (show wpAny _ _ (setField (.ref it) 0 .none >>= _) _ _ s)
 (refine Ae (Od ho hd (by simp) ?_))
 (show wpAny _ _ (newExc (.type "StopIteration") [] >>= _) _ _ _)
 refine Ae ?_
 simp only[newExc,newTuple]
 (refine Ae (CW ?_ (by size_fits)))
 (refine Ae (m:=firstArgMember _ _) (CQ (a:=Value.none) (by first | rfl | (simp only[firstArgMember];rfl)) ?_))
 (refine CW ?_ (by size_fits))
 simp only[raiseNew]
 (refine Ae (N6 ?_))
 (rw[show A.in1.handled=none from hh])
 (refine Ae (An (wpAny_throw ?_)))
 (refine Ae (Ik (T := "StopIteration") (b:=true) ⟨_,Bg _ rfl,rfl⟩ isSubtype_stop ?_))
 (exact An (hQ _ (((F7 ..).extBut.push _).push _)))
theorem Wk (hh:A.handled=none)(I d:Addr)(hne:d≠I)(es:Array DictEntry)(ep:Nat) :
  Walks prog w A I [I,d] [I] es.size (λi v=>∃e,es[i]? = some e/\v=e.key) (λi h=>h.IsKeyIter I d i es.size ep/\RawAt h d es ep) where
 sub:=λb hb=>by simp at hb;simp[hb]
 frame:=λ_ _ _ st hk=>⟨st.1.at λo e=>hk I (by simp) o e,st.2.at λo e=>hk d (by simp) o e⟩
 item:=λi s Q E hi st hQ=>by refine next_raw st.1 st.2 hi λh' hit' hs'=>?_;exact hQ _ h' s.toks ⟨es[i],Ep hi,rfl⟩ ⟨hit',st.2.at λo e=>hs'.extBut d o hne e⟩ λb o hb e=>hs'.extBut b o (λh=>hb (by simp[h])) e
 done:=λs Q E st hQ=>end_raw hh st.1 st.2 (Au _) λh' he'=>hQ h' s.toks λb o hb e=>he' b o (λh=>hb (by simp[h])) e
 self:=λ_ _ _ _ st hQ=>wpAny_pyIter_keyiter st.1 hQ
theorem src_raw (lo:(d == sysModules)=false):PySem.W.KdlSrc prog w "dict" d d es.size (λi v=>∃e,es[i]? = some e/\v=e.key) (λh=>RawAt h d es ep) where
 type:=λ_ hm=>hm.typeIs
 there:=λ_ hm=>⟨hm.lt,hm.lt⟩
 keep:=λ_ _ hm hk=>hm.at λo e=>hk d (.inl rfl) o e
 notList:=by decide
 notTuple:=by decide
 hint:=λ_ _ _ _ hm hq=>PySem.W.kdl_hint_dict hm.typeIs hq
 iter:=λ_ _ hh hm=>⟨_,_,(λ_ _ hq=>iter_raw lo hm hq),Wk hh _ d (Be hm.lt) es ep,⟨⟨_,Bg _ rfl,rfl,rfl⟩,hm.at λo e=>AU _ e⟩⟩
def gU (hd:(d == sysModules)=false):MeetsIn prog w (Builtin.«dict.__len__» ⟨[.ref d],[]⟩) (λ_ R s=>∃es ep,RawAt s.heap d es ep/\R (.ok (.ret (.int es.size s.toks))) { s with toks:=s.toks+1 }):=
 .of_wp λA R s ⟨es,ep,hm,h⟩=>by obtain⟨o,ho,hc,hdat⟩:=hm;(show wpAny _ _ (dictSize d >>= _) _ _ s);unfold dictSize;(refine Ae (Ae (Ol ho hdat (An ?_))));(show wpAny _ _ (Builtin.Dict.pendingCount d >>= _) _ _ s);(refine Ae (wpAny_pendingCount_other hd ?_));refine wpAny_ret_mkInt ?_;rw[Nat.add_zero];exact h
def len_raw (hd:(d == sysModules)=false)(hm:RawAt s.heap d es ep)(hfit:(es.size:Int)<2^63)
  (h:Q (.int es.size (s.toks+1)) { s with toks:=s.toks+1+1 }):wpAny (model prog w) A (call (.builtin "len") [.ref d]) Q E s:=by
 (refine RW kind_len plain_len entry_len (args_len1 _) ?_)
 unfold Builtin.«len»
 (refine Ae (m:=oneArg "len" _) (An ?_))
 refine Ae (m:=callSpecial? (.ref d) (Str.ofString "__len__")) (FD (name:=Str.ofString "__len__") hm.typeIs F.slot_dict_len (Ge F.slot_dict_len hm.typeIs F.entry_dict_len (F.args_dict_len_1 _) (gU hd) ⟨es,ep,hm,?_⟩))
 (show wpAny _ _ _ _ _ { s with toks:=s.toks+1 })
 (refine Ae (DE (An ?_)))
 refine Ae (wpAny_letGo ?_)
 (show wpAny _ _ (if ((es.size:Nat):Int)<0 then _ else _) _ _ _)
 rw[Am (by lia)]
 (show wpAny _ _ (if ((es.size:Nat):Int)≥2^63 then _ else _) _ _ _)
 rw[Am (by lia)]
 (exact Ae (wpAny_mkInt (An ⟨_,rfl,h⟩)))
end
end DR
namespace L2
open PySem PySem.Spec PyProof.Rows
section
variable {X:Cx}
theorem KT.getT :∀{kvs:List (PyData×V)}{xs:List (PyData×Addr×Value)}{i:Nat}{k:PyData}{v:V},KT H kvs xs->kvs[i]? = some (k,v)->∃b u,xs[i]? = some (k,b,u)/\RdT H b k/\RelV v u
 | _,_,_,_,_,.nil,e=>by simp at e
 | _,_,0,k,v,.cons (a:=p) (b:=q) r _,e=>by obtain⟨r1,r2,r3⟩:=r;obtain⟨q1,q2,q3⟩:=q;simp at e;subst e;simp only at r1;subst r1;exact⟨q2,q3,rfl,r2,r3⟩
 | _,_,i+1,_,_,.cons _ t,e=>by obtain⟨b,u,h1,h2⟩:=KT.getT (i:=i) t (by simpa using e);exact⟨b,u,by simpa using h1,h2⟩
def Kv (x:ObjOk P w H h a (.dT kvs)):kvs.length<=sizeLine/\(a == sysModules)=false/\∃xs o es ep,KT H kvs xs/\h.get? a=some o/\o.ExactDict/\o.data=.dict es ep/\es.toList=xs.map (entryOfKey (WK.dataKind P w))/\es.size=kvs.length:=by obtain⟨z,y,xs,r,o,es,ep,h1,h2,h3,h4,h5⟩:=x;refine⟨z,y,xs,o,es,ep,r,h1,h2,h3,h4,?_⟩;rw[size_of_entries h4,<- G6 r]
def UB {P:Program}{w:World}{es:Array DictEntry}{xs:List (PyData×Addr×Value)}{i:Nat}{k:PyData}{b:Addr}{u:Value}(h:es.toList=xs.map (entryOfKey (WK.dataKind P w)))(hx:xs[i]? = some (k,b,u)):∃e,es[i]? = some e/\e.key=.ref b/\e.val=u:=by refine⟨_,by rw[entry_at h,hx];rfl,rfl,rfl⟩
structure Sa (H:Hp)(as:List Addr)(kvs:List (PyData×V)):Prop where
 len:as.length=kvs.length
 at':∀(i:Nat) a k v,as[i]? = some a->kvs[i]? = some (k,v)->RdT H a k
def KT.ky (r:KT H kvs xs):Sa H (xs.map λx=>x.2.1) kvs:=by refine⟨by rw[Ak];exact(G6 r).symm,λi a k v h1 h2=>?_⟩;obtain⟨b,u,e,t,_⟩:=KT.getT r h2;rw[AI,e]at h1;cases h1;exact t
def VE (hc:X.calm=true):Cp X (.type "list") (λxs H Q=>∃p kvs,xs=[.ref p]/\Rd H p (.dT kvs)/\∀l as,H l=none->Sa H as kvs->Q (.ref l) (Ab H l (.lst (as.map V.ref)))):=by
 intro aa s σ H xs us Q I r h;obtain⟨p,kvs,rfl,hp,q⟩:=h;obtain⟨u,rfl,ru⟩:=CB r;cases ru;obtain⟨hz,hm,ys,o,es,ep,rk,ho,ex,hd,he,hs⟩:=Kv (hp.ok I.hok);refine PySem.W.kdl_call (DR.src_raw (es:=es) (ep:=ep) hm) (I.ok.hd hc) ⟨o,ho,ex,hd⟩ (by lia) λh' tk acc c hk hS hacc=>?_;have hl:=G6 rk;have ky:=rk.ky;refine⟨.ref _,_,I.laid (a:=s.heap.objs.size) (o:=.lst ((ys.map λx=>x.2.1).map V.ref)) hk (Au _) ⟨by rw[Ak,Ak];lia,acc.toList,c,OL ?_ λi x u hx hu=>?_,hS⟩,rfl,q _ _ (I.hok.fresh (Au _)) ky⟩
 ·have el:acc.toList.length=acc.size:=by simp
  rw[Ak,Ak,el,hacc.1,hs,hl]
 obtain⟨e,e1,e2⟩:=hacc.2 i u (by simpa using hu);rw[AI,AI]at hx;cases hy:ys[i]? with
 | none=>rw[hy]at hx;cases hx
 | some y=>obtain⟨k,b,v⟩:=y;rw[hy]at hx;cases hx;obtain⟨e',f1,f2,_⟩:=UB he hy;rw[e1]at f1;cases f1;rw[e2,f2];rfl
def NU:Cp X (.builtin "len") (λxs H Q=>∃a kvs,xs=[V.ref a]/\Rd H a (.dT kvs)/\Q (.int kvs.length) H):=by intro aa s σ H xs us Q I r h;obtain⟨a,kvs,rfl,ha,q⟩:=h;obtain⟨u,rfl,ru⟩:=CB r;cases ru;obtain⟨hz,hm,ys,o,es,ep,rk,ho,ex,hd,he,hs⟩:=Kv (ha.ok I.hok);refine DR.len_raw (es:=es) (ep:=ep) hm ⟨o,ho,ex,hd⟩ (by rw[AK]at hz;lia) ?_;rw[hs];exact⟨.int kvs.length,H,I.tok _,⟨_,rfl⟩,q⟩
def Inv.freezeT (I:Inv X aa σ H s)(ha:H a=some (.dT kvs))(ho:s.heap.get? a=some o):Inv X aa σ (Ab H a (.frz o (.dT kvs))) s:=by
 have hne:∀b,H b=none->b≠a:=λb e z=>by rw[z,ha]at e;cases e
 have keep:∀b u,H b=some u->u≠.dT kvs->Ab H a (.frz o (.dT kvs)) b=some u:=λb u e d=>by rw[Ai (A7 e ha d)];exact e
 have st:Inv X aa σ (Ab H a (.frz o (.dT kvs))) { s with heap:=s.heap,gens:=s.gens,drawn:=s.drawn,toks:=s.toks }:=by
  refine I.step (g':=s.gens) (t':=s.toks) (d':=s.drawn) (ch:=[]) (λb hb=>nomatch hb) (λb o _ _ _ e _=>e) (λb o _ _ _ e _=>⟨o.slots,e⟩) (λb o _ e n=>by rw[Ai (hne b n)];exact n) (λb o _ e=>⟨o,e⟩)
   (λb xs e=>keep b _ e (by intro z;cases z)) (λb o u e=>keep b _ e (by intro z;cases z)) (λb ps e=>⟨#[],by rw[keep b _ e (by intro z;cases z)];simp⟩) (λm hm=>hm) (λb u e=>?_) I.bare
  by_cases hb:b=a
  ·subst hb;rw[Ag]at e;cases e;exact⟨ho,(I.hok _ _ ha).stay (λc v _ q=>q) (λc q=>keep c _ q (by intro z;cases z)) λc xs q=>keep c _ q (by intro z;cases z)⟩
  rw[Ai hb]at e;exact(I.hok b u e).stay (λc v _ q=>q) (λc q=>keep c _ q (by intro z;cases z)) λc xs q=>keep c _ q (by intro z;cases z)
 exact st
def Ir (a:Addr)(o:Obj)(kvs:List (PyData×V)):It:=
 ⟨λi H=>i<kvs.length/\H a=some (.frz o (.dT kvs)),λi H x H'=>H'=H/\∃k v b,kvs[i]? = some (k,v)/\x=.ref b/\RdT H b k,λi H=>kvs.length<=i/\H a=some (.frz o (.dT kvs))⟩
def Tu (I:Inv X aa σ H s)(ha:H a=some (.frz o (.dT kvs)))(hd:o.data=.dict es ep) :
  ∃xs,KT H kvs xs/\DR.RawAt s.heap a es ep/\es.toList=xs.map (entryOfKey (WK.dataKind X.prog X.w))/\es.size=kvs.length:=by
 obtain⟨e,q⟩:=(show ObjOk X.prog X.w H s.heap a (.frz o (.dT kvs)) from I.hok a _ ha)
 obtain⟨hz,hm,ys,o',es',ep',rk,ho,ex,hd',he,hs⟩:=Kv q
 rw[e]at ho
 cases ho
 rw[hd]at hd'
 cases hd'
 exact⟨ys,rk,⟨o,e,ex,hd⟩,he,hs⟩
theorem Ss {P:Program}{w:World}{K:W.Frag}{tg:Expr}(it a:Addr)(o:Obj)(kvs:List (PyData×V))(es:Array DictEntry)(ep:Nat)(hd:o.data=.dict es ep) :
  FG P w K tg (Ir a o kvs) [it] it (λi h=>h.IsKeyIter it a i kvs.length ep) where
 mem:=by simp
 obj:=λi h st b hb=>by
  have e:b=it:=by simpa using hb
  subst e;obtain⟨o,e,c,d⟩:=st;exact⟨o,e,λv z=>by rw[d]at z;cases z⟩
 keep:=λi h h' st k=>by obtain⟨o,e,r⟩:=st;exact⟨o,k it (by simp) o e,r⟩
 item:=by
  intro X hP hw hK hc i aa s σ H E I hf st hg;subst hP hw hK;obtain⟨f0,f1,f2,f3,f4,f5⟩:=hf it (by simp);obtain⟨hi,ha⟩:=hg;obtain⟨xs,rk,hat,he,hs⟩:=Tu I ha hd;have hx:kvs[i]? = some (kvs[i].1,kvs[i].2):=AH hi;obtain⟨b,u,hy,rb,_⟩:=KT.getT rk hx;obtain⟨e0,k1,k2,_⟩:=UB he hy;rw[<- hs]at st;have hi':i<es.size:=by lia
  refine DR.next_raw st hat hi' λh' st' sb=>?_;have I1:Inv X aa σ H { s with heap:=h' }:=I.turned (t':=s.toks) (λb o hb e=>(sb.2 b hb).trans e) f0 f1 f3 f4 f5;obtain⟨o',e,c,d⟩:=id st';rw[hs]at st';have rk':RelV (V.ref b) es[i].key:=by rw[Ep hi']at k1;cases k1;exact k2
  exact⟨_,rfl,Jy (s:={ s with heap:=h' }) e c d (by decide) ⟨.ref b,H,I1,rk',⟨rfl,_,_,b,hx,rfl,rb⟩,st',λb hb=>(hf b hb).1⟩⟩
 done:=by intro X hP hw hK hc i aa s σ H E I hf st hg;subst hP hw hK;obtain⟨f0,f1,f2,f3,f4,f5⟩:=hf it (by simp);obtain⟨hi,ha⟩:=hg;obtain⟨xs,rk,hat,he,hs⟩:=Tu I ha hd;rw[<- hs]at st;exact DR.end_raw (I.ok.hd hc) st hat (by lia) λh' eb=>⟨rfl,I.turned (t':=s.toks) (λb o hb e=>eb b o hb e) f0 f1 f3 f4 f5⟩
 self:=λ_ _ _ _ _ st h=>wpAny_pyIter_keyiter st h
def UM (tl:TE):TI:=λσ H R=>tl σ H λx H1=>∃a kvs,x=.ref a/\((H1 a=some (.dT kvs)/\∀o,R (Ir a o kvs) (Ab H1 a (.frz o (.dT kvs))))\/∃o,H1 a=some (.frz o (.dT kvs))/\R (Ir a o kvs) H1)
def TM (hl:PE X l tl):PI X tg l (UM tl):=by
 intro aa s σ H R I h;refine Aw (hl aa s σ H _ I h) λu s1 hp0=>?_;obtain⟨x,H1,I1,r1,q1⟩:=hp0;obtain⟨a,kvs,rfl,q⟩:=q1;cases r1;rcases q with⟨ha,q⟩ | ⟨o0,ha,q⟩
 ·obtain⟨hz,hm,ys,o,es,ep,rk,ho,ex,hd,he,hs⟩:=Kv (I1.hok a _ ha);have If:=I1.freezeT ha ho;refine DR.iter_raw (es:=es) (ep:=ep) hm ⟨o,ho,ex,hd⟩ ⟨s1.heap.objs.size,[s1.heap.objs.size],_,_,Ab H1 a (.frz o (.dT kvs)),rfl,If.kept (t':=s1.toks) (λb o e=>AU _ e),Ss _ a o kvs es ep hd,⟨_,Bg _ rfl,rfl,by rw[hs] <;> rfl⟩,λb hb=>?_,q o⟩;obtain rfl:b=s1.heap.objs.size:=by simpa using hb
  exact If.fpOk (Au _) (If.hok.fresh (Au _))
 obtain⟨ho,hq⟩:=(show ObjOk X.prog X.w H1 s1.heap a (.frz o0 (.dT kvs)) from I1.hok a _ ha);obtain⟨hz,hm,ys,o,es,ep,rk,ho',ex,hd,he,hs⟩:=Kv hq;rw[ho]at ho';cases ho';refine DR.iter_raw (es:=es) (ep:=ep) hm ⟨o0,ho,ex,hd⟩ ⟨s1.heap.objs.size,[s1.heap.objs.size],_,_,H1,rfl,I1.kept (t':=s1.toks) (λb o e=>AU _ e),Ss _ a o0 kvs es ep hd,⟨_,Bg _ rfl,rfl,by rw[hs] <;> rfl⟩,λb hb=>?_,q⟩;obtain rfl:b=s1.heap.objs.size:=by simpa using hb
 exact I1.fpOk (Au _) (I1.hok.fresh (Au _))
end
section
variable {X:Cx}
def nB:Cp X (.builtin "sorted") (λxs H Q=>∃(p:Addr) (ns:List Int),xs=[.ref p]/\SqL X.K H p (ns.map V.int)/\ns.length<64/\∀(l:Addr) (zs:List Int),H l=none->zs.Perm ns->zs.Pairwise (·<=·)->Q (.ref l) (Ab H l (.lst (zs.map V.int)))):=by intro aa s σ H xs us Q I r h;obtain⟨p,ys,rfl,hp,hz,q⟩:=h;obtain⟨u,rfl,ru⟩:=CB r;cases ru;obtain⟨its,r2,pl,hz2⟩:=I.list hp;have hlen:=r2.length;rw[Ak]at hlen;refine sorted_ints pl.isList (jI r2) (by lia) λout ss' h1 h2 h3=>?_;obtain⟨e,he⟩:=sortedAll_at s.heap its out;have hs:sizeLine=16777216:=AK;have hpl:=h2.length_eq;refine⟨.ref _,_,I.laid (a:=s.heap.objs.size+1) (o:=.lst (ss'.map V.int)) (t':=s.toks) (λ_ _=>sortedAll_old) (Fc _) ⟨by rw[Ak];lia,out.toList,e,OK h1,by simpa using he⟩,rfl,q _ _ (I.hok.fresh (Fc _)) h2 h3⟩
end
def Bf (h:Nat.ble n 16777216=true:=by rfl):n<=sizeLine:=by rw[AK];exact Nat.le_of_ble_eq_true h
abbrev BI (a b:List Str):List Str:=a++b
def AO (h1:sc.kind=.function:=by rfl)(h2:sc.isCoroutine=false:=by rfl)(h3:sc.isGenerator=false:=by rfl)(h4:N.Nodup:=by decide +kernel)(h5:N.take ps.length=ps:=by rfl)
  (h6:∀x∈ps,sc.names.lookup x=some .local\/sc.names.lookup x=some .cell:=by decide +kernel)(h7:∀y∈sc.names,y.2≠.free:=by decide +kernel):AM N ps sc:=⟨h1,h2,h3,h4,h5,h6,h7⟩
def BX (h1:X.env.scope=sc:=by rfl)(h2:N=own++fr:=by rfl)(h3:scope.kind=.function:=by rfl)(h4:sc.kind=.function:=by rfl)(h5:∀y∈scope.names,y.2≠NameKind.cell:=by decide +kernel)
  (h6:∀y∈scope.names,y.2=NameKind.free->sc.names.lookup y.1=some NameKind.cell:=by decide +kernel)(h7:∀y∈scope.names,y.2=NameKind.local->scope.names.lookup y.1=some NameKind.local:=by decide +kernel)(h8:js.map (λj=>X.N[j]?)=fr.map some:=by rfl)
  (h9:∀x∈fr,sc.names.lookup x=some NameKind.cell/\scope.names.lookup x=some NameKind.free:=by decide +kernel):LcOk X N sc scope own fr js:=⟨h1,h2,h3,h4,h5,h6,h7,h8,h9⟩
section
variable {X:Cx}{i:Nat}{x:Str}{pos pos':Pos}
def AB (hN:X.N.Nodup)(he:PE X e te)(hi:X.N[i]? = some x:=by rfl)(hx:J1 X.env.scope x:=by exact .inl rfl)(hs:swapsWith e (some (.Name x pos')) pos.line X.env=pure false:=by rfl)(hf:X.fn x=true\/X.env.scope.names.lookup x=some .local:=by first | exact .inl rfl | exact .inr rfl | assumption) :
  PS X (.Assign [.Name x pos'] e pos) (OT te (E4 i)):=FO hN hi hx he hs hf
def AZ (hN:X.N.Nodup)(hi:X.N[i]? = some x:=by rfl)(hx:J1 X.env.scope x:=by exact .inl rfl)(hf:X.fn x=true\/X.env.scope.names.lookup x=some .local:=by first | exact .inl rfl | exact .inr rfl | assumption):PG X (.Name x pos) (E4 i):=Zd hN hi hx hf
end
section
variable {P:Program}{w:World}{K:W.Frag}{mg:Str->Option Value}{base:Heap}{x qual:Str}{st:Stmt}{f:Addr}{fd:FuncData}{N ps:List Str}{k:Nat}{sp:Sp}
def Fun.oq (F:Fun K x qual st f fd)(S:AM N ps (Av st))
  (hbody:∀(cdv:Value) (A:Around) (outer:List Env) (s:Shared) (H:Hp) (vs:List V) (Q:VK) (E:XK),Room k (A.deeper (envOfC qual (Av st) s.heap.objs.size f cdv))->sp vs H Q E->∃t,PSs (F4 CX0 P w K mg base N qual (Av st) f cdv A outer s H E).nox (Cj st) t/\t { nx:=λ_ H'=>Q .non H',rt:=Q } (start N vs) H)
  (len:∀vs H Q E,sp vs H Q E->vs.length=ps.length:=by intro _ _ _ _ h;cases h;subst_vars;rfl):FnOk P w K mg base CX0 (k+1) f fd ps sp:=F.ok S len hbody
end
def BD (h:H p=none):∃H',Ab H p o=H'/\Same H H'/\H' p=some o:=⟨_,rfl,Same.new h,Ag⟩
inductive Qf (K:W.Frag)(x:Str)(s:Stmt)(f:Addr):Prop
 | mk {od an:Option Addr}{sl:Array (Option Value)}{oc kV dc pm cd ct:Value}(a:PySem.W.nsIn K mainGlobals x=some (some (.ref f))) (l:K.lookup f=some ⟨oc,od,.func (PySem.W.fnOf x x (Fu s) (Cj s) (Av s) .none kV dc pm an cd ct),sl⟩)
   (c:PySem.W.codeIn K cd x=true) (k:PySem.W.keepIn K (.ref f)=true):Qf K x s f
def Qf.df {K:W.Frag}{h:Heap}{mg:Str->Option Value}{x:Str}{s:Stmt}{f:Addr}(q:Qf K x s f)(X:K.In h)(G:h.Ns mainGlobals mg)(ps:List Str)
  (hb:∀(kV doc pm:Value) (an:Option Addr) (cdv ct:Value) (us:List Value),us.length=ps.length->bindArgs (PySem.W.fnOf x x (Fu s) (Cj s) (Av s) .none kV doc pm an cdv ct) ⟨us,[]⟩=pure (ps.zip us)):∃fd,Df K mg x s ps f fd:=by
 obtain⟨a,l,c,k⟩:=q
 exact⟨_,Ft l c k,C7 X G a,(Ft l c k).binds hb⟩
inductive Qm (K:W.Frag)(C:Addr)(x q:Str)(s:Stmt)(f:Addr):Prop
 | mk {od an:Option Addr}{sl:Array (Option Value)}{oc kV dc pm cd ct:Value}(a:PySem.W.findIn K (.ref C) x=some (some (.ref f))) (i:PySem.W.isFn K (.ref f)=true) (l:K.lookup f=some ⟨oc,od,.func (PySem.W.fnOf x q (Fu s) (Cj s) (Av s) .none kV dc pm an cd ct),sl⟩)
   (c:PySem.W.codeIn K cd q=true) (k:PySem.W.keepIn K (.ref f)=true):Qm K C x q s f
def Qm.df {K:W.Frag}{C:Addr}{x qu:Str}{s:Stmt}{f:Addr}(q:Qm K C x qu s f)(ps:List Str)
  (hb:∀(kV doc pm:Value) (an:Option Addr) (cdv ct:Value) (us:List Value),us.length=ps.length->bindArgs (PySem.W.fnOf x qu (Fu s) (Cj s) (Av s) .none kV doc pm an cdv ct) ⟨us,[]⟩=pure (ps.zip us)):∃fd,Fun K x qu s f fd/\Binds K fd ps []/\Dr K C x f:=by
 obtain⟨a,i,l,c,k⟩:=q
 exact⟨_,Ft l c k,(Ft l c k).binds hb,a,i,k⟩
inductive Ca (P:Program)(w:World)(K:W.Frag)(mg:Str->Option Value)(base:Heap)(CX:Et)(k:Nat)(x:Str)(st:Stmt)(ps:List Str)(sp:Sp):Prop
 | mk {f:Addr}{fd:FuncData}(D:Df K mg x st ps f fd) (G:FnOk P w K mg base CX k f fd ps sp):Ca P w K mg base CX k x st ps sp
section
variable {X:Cx}{CX:Et}{k:Nat}{ps:List Str}{sp:Sp}{E:XK}{x:Str}{st:Stmt}{p pos:Pos}{e:Expr}{es:List Expr}{t:TA}
def A0 (c:Ca X.prog X.w X.K X.mg X.base CX k x st ps sp)(hr:Room k X.A)(hx:Hd CX X E)(ha:PA X (e::es) t)(hg:Gl X x:=by rfl)(hdb:(x == ("__debug__" : Str))=false:=by decide)(he:starEach (e::es) X.env=(false,eval e X.env)::starEach es X.env:=by rfl)
  (hpl:(backTo pos (starEach es X.env)).any (·.1)=false:=by rfl):PE X (.Call (.Name x p) (e::es) [] pos) (SN sp [] E t):=by
 obtain⟨D,G⟩:=c
 exact AW G hr hg D.m D.F.kp D.b .nil hx ha hdb he hpl
end
end L2
namespace K19
open PySem L2 Tx Rk PyProof.Rows PySem.SeqAt
open PySem.PyData (strOk)
section
variable {P:Program}{w:World}{K:W.Frag}{mg:Str->Option Value}{base:Heap}
def top (i:Nat):Stmt:=PySem.Challenge.pw_grope_k19_whole_the_atlas_is_closed.main.body.getD i (.Pass ⟨0,0,0,0⟩)
abbrev IE:Stmt:=top 10
abbrev Ye:Stmt:=top 11
abbrev M3:Stmt:=top 17
abbrev Gp:Stmt:=top 18
abbrev Kq:Stmt:=top 19
abbrev Kp:Stmt:=top 20
abbrev Ko:Stmt:=top 21
abbrev Kr:Stmt:=top 22
abbrev Ke:Stmt:=top 23
abbrev MD:Stmt:=top 24
abbrev MG:Stmt:=top 25
abbrev II:Stmt:=top 26
abbrev Ks:Stmt:=F1 (top 27) 0
abbrev Hr:Stmt:=top 29
abbrev Kh:Stmt:=top 30
abbrev Kb:Stmt:=top 34
abbrev IG:Stmt:=top 35
abbrev MI:Stmt:=top 36
abbrev Mx:Stmt:=top 37
abbrev MF:Stmt:=top 38
abbrev Kc:Stmt:=top 39
abbrev My:Stmt:=top 40
abbrev Mw:Stmt:=top 41
abbrev MJ:Stmt:=top 42
abbrev MY:Stmt:=top 43
abbrev Gm:Stmt:=top 44
abbrev Ho:Stmt:=top 45
abbrev Kt:Stmt:=top 46
abbrev Ki:Stmt:=top 47
abbrev Gq:Stmt:=top 48
abbrev Yh:Stmt:=top 51
abbrev ME:Stmt:=top 52
abbrev Yj:Stmt:=top 53
abbrev Ym:Stmt:=top 54
abbrev Yf:Stmt:=top 55
abbrev Yk:Stmt:=top 56
abbrev Yg:Stmt:=top 57
abbrev MZ:Stmt:=top 59
abbrev MH:Stmt:=top 60
abbrev M7:Stmt:=top 61
abbrev IJ:Stmt:=top 62
abbrev Kn:Stmt:=top 63
abbrev Kf:Stmt:=top 64
abbrev MK:Stmt:=top 65
abbrev M5:Stmt:=F1 (top 66) 0
abbrev P6:Stmt:=F1 (top 66) 1
abbrev P5:Stmt:=F1 (top 66) 3
abbrev Km:Stmt:=top 74
abbrev Kd:Stmt:=top 75
abbrev IF:Stmt:=top 76
abbrev MA:Stmt:=top 77
abbrev MB:Stmt:=top 78
abbrev M4:Stmt:=top 79
abbrev P4:Stmt:=F1 (top 80) 0
abbrev P0:Stmt:=F1 (top 80) 1
abbrev P2:Stmt:=F1 (top 80) 3
abbrev P1:Stmt:=F1 (top 80) 4
abbrev P3:Stmt:=F1 (top 80) 5
abbrev EV:Stmt:=top 82
abbrev Gn:Stmt:=top 83
abbrev Kg:Stmt:=top 84
abbrev ML:Stmt:=top 85
abbrev Gk:Stmt:=top 86
abbrev MM:Stmt:=top 87
abbrev ID:Stmt:=top 88
abbrev Mz:Stmt:=top 89
abbrev IH:Stmt:=top 90
abbrev MS:Stmt:=top 91
abbrev MU:Stmt:=top 92
abbrev Kk:Stmt:=top 93
abbrev MP:Stmt:=top 94
abbrev MQ:Stmt:=top 95
abbrev MN:Stmt:=top 96
abbrev Hm:Stmt:=top 97
abbrev Hn:Stmt:=top 98
abbrev Kl:Stmt:=top 99
abbrev Kj:Stmt:=top 100
abbrev MV:Stmt:=top 101
abbrev MO:Stmt:=top 102
abbrev Hl:Stmt:=top 103
structure Bl (mg:Str->Option Value):Prop where
 len:mg "len" = none
 range:mg "range" = none
 tuple:mg "tuple" = none
 zip:mg "zip" = none
 isi:mg "isinstance" = none
 str:mg "str" = none
 list:mg "list" = none
 set:mg "set" = none
 all:mg "all" = none
 sorted:mg "sorted" = none
 int:mg "int" = none
 bool:mg "bool" = none
 reversed:mg "reversed" = none
 max:mg "max" = none
 sum:mg "sum" = none
 enumerate:mg "enumerate" = none
 dict:mg "dict" = none
abbrev CI:List Str:=["_law_script", "_law_k", "_law_many"]
def Ll (ns:List Int)(k:Int):Int:=if 0<ns.length then ns.getD (k % (ns.length:Int)).toNat 0 else 0
def pk (ns:List Int)(k m:Int):Int:=(Ll ns k % 10^(12:Int).toNat+104729)*(k*k+48271*k+11) % 2147483647*742938285 % 2147483629 % m
def IL (ns:List Int)(k:Int) (h:0<m):0<=pk ns k m:=JJ _ (by lia)
def IM (ns:List Int)(k:Int) (h:0<m):pk ns k m<m:=JL _ h
inductive Ml (K:W.Frag)(vs:List V)(H:Hp)(Q:VK)(E0_:XK):Prop
 | mk (a:Addr) (ns:List Int) (k m:Int) (c0:vs=[.ref a,.int k,.int m]) (c1:SqL K H a (ns.map V.int)) (c2:ns.length<=63) (c3:0<=k) (c4:k<1000000) (c5:0<m) (c6:Q (.int (pk ns k m)) H):Ml K vs H Q E0_
inductive FJ (K:W.Frag)(vs:List V)(H:Hp)(Q:VK)(E0_:XK):Prop
 | mk (a:Addr) (ns:List Int) (k m:Int) (c0:vs=[.ref a,.int k,.int m]) (c1:SqL K H a (ns.map V.int)) (c2:ns.length<=63) (c3:0<=k) (c4:k<1000000) (c5:0<m) (c6:∀r:Int,0<=r->r<m->Q (.int r) H):FJ K vs H Q E0_
inductive PD (vs:List V)(H:Hp)(Q:VK)(E0_:XK):Prop
 | mk (x:Str) (c0:vs=[.str x]) (c1:∀(H':Hp),Same H H'->Q (.bl (decide (x∈fixedS))) H'):PD  vs H Q E0_
inductive Pa (K:W.Frag)(vs:List V)(H:Hp)(Q:VK)(E0_:XK):Prop
 | mk (a:Addr) (ns:List Int) (k m:Int) (c0:vs=[.ref a,.int k,.int m]) (c1:SqL K H a (ns.map V.int)) (c2:ns.length<=63) (c3:0<=k) (c4:k<1000) (c5:0<=m) (c6:m<=12) (c7:∀(l:Addr) (xs:List Str) (H':Hp),Same H H'->H l=none->H' l=some (.lst (xs.map V.str))->(xs.length:Int)=m->(∀x∈xs,Nv x)->xs.Nodup->Q (.ref l) H'):Pa K vs H Q E0_
def VB (c:Int):-(2^64)<c % 10^(12:Int).toNat+104729/\c % 10^(12:Int).toNat+104729<2^64:=by
 have e:(10:Int)^(12:Int).toNat=1000000000000:=by decide +kernel
 rw[e];lia
def scPick:AM ["_law_script", "_law_k", "_law_many", "_law_cell", "_law_number"] CI (Av EV):=AO
def scFixed:AM ["_law_text", "_law_words"] ["_law_text"] (Av Gn):=AO
def TX (vs:List V)(h:es.all NM=true)(hv:es.map Mg=vs):PA X es (λ_ H Q=>Q vs H):=by subst hv;exact TY h
def Se:List Expr:=match (Cj Gn).getD 0 (.Pass ⟨0,0,0,0⟩)with
 | .Assign _ (.List es _) _=>es
 | _=>[]
def U0 (es:List Expr):List Stmt:=match Cj Gn with
 | [.Assign a (.List _ p2) p3,r]=>[.Assign a (.List es p2) p3,r]
 | l=>l
def lC:U0 Se=Cj Gn:=by rfl
abbrev dB:List Str:=["_law_script", "_law_k", "_law_many", "_law_signs", "_law_at", "_law_i", "_law_size", "_law_alike", "_law_names_here", "_law_name", "_law_j", "_law_number"]
def scNames:AM dB CI (Av Kg):=AO
def Dm (ns:List Int)(k al at':Int)(i j:Nat):Int:=if (j:Int)=at' then(pk ns (k+12) 26+5*(i:Int)) % 26 else pk ns (k+3+(j:Int)*al) 26
def Np (ns:List Int)(k al at':Int)(i j:Nat):0<=Dm ns k al at' i j/\Dm ns k al at' i j<26:=by
 unfold Dm;split
 ·exact⟨JJ _ (by decide),JL _ (by decide)⟩
 exact⟨IL _ _ (by decide),IM _ _ (by decide)⟩
def B4 (ns:List Int)(k al at':Int)(i n:Nat):List Nat:=(List.range n).map λj=>97+(Dm ns k al at' i j).toNat
def Fp (ns:List Int)(k al at':Int)(n i:Nat):Str:=Gh ⟨(B4 ns k al at' i n).toArray⟩
def Xz (ns:List Int)(k al at':Int)(i n:Nat):B4 ns k al at' i (n+1)=B4 ns k al at' i n++[97+(Dm ns k al at' i n).toNat]:=by unfold B4;rw[Lv,Ba];rfl
def Q4 (l:List Nat):cs ⟨l.toArray⟩=l:=rfl
def XA {k at':Int} (h:c∈B4 ns k al at' i n):97<=c/\c<=122:=by obtain⟨j,_,rfl⟩:=Bi.mp h;have:=Np ns k al at' i j;lia
def IC (ns:List Int)(k al at':Int)(i n:Nat):(B4 ns k al at' i n).length=n:=by unfold B4;rw[Ak,EI]
def Jr (l:List Nat):(Str.mk l.toArray).length=l.length:=by rw[<- B3,Q4]
def cI (ns:List Int)(k al at':Int) (i:Nat)(h1:1<=n)(h2:n<=8):Nv (Fp ns k al at' n i):=
 Wg (λc hc=>XA (show c∈B4 ns k al at' i n from hc)) (by rw[Jr,IC];exact h1) (by rw[Jr,IC];exact h2)
def cJ {ns:List Int}{k al:Int}{n a i j:Nat}(ha:a<n)(hi:i<26)(hj:j<26)(h:Fp ns k al (a:Int) n i=Fp ns k al (a:Int) n j):i=j:=by
 have e:=Wh (by rw[Jr,Jr,IC,IC]) h;have e2:B4 ns k al a i n=B4 ns k al a j n:=by have:=BJ cs e;rwa [Q4,Q4]at this
 have e3:(B4 ns k al a i n)[a]? = (B4 ns k al a j n)[a]?:=by rw[e2]
 unfold B4 at e3;rw[AI,AI,List.getElem?_range ha]at e3;have e4:97+(Dm ns k al a i a).toNat=97+(Dm ns k al a j a).toNat:=Bs e3;have l1:=Np ns k al a i a;have l2:=Np ns k al a j a;have e5:Dm ns k al a i a=Dm ns k al a j a:=by lia
 unfold Dm at e5;rw[As rfl,As rfl]at e5;exact lE hi hj e5
def Ht (at':Int)(i:Nat):Str:=Txt.mul ⟨#[97+((at'+(i:Int) / 8) % 23).toNat]⟩ (1+(i:Int) % 8)
def mS (h1:1<=i):cs (Txt.mul ⟨#[c]⟩ i)=replicate i.toNat c:=by
 have e0:¬i<1:=by lia
 unfold Txt.mul;rw[Am e0];by_cases he:(i == 1 || (⟨#[c]⟩:Str).length == 0)=true
 ·rw[As he]
  have:i=1:=by
   rw[Bool.or_eq_true]at he;rcases he with q | q
   ·exact eq_of_beq q
   cases q
  subst this;rfl
 rw[Am he];have el:=UX #[c] i.toNat #[];show(List.foldl (λx y=>x++y) #[] (replicate i.toNat #[c])).toList=_;rw[el]
 have:∀n:Nat,(replicate n [c]).flatten=replicate n c:=λn=>by
  induction n with
  | zero=>rfl
  | succ n ih=>rw[JT,Il,ih,JT];rfl
 simpa using this i.toNat
def Qb (at':Int)(i:Nat):cs (Ht at' i)=replicate (1+(i:Int) % 8).toNat (97+((at'+(i:Int) / 8) % 23).toNat):=mS (by lia)
def YA (at':Int)(i:Nat):Nv (Ht at' i):=cF (Qb at' i) (by lia) (by lia) (by lia) (by lia)
def YB {at':Int} (hi:i<16)(hj:j<16)(h:Ht at' i=Ht at' j):i=j:=by
 have e:=BJ cs h;rw[Qb,Qb]at e;have l:=BJ List.length e;rw[F5,F5]at l;have hm:97+((at'+(i:Int) / 8) % 23).toNat∈replicate (1+(j:Int) % 8).toNat (97+((at'+(j:Int) / 8) % 23).toNat):=by rw[<- e];exact Im.mpr ⟨by lia,rfl⟩
 have e2:=(Im.mp hm).2;lia
def nodup_range (inj:∀i j,i<n->j<n->f i=f j->i=j):((List.range n).map f).Nodup:=by rw[List.nodup_iff_pairwise_ne,N2];refine List.Pairwise.imp_of_mem (R:=λa b=>a≠b) (λ{a b} ha hb ne e=>ne (inj a b (DJ.mp ha) (DJ.mp hb) e)) (List.nodup_range)
def ZW (F:Fun K "_law_pick" "_law_pick" EV f fd)(T:Bl mg):FnOk P w K mg base CX0 1 f fd CI (Ml K):=by
 refine F.oq scPick λcdv A outer s H vs Q E hr h=>?_;obtain⟨a,ns,k,m,rfl,hS,hn,k0,k1,m0,q⟩:=h;refine⟨_,Aj (AB (i:=3) scPick.nd Ah) (Aj (AQ (AC Ez (AV Bp (by rfl) T.len A8 (Aa (pv 0) Ac)) Ah (AD _)) (Ao (AB (i:=3) scPick.nd (Aq Bc (pv 0) (Ax Fn (pv 1) (AV Bp (by rfl) T.len A8 (Aa (pv 0) Ac))) (λ_ _=>rfl)))) AS) (Aj (AB (i:=4) scPick.nd (Ax Fn (Ax Fm (Ax Bm (Ax Fn (pv 3) (Ax T2 Ah Ah)) Ah) (Ax Bm (Ax Bm (Ax Fm (pv 1) (pv 1)) (Ax Fm Ah (pv 1))) Ah)) Ah)) (Ao (AA (Ax Fn (Ax Fn (Ax Fm (pv 4) Ah) Ah) (pv 2)))))),?_⟩;refine⟨_,rfl,_,_,rfl,.inl ⟨_,hS,rfl⟩,_,_,rfl,rfl,_,rfl,?_⟩;have hl:(ns.map V.int).length=ns.length:=Ak ..;refine Bd (λhp=>?_) (λhp=>?_)
 ·have hp':0<ns.length:=by have:=A4 hp;rw[hl]at this;lia
  have hpi:(0:Int)<((ns.map V.int).length:Int):=by rw[hl];lia
  obtain⟨j,hj⟩:∃j:Nat,(j:Int)=k % ((ns.map V.int).length:Int):=⟨(k % ((ns.map V.int).length:Int)).toNat,En (JJ _ (by lia))⟩;have hjl:j<ns.length:=by have:=JL k hpi;rw[hl]at this hj;lia
  have hat:atI (ns.map V.int) (k % ((ns.map V.int).length:Int))=some (.int ns[j]):=by rw[<- hj];exact Az (by simp[hjl])
  have hcv:Ll ns k=ns[j]:=by unfold Ll;rw[As hp',<- hl,<- hj,Co];simp[List.getD,hjl]
  unfold pk at q;rw[hcv]at q;refine⟨_,rfl,_,rfl,_,rfl,_,_,rfl,.inl ⟨_,hS,rfl⟩,_,_,rfl,rfl,hpi,_,_,_,_,rfl,rfl,hS,hat,?_⟩;refine⟨_,rfl,_,_,rfl,rfl,⟨by decide,by decide,by decide⟩,_,_,rfl,rfl,(by show(0:Int)<_;decide +kernel),_,_,rfl,rfl,_,rfl,_,rfl,_,_,rfl,rfl,.inl ⟨by lia,by lia⟩,_,rfl,_,_,rfl,rfl,.inl ⟨by decide,by decide⟩,_,_,rfl,rfl,_,_,rfl,rfl,_,_,rfl,rfl,.inl (VB _),_,_,rfl,rfl,(by show(0:Int)<_;decide),?_⟩;exact⟨_,rfl,_,_,rfl,rfl,.inr ⟨by decide,by decide⟩,_,_,rfl,rfl,(by show(0:Int)<_;decide),_,rfl,_,_,rfl,rfl,m0,q⟩
 have hcv:Ll ns k=0:=by unfold Ll;rw[Am];intro z;exact hp (AR (by rw[hl];lia))
 unfold pk at q;rw[hcv]at q;refine⟨_,rfl,_,_,rfl,rfl,⟨by decide,by decide,by decide⟩,_,_,rfl,rfl,(by show(0:Int)<_;decide +kernel),_,_,rfl,rfl,_,rfl,_,rfl,_,_,rfl,rfl,.inl ⟨by lia,by lia⟩,_,rfl,_,_,rfl,rfl,.inl ⟨by decide,by decide⟩,_,_,rfl,rfl,_,_,rfl,rfl,_,_,rfl,rfl,.inl (VB _),_,_,rfl,rfl,(by show(0:Int)<_;decide),?_⟩;exact⟨_,rfl,_,_,rfl,rfl,.inr ⟨by decide,by decide⟩,_,_,rfl,rfl,(by show(0:Int)<_;decide),_,rfl,_,_,rfl,rfl,m0,q⟩
def ZX (G:FnOk P w K mg base CX0 1 f fd CI (Ml K)):FnOk P w K mg base CX0 1 f fd CI (FJ K):=
 G.imp λvs H Q E h=>by obtain⟨a,ns,k,m,e,hS,hn,k0,k1,m0,q⟩:=h;exact⟨a,ns,k,m,e,hS,hn,k0,k1,m0,q _ (IL _ _ m0) (IM _ _ m0)⟩
def lB (vs:List V)(h:es.all NM=true)(hv:es.map Mg=vs)(hl:vs.length<=sizeLine)(hf:vs.all E6=true) :
  ∃t,PSs (F4 CX0 P w K mg base ["_law_text", "_law_words"] "_law_fixed" (Av Gn) f cdv A outer s H E).nox (U0 es) t /\
   ∀(x:Str) (Q:VK),(∀(H':Hp),Same H H'->Q (.bl (Fs (.str x) vs)) H')->t { nx:=λ_ H'=>Q .non H',rt:=Q } [some (.str x),none] H:=by
 refine⟨_,Aj (AB (i:=1) scFixed.nd (Bk (TX vs h hv))) (Ao (AA (Fl K4 (pv 0) (pv 1) (by rfl)))),?_⟩
 intro x Q q
 refine⟨hl,λl hl=>?_⟩
 exact⟨_,rfl,_,rfl,l,_,rfl,.inl (SqL.of Ag),rfl,hf,q _ (Same.new hl)⟩
def bF (F:Fun K "_law_fixed" "_law_fixed" Gn f fd):FnOk P w K mg base CX0 1 f fd ["_law_text"] PD:=by
 refine F.oq scFixed λcdv A outer s H vs Q E hr h=>?_;obtain⟨x,rfl,q⟩:=h;obtain⟨t,ht,rt⟩:=lB (P:=P) (w:=w) (K:=K) (mg:=mg) (base:=base) (f:=f) (cdv:=cdv) (A:=A) (outer:=outer) (s:=s) (H:=H) (E:=E) (es:=Se) (fixedS.map V.str) (by decide +kernel) (by rfl) (by rw[AK];decide +kernel) (flat_strs _);rw[lC]at ht;refine⟨t,?_,rt x Q λH' s'=>?_⟩
 ·assumption
 rw[GC];exact q H' s'
def Z1 (F:Fun K "_law_names" "_law_names" Kg f fd)(DP:Df K mg "_law_pick" EV CI fP fdP)(DX:Df K mg "_law_fixed" Gn ["_law_text"] fX fdX)(T:Bl mg)
  (GP:FnOk P w K mg base CX0 1 fP fdP CI (Ml K))(GX:FnOk P w K mg base CX0 1 fX fdX ["_law_text"] PD) :
  FnOk P w K mg base CX0 2 f fd CI (Pa K):=by
 refine F.oq scNames λcdv A outer s H vs Q E hr h=>?_
 obtain⟨a,ns,k,m,rfl,hS,hn,k0,k1,m0,m1,q⟩:=h
 refine⟨_,(Aj (FO (i:=3) scNames.nd rfl (ET rfl) AE) (Aj (AQ (AC Bo (AW GP hr (by rfl) DP.m DP.F.kp DP.b .nil Ar (Aa (pv 0) (Aa (Ax Bm (pv 1) Ah) (Aa Ah Ac)))) Ah (AD _)) (Aj (FO (i:=4) scNames.nd rfl (ET rfl) (AW GP hr (by rfl) DP.m DP.F.kp DP.b .nil Ar (Aa (pv 0) (Aa (pv 1) (Aa Ah Ac))))) (Ao (AA (CZ (N:=["_law_i", "_law_signs", "_law_at"]) (sc:=Av Kg) (own:=["_law_i"]) (fr:=["_law_signs", "_law_at"]) (js:=[3,4]) BX rfl (Ex (by rfl) T.range (Aa (pv 2) Ac)) (λ_ _ _ _=>AZ (i:=0) (show List.Nodup (["_law_i", "_law_signs", "_law_at"]:List Str) by decide +kernel)) (λ_ _ _ _=>B5) (λ_ _ _ _=>(Ax Zt (Aq UG (pv 1) (Ax Fn (Ax Bm (pv 2) (Ax Zx (pv 0) Ah)) Ah) (λ_ _=>rfl)) (Ax Bm Ah (Ax Fn (pv 0) Ah)))))))) AS) (Aj (AB (i:=6) scNames.nd (Ax Bm Ah (AW GP hr (by rfl) DP.m DP.F.kp DP.b .nil Ar (Aa (pv 0) (Aa (pv 1) (Aa Ah Ac)))))) (Aj (FO (i:=4) scNames.nd rfl (ET rfl) (AW GP hr (by rfl) DP.m DP.F.kp DP.b .nil Ar (Aa (pv 0) (Aa (Ax Bm (pv 1) Ah) (Aa (pv 6) Ac))))) (Aj (AB (i:=7) scNames.nd (AW GP hr (by rfl) DP.m DP.F.kp DP.b .nil Ar (Aa (pv 0) (Aa (Ax Bm (pv 1) Ah) (Aa Ah Ac))))) (Aj (AB (i:=8) scNames.nd (Bk Ac)) (Aj (BU BS rfl (Ex (by rfl) T.range (Aa (pv 2) Ac)) (AZ (i:=5) scNames.nd) (Aj (AB (i:=9) scNames.nd AE) (Aj (BU BS rfl (Ex (by rfl) T.range (Aa (pv 6) Ac)) (AZ (i:=10) scNames.nd) (Aj (AB (i:=11) scNames.nd (AW GP hr (by rfl) DP.m DP.F.kp DP.b .nil Ar (Aa (pv 0) (Aa (Ax Bm (Ax Bm (pv 1) Ah) (Ax Fm (pv 10) (pv 7))) (Aa Ah Ac))))) (Aj (AQ (AC Bo (pv 10) (pv 4) (AD _)) (Ao (AB (i:=11) scNames.nd (Ax Fn (Ax Bm (AW GP hr (by rfl) DP.m DP.F.kp DP.b .nil Ar (Aa (pv 0) (Aa (Ax Bm (pv 1) Ah) (Aa Ah Ac)))) (Ax Fm Ah (pv 5))) Ah))) AS) (Ao (AB (i:=9) scNames.nd (Ax Dx (pv 9) (Aq UG (pv 3) (pv 11) (λ_ _=>rfl)))))))) (Aj (AQ (Cs (AW GX hr (by rfl) DX.m DX.F.kp DX.b .nil Ar (Aa (pv 9) Ac))) (Ao (AB (i:=9) scNames.nd (Ax Dx AE (pv 9)))) AS) (Ao (B1 (C1 DZ Ia JF HM (pv 8) (Aa (pv 9) Ac)))))))) (Ao (AA (pv 8)))))))))),?_⟩
 have abc_e:(Str.ofString "abcdefghijklmnopqrstuvwxyz")=abc:=rfl
 have ae:sizeLine=16777216:=AK
 refine⟨_,rfl,_,rfl,_,_,rfl,rfl,a,ns,_,_,rfl,hS,hn,by lia,by lia,by decide,⟨rfl,_,rfl,?_⟩⟩
 refine Bd (λ_=>?_) (λ_=>?_)
 ·refine⟨_,rfl,_,rfl,a,ns,_,_,rfl,hS,hn,by lia,by lia,by decide,?_⟩;have a0:=IL ns k (m:=23) (by decide);have a1:=IM ns k (m:=23) (by decide);generalize pk ns k 23=at' at a0 a1 ⊢;refine⟨_,rfl,m,rfl,by lia,by lia,λD hD=>?_⟩
  refine B8 (n:=m.toNat) (λi ys H2=>ys=((List.range i).map (Ht at')).map V.str/\Same H H2/\H2 D=some (.lst ys)) ⟨rfl,Same.new hD,Ag⟩
   (λi _ _ hi _=>hi) (λ_ _ _=>Au _) ?_ ?_
  ·rintro i ys H2 x H3 hi ⟨rfl,sm,hD2⟩ ⟨rfl,rfl⟩;refine Ce ?_;have b0:=JJ (at'+(0+(i:Int)) / 8) (b:=23) (by decide);have b1:=JL (at'+(0+(i:Int)) / 8) (b:=23) (by decide);have hc:=VU b0 (by lia);have d0:=JJ (0+(i:Int)) (b:=8) (by decide);have d1:=JL (0+(i:Int)) (b:=8) (by decide);refine⟨_,rfl,_,rfl,_,rfl,_,_,rfl,rfl,⟨by decide,by decide⟩,_,_,rfl,rfl,_,_,rfl,rfl,(by show(0:Int)<_;decide),abc,_,_,rfl,rfl,Rj,hc,_,rfl,_,_,rfl,rfl,(by show(0:Int)<_;decide),_,_,rfl,rfl,_,_,rfl,rfl,by lia,by lia,(by show 1<=1000;decide),?_⟩;refine⟨_,hD2,by rw[Ak,Ak,EI];lia,?_,sm.put hD,Ag⟩;rw[Lv,Ba,Ba];show _=_++[V.str (Ht at' i)];unfold Ht;rw[Ig]
  rintro ys H2 ⟨rfl,sm,hD2⟩;refine q D _ H2 sm hD hD2 (by rw[Ak,EI];lia) (λx hx=>?_) (nodup_range λi j hi hj e=>YB (by lia) (by lia) e);obtain⟨i,_,rfl⟩:=Bi.mp hx;exact YA at' i
 refine⟨_,rfl,_,rfl,a,ns,_,_,rfl,hS,hn,by lia,by lia,by decide,⟨_,_,rfl,rfl,?_⟩⟩
 have s0:=IL ns k (m:=8) (by decide)
 have s1:=IM ns k (m:=8) (by decide)
 generalize pk ns k 8=sz at s0 s1 ⊢
 refine⟨_,rfl,_,rfl,_,_,rfl,rfl,_,rfl,a,ns,_,_,rfl,hS,hn,by lia,by lia,by lia,?_⟩
 have a0:=IL ns (k+1) (m:=1+sz) (by lia)
 have a1:=IM ns (k+1) (m:=1+sz) (by lia)
 generalize pk ns (k+1) (1+sz)=at' at a0 a1 ⊢
 refine⟨_,rfl,_,rfl,_,_,rfl,rfl,a,ns,_,_,rfl,hS,hn,by lia,by lia,by decide,?_⟩
 have l0:=IL ns (k+2) (m:=2) (by decide)
 have l1:=IM ns (k+2) (m:=2) (by decide)
 generalize pk ns (k+2) 2=al at l0 l1 ⊢
 refine⟨A5 _,λl hl=>?_⟩
 obtain⟨n,hn'⟩:∃n:Nat,(n:Int)=1+sz:=⟨(1+sz).toNat,En (by lia)⟩
 obtain⟨a',ha'⟩:∃n:Nat,(n:Int)=at':=⟨at'.toNat,En (by lia)⟩
 refine⟨_,rfl,m,rfl,by lia,by lia,HV (n:=m.toNat) (λi σ H2=>∃(v5 v9 v10 v11:Option V),σ = [some (.ref a),some (.int k),some (.int m),some (.str abc),some (.int at'),v5,some (.int (1+sz)),some (.int al),some (.ref l),v9,v10,v11] /\ Same H H2/\H2 l=some (.lst (((List.range i).map (Fp ns k al at' n)).map V.str))) ⟨none,none,none,none,rfl,Same.new hl,Ag⟩ ?_ ?_⟩
 ·rintro i σ H2 hi ⟨v5,v9,v10,v11,rfl,sm,hl2⟩;have hS2:=sm.seq hS;refine⟨_,rfl,_,rfl,by lia,by lia,HV (n:=(1+sz).toNat) (λj σ H3=>∃(v10 v11:Option V),σ = [some (.ref a),some (.int k),some (.int m),some (.str abc),some (.int at'),some (.int (0+(i:Int))),some (.int (1+sz)),some (.int al),some (.ref l),some (.str ⟨(B4 ns k al at' i j).toArray⟩),v10,v11] /\ H3=H2) ⟨v10,v11,rfl,rfl⟩ ?_ ?_⟩
  ·rintro j σ H3 hj ⟨w10,w11,rfl,rfl⟩;have hjl:(j:Int)<1+sz:=by lia
   have hja:0<=(0+(j:Int))*al/\(0+(j:Int))*al<=8:=by
    have:al=0\/al=1:=by lia
    rcases this with e | e
    ·subst e;lia
    subst e;lia
   refine⟨_,rfl,_,rfl,_,_,rfl,rfl,_,rfl,_,rfl,_,_,rfl,rfl,.inl ⟨by lia,by lia⟩,_,_,rfl,rfl,a,ns,_,_,rfl,hS2,hn,by lia,by lia,by decide,?_⟩;refine⟨_,rfl,_,rfl,rfl,_,rfl,?_⟩;have hnl:=Np ns k al at' i j;have hc:=VU hnl.1 hnl.2;have hsg:(⟨(B4 ns k al at' i j).toArray⟩:Str)++⟨#[97+(Dm ns k al at' i j).toNat]⟩=⟨(B4 ns k al at' i (j+1)).toArray⟩:=by apply Q6;rw[BH,mQ];show B4 ns k al at' i j++[97+(Dm ns k al at' i j).toNat]=B4 ns k al at' i (j+1);rw[Xz]
   have hlen:(⟨(B4 ns k al at' i j).toArray⟩:Str).length=j:=by rw[Jr,IC]
   refine Bd (λhe=>?_) (λhe=>?_)
   ·have he':(j:Int)=at':=by have:=V.int.inj (A4 he);lia
    have hnu:Dm ns k al at' i j=(pk ns (k+12) 26+5*(0+(i:Int))) % 26:=by unfold Dm;rw[As he',Ig]
    rw[hnu]at hc hsg;refine⟨_,rfl,_,rfl,_,_,rfl,rfl,a,ns,_,_,rfl,hS2,hn,by lia,by lia,by decide,?_⟩;refine⟨_,rfl,_,_,rfl,rfl,.inl ⟨by decide,by decide⟩,_,_,rfl,rfl,_,_,rfl,rfl,(by show(0:Int)<_;decide),?_⟩;refine⟨_,rfl,_,rfl,_,rfl,abc,_,_,rfl,rfl,Rj,hc,_,_,rfl,rfl,by show(⟨(B4 ns k al at' i j).toArray⟩:Str).length+1<=sizeLine;lia,some (.int (0+(j:Int))),some (.int ((pk ns (k+12) 26+5*(0+(i:Int))) % 26)),?_,rfl⟩;rw[<- hsg];all_goals rfl
   have he':¬(j:Int)=at':=λz=>he (AR (by rw[<- z,Ig]));have hnu:Dm ns k al at' i j=pk ns (k+3+(0+(j:Int))*al) 26:=by unfold Dm;rw[Am he',Ig]
   rw[hnu]at hc hsg;refine⟨_,rfl,_,rfl,_,rfl,abc,_,_,rfl,rfl,Rj,hc,_,_,rfl,rfl,by show(⟨(B4 ns k al at' i j).toArray⟩:Str).length+1<=sizeLine;lia,some (.int (0+(j:Int))),some (.int (pk ns (k+3+(0+(j:Int))*al) 26)),?_,rfl⟩;rw[<- hsg];all_goals rfl
  rintro σ H3 ⟨w10,w11,rfl,rfl⟩;have en:(1+sz).toNat=n:=by lia
  rw[en];refine⟨_,rfl,_,rfl,λH4 s4=>⟨_,rfl,?_⟩⟩;have hl4:=s4 _ _ hl2;have hlen:(⟨(B4 ns k al at' i n).toArray⟩:Str).length=n:=by rw[Jr,IC]
  have hz:((List.range i).map (Fp ns k al at' n)).map V.str++[V.str (Fp ns k al at' n i)]=((List.range (i+1)).map (Fp ns k al at' n)).map V.str:=by rw[Lv,Ba,Ba];rfl
  have hll:(((List.range i).map (Fp ns k al at' n)).map V.str).length<sizeLine:=by rw[Ak,Ak,EI];lia
  refine Bd (λhx=>?_) (λhx=>?_)
  ·have hx':=A4 hx;refine⟨_,rfl,_,_,rfl,rfl,by show 1+(⟨(B4 ns k al at' i n).toArray⟩:Str).length<=sizeLine;lia,?_⟩;refine⟨_,rfl,.inl ⟨rfl,_,SqL.of hl4⟩,_,rfl,l,_,_,rfl,rfl,hl4,hll,_,_,_,_,rfl,(sm.trans s4).put hl,?_⟩;rw[Ag,<- hz];unfold Fp Gh;rw[As hx'];all_goals rfl
  have hx':¬(⟨(B4 ns k al at' i n).toArray⟩:Str)∈fixedS:=λz=>hx (AR z);refine⟨_,rfl,.inl ⟨rfl,_,SqL.of hl4⟩,_,rfl,l,_,_,rfl,rfl,hl4,hll,_,_,_,_,rfl,(sm.trans s4).put hl,?_⟩;rw[Ag,<- hz];unfold Fp Gh;rw[Am hx']
 rintro σ H2 ⟨v5,v9,v10,v11,rfl,sm,hl2⟩
 refine⟨_,rfl,q l _ H2 sm hl hl2 (by rw[Ak,EI];lia) (λx hx=>?_) (nodup_range λi j hi hj e=>?_)⟩
 ·obtain⟨i,_,rfl⟩:=Bi.mp hx;exact cI ns k al at' i (by lia) (by lia)
 rw[<- ha']at e
 exact cJ (by lia) (by lia) (by lia) e
abbrev Sk (x:Str):Prop:=strOk x=true/\x.length<=16
def B9 (e:H a=some (.dK kvs))(h:Ay kvs (Sum.inr x:Af)=some v):DGet H a (.str x) (some v):=by have q:=DGet.k (k:=(Sum.inr x:Af)) e;rw[h]at q;exact q
abbrev Nj:List Str:=["_law_room_here", "_law_place"]
def Ad (L1 L2:List (Af×V))(x l:Str):Prop:=l = "open" \/ (l = "shut" /\ (Ay L1 (Sum.inr x:Af)).isSome=true)\/(l = "locked" /\ (Ay L2 (Sum.inr x:Af)).isSome=true)
inductive Pe (vs:List V)(H:Hp)(Q:VK)(E0_:XK):Prop
 | mk (r d1 d2:Addr) (x:Str) (kvs L1 L2:List (Af×V)) (c0:vs=[.ref r,.str x]) (c1:H r=some (.dK kvs)) (c2:Ay kvs (Sum.inr "lids" : Af)=some (.ref d1)) (c3:Ay kvs (Sum.inr "keys" : Af)=some (.ref d2)) (c4:H d1=some (.dK L1)) (c5:H d2=some (.dK L2)) (c6:∀(l:Addr) (ys:List Str) (H':Hp),Same H H'->H l=none->H' l=some (.lst (ys.map V.str))->1<=ys.length->(∀y∈ys,Ad L1 L2 x y)->Q (.ref l) H'):Pe  vs H Q E0_
def scLids:AM ["_law_room_here", "_law_place", "_law_some"] Nj (Av MM):=AO
def BO (h:¬x=y):¬(Sum.inr x:Af)=Sum.inr y:=λe=>h (Cv e)
def Cr (p t d1 d2 d3:Addr):List (Af×V):=[(Sum.inr "places",.ref p),(Sum.inr "things",.ref t),(Sum.inr "lids",.ref d1),(Sum.inr "keys",.ref d2),(Sum.inr "shapes",.ref d3)]
def P9 (p t d1 d2 d3:Addr):Ay (Cr p t d1 d2 d3) (Sum.inr "things" : Af)=some (.ref t):=by unfold Cr;rw[Bn (BO (by decide +kernel)),B0 rfl]
def Te (p t d1 d2 d3:Addr):Ay (Cr p t d1 d2 d3) (Sum.inr "lids" : Af)=some (.ref d1):=by unfold Cr;rw[Bn (BO (by decide +kernel)),Bn (BO (by decide +kernel)),B0 rfl]
def Tf (p t d1 d2 d3:Addr):Ay (Cr p t d1 d2 d3) (Sum.inr "keys" : Af)=some (.ref d2):=by unfold Cr;rw[Bn (BO (by decide +kernel)),Bn (BO (by decide +kernel)),Bn (BO (by decide +kernel)),B0 rfl]
def Qa (p t d1 d2 d3:Addr):Ay (Cr p t d1 d2 d3) (Sum.inr "shapes" : Af)=some (.ref d3):=by unfold Cr;rw[Bn (BO (by decide +kernel)),Bn (BO (by decide +kernel)),Bn (BO (by decide +kernel)),Bn (BO (by decide +kernel)),B0 rfl]
def Yr (p t d1 d2 d3:Addr):Ay (Cr p t d1 d2 d3) (Sum.inr "places" : Af)=some (.ref p):=by unfold Cr;rw[B0 rfl]
abbrev Ni:List Str:=["_law_script", "_law_k", "_law_room_here", "_law_name"]
inductive Pd (K:W.Frag)(vs:List V)(H:Hp)(Q:VK)(E0_:XK):Prop
 | mk (a:Addr) (ns:List Int) (k:Int) (r p t d1 d2 d3:Addr) (x:Str) (ts:List Str) (L1 L2:List (Af×V)) (c0:vs=[.ref a,.int k,.ref r,.str x]) (c1:SqL K H a (ns.map V.int)) (c2:ns.length<=63) (c3:0<=k) (c4:k<100) (c5:Nv x) (c6:H r=some (.dK (Cr p t d1 d2 d3))) (c7:H t=some (.lst (ts.map V.str))) (c8:(∀y∈ts,Nv y)) (c9:ts.length<=12) (c10:H d1=some (.dK L1)) (c11:H d2=some (.dK L2)) (c12:L1.length<=100) (c13:L2.length<=100) (c14:r≠d1) (c15:r≠d2) (c16:d1≠d2) (c17:Ay L1 (Sum.inr x:Af)=none) (c18:Ay L2 (Sum.inr x:Af)=none) (c19:∀(ro:Ro) (H':Hp),ro.name=x->ro.isP=true->ro.nv->(k=0->ro=.pl x)->(∀y,ro=.lk x y->y∈ts)->H' d1=some (.dK (L1++Bw [ro]))->H' d2=some (.dK (L2++BA [ro]))->(∀b o,H b=some o->b≠d1->b≠d2->H' b=some o)->Q (.str ro.txt) H'):Pd K vs H Q E0_
def scLine:AM ["_law_script", "_law_k", "_law_room_here", "_law_name", "_law_way", "_law_key"] Ni (Av ML):=AO
def Ta (h:SqL K H a xs)(k:∀b o,H b=some o->b≠d1->H' b=some o) (hd:H d1=some (.dK L)):SqL K H' a xs:=by
 rcases h with(h | ⟨o,h⟩) | h
 ·exact .inl (.inl (k _ _ h (A7 h hd (by intro z;cases z))))
 ·exact .inl (.inr ⟨o,k _ _ h (A7 h hd (by intro z;cases z))⟩)
 exact .inr h
def aO (F:Fun K "_law_lids" "_law_lids" MM f fd):FnOk P w K mg base CX0 1 f fd Nj Pe:=by
 refine F.oq scLids λcdv A outer s H vs Q E hr h=>?_;obtain⟨r,d1,d2,x,kvs,L1,L2,rfl,h1,h4,h5,h8,h9,q⟩:=h;have hu:=CL hr;refine⟨_,Aj (AB (i:=2) scLids.nd (Bk (Aa AE Ac))) (Aj (AQ (FM (KE hu (pv 1) (B6 hu (pv 0) AE (λ_ _=>rfl)))) (Ao (B1 (C1 DZ Ia JF HM (pv 2) (Aa AE Ac)))) AS) (Aj (AQ (FM (KE hu (pv 1) (B6 hu (pv 0) AE (λ_ _=>rfl)))) (Ao (B1 (C1 DZ Ia JF HM (pv 2) (Aa AE Ac)))) AS) (Ao (AA (pv 2))))),?_⟩;refine⟨by show 1<=sizeLine;decide,λl hl=>?_⟩;have ae:sizeLine=16777216:=AK;have s0:Same H (Ab H l (.lst [V.str "open"])):=Same.new hl;refine⟨_,rfl,_,rfl,r,_,rfl,B9 (s0 _ _ h1) h4,_,_,rfl,DGet.k (k:=(Sum.inr x:Af)) (s0 _ _ h8),_,rfl,?_⟩;have s1:∀o,Same H (Ab (Ab H l (.lst [V.str "open"])) l o):=λo=>s0.put hl;refine Bd (λc1=>?_) (λ_=>?_)
 ·refine⟨_,rfl,.inl ⟨rfl,_,SqL.of Ag⟩,l,_,_,rfl,rfl,Ag,by show 1<sizeLine;decide,?_⟩;refine⟨_,rfl,_,rfl,r,_,rfl,B9 (s1 _ _ _ h1) h5,_,_,rfl,DGet.k (k:=(Sum.inr x:Af)) (s1 _ _ _ h9),_,rfl,?_⟩;refine Bd (λc2=>?_) (λ_=>?_)
  ·refine⟨_,rfl,.inl ⟨rfl,_,SqL.of Ag⟩,l,_,_,rfl,rfl,Ag,by show 2<sizeLine;decide,?_⟩;refine⟨_,rfl,q l ["open", "shut", "locked"] _ ((s1 _).put hl) hl Ag (by decide) λy hy=>?_⟩;simp only[AL,Cn,Ck]at hy;rcases hy with e | e | e
   ·exact .inl e
   ·exact .inr (.inl ⟨e,c1⟩)
   exact .inr (.inr ⟨e,c2⟩)
  refine⟨_,rfl,q l ["open", "shut"] _ (s1 _) hl Ag (by decide) λy hy=>?_⟩;simp only[AL,Cn,Ck]at hy;rcases hy with e | e
  ·exact .inl e
  exact .inr (.inl ⟨e,c1⟩)
 refine⟨_,rfl,_,rfl,r,_,rfl,B9 (s0 _ _ h1) h5,_,_,rfl,DGet.k (k:=(Sum.inr x:Af)) (s0 _ _ h9),_,rfl,?_⟩;refine Bd (λc2=>?_) (λ_=>?_)
 ·refine⟨_,rfl,.inl ⟨rfl,_,SqL.of Ag⟩,l,_,_,rfl,rfl,Ag,by show 1<sizeLine;decide,?_⟩;refine⟨_,rfl,q l ["open", "locked"] _ (s1 _) hl Ag (by decide) λy hy=>?_⟩;simp only[AL,Cn,Ck]at hy;rcases hy with e | e
  ·exact .inl e
  exact .inr (.inr ⟨e,c2⟩)
 refine⟨_,rfl,q l ["open"] _ s0 hl Ag (by decide) λy hy=>?_⟩;simp only[AL,Cn,Ck]at hy;exact .inl hy
def aM (F:Fun K "_law_place_line" "_law_place_line" ML f fd)(DP:Df K mg "_law_pick" EV CI fP fdP)(T:Bl mg)(GP:FnOk P w K mg base CX0 1 fP fdP CI (FJ K)):FnOk P w K mg base CX0 2 f fd Ni (Pd K):=by
 refine F.oq scLine λcdv A outer s H vs Q E hr h=>?_;obtain⟨a,ns,k,r,p,t,d1,d2,d3,x,ts,L1,L2,rfl,hS,hn,k0,k1,hx,hr0,ht,hts,htl,h1,h2,z1,z2,n1,n2,n3,v1,v2,q⟩:=h;have hu:=CL hr;have ae:sizeLine=16777216:=AK;have hxl:=hx.len;refine⟨_,Aj (AB (i:=4) scLine.nd (AW GP hr (by rfl) DP.m DP.F.kp DP.b .nil Ar (Aa (pv 0) (Aa (Ax Bm Ah (pv 1)) (Aa Ah Ac))))) (Aj (AQ (PW.pt (CD (AC Bo (pv 1) Ah (AD _)) (DU (AC Bo (pv 4) Ah (AD _))))) (Ao (AA (Ax Dx AE (pv 3)))) AS) (Aj (Dg hu (B6 hu (pv 2) AE (λ_ _=>rfl)) (pv 3) Eh rfl) (Aj (AQ (PW.pt (CD (AC Bo (pv 4) Ah (AD _)) (DU (AC Bo (AV Bp (by rfl) T.len A8 (Aa (B6 hu (pv 2) AE (λ_ _=>rfl)) Ac)) Ah (AD _))))) (Ao (AA (Ax Dx AE (pv 3)))) AS) (Aj (AB (i:=5) scLine.nd (Aq Bc (B6 hu (pv 2) AE (λ_ _=>rfl)) (AW GP hr (by rfl) DP.m DP.F.kp DP.b .nil Ar (Aa (pv 0) (Aa (Ax Bm Ah (pv 1)) (Aa (AV Bp (by rfl) T.len A8 (Aa (B6 hu (pv 2) AE (λ_ _=>rfl)) Ac)) Ac)))) (λ_ _=>rfl))) (Aj (Dg hu (B6 hu (pv 2) AE (λ_ _=>rfl)) (pv 3) (pv 5) rfl) (Ao (AA (Ax Dx (Ax Dx (Ax Dx AE (pv 3)) AE) (pv 5))))))))),?_⟩;have plain:Q (.str (("place " : Str)++x)) H:=q (.pl x) H rfl rfl hx (λ_=>rfl) (λy e=>nomatch e) (by show H d1=some (.dK (L1++[]));rw[Cm];exact h1) (by show H d2=some (.dK (L2++[]));rw[Cm];exact h2) λb o e _ _=>e;refine⟨_,rfl,_,rfl,_,_,rfl,rfl,a,ns,_,_,rfl,hS,hn,by lia,by lia,by decide,λway w0 w1=>?_⟩;refine⟨_,rfl,rfl,_,rfl,?_⟩;refine Bd (λ_=>?_) (λhk0=>?_)
 ·refine Bb ?_;exact⟨_,rfl,_,_,rfl,rfl,by show 6+x.length<=sizeLine;lia,plain⟩
 have hk:k≠0:=λz=>hk0 (AR (by rw[z]));refine⟨_,rfl,rfl,_,rfl,?_⟩;refine Bd (λ_=>?_) (λ_=>?_)
 ·exact⟨_,rfl,_,_,rfl,rfl,by show 6+x.length<=sizeLine;lia,plain⟩
 refine⟨_,rfl,r,_,rfl,B9 hr0 (Te _ _ _ _ _),_,rfl,d1,_,rfl,DPut.k (k:=(Sum.inr x:Af)) h1 (by lia),?_⟩;rw[Eg _ v1];have k1':∀(u:HO) b o,H b=some o->b≠d1->Ab H d1 u b=some o:=λu b o e hb=>by rw[Ai hb];exact e
 have rK:=k1' (.dK (L1++[(Sum.inr x,V.bl true)])) _ _ hr0 n1;have tK:=k1' (.dK (L1++[(Sum.inr x,V.bl true)])) _ _ ht (A7 ht h1 (by intro z;cases z));have dK:=k1' (.dK (L1++[(Sum.inr x,V.bl true)])) _ _ h2 (Ea n3);have sK:=Ta (K:=K) hS (λb o e hb=>k1' (.dK (L1++[(Sum.inr x,V.bl true)])) b o e hb) h1
 have box:Q (.str (("box " : Str)++x)) (Ab H d1 (.dK (L1++[(Sum.inr x,V.bl true)]))):=
  q (.bx x) _ rfl rfl hx (λz=>absurd z hk) (λy e=>nomatch e) Ag (by show(Ab H d1 (.dK (L1++[(Sum.inr x,V.bl true)]))) d2=some (HO.dK (L2++[]));rw[Cm];exact dK) λb o e hb _=>k1' _ b o e hb
 refine⟨_,rfl,rfl,_,rfl,?_⟩;refine Bd (λ_=>?_) (λ_=>?_)
 ·refine Bb ?_;exact⟨_,rfl,_,_,rfl,rfl,by show 4+x.length<=sizeLine;lia,box⟩
 refine⟨_,rfl,r,_,rfl,B9 rK (P9 _ _ _ _ _),_,_,rfl,.inl ⟨_,SqL.of tK,rfl⟩,rfl,_,rfl,?_⟩;refine Bd (λ_=>?_) (λhne=>?_)
 ·exact⟨_,rfl,_,_,rfl,rfl,by show 4+x.length<=sizeLine;lia,box⟩
 have hlm:(ts.map V.str).length=ts.length:=Ak ..
 have tpos:0<ts.length:=by
  rcases Nat.eq_zero_or_pos ts.length with z | z
  ·exact absurd (AR (by rw[hlm,z];rfl)) hne
  exact z
 refine⟨_,rfl,r,_,rfl,B9 rK (P9 _ _ _ _ _),_,rfl,_,rfl,_,_,rfl,rfl,_,rfl,r,_,rfl,B9 rK (P9 _ _ _ _ _),_,_,rfl,.inl ⟨_,SqL.of tK,rfl⟩,a,ns,_,_,rfl,sK,hn,by lia,by lia,by rw[hlm];lia,λj j0 j1=>?_⟩;have hj:j.toNat<ts.length:=by rw[hlm]at j1;lia
 have hat:atI (ts.map V.str) j=some (.str ts[j.toNat]):=by have q:=Az (xs:=ts.map V.str) (j:=j.toNat) (v:=.str ts[j.toNat]) (by simp[hj]);rw[En j0]at q;exact q
 have hym:=BY hj;have hy:=hts _ hym;have hyl:=hy.len;refine⟨_,_,_,_,rfl,rfl,SqL.of tK,hat,?_⟩;generalize ts[j.toNat]=y at hym hy hyl;refine⟨_,rfl,_,rfl,r,_,rfl,B9 rK (Tf _ _ _ _ _),_,rfl,d2,_,rfl,DPut.k (k:=(Sum.inr x:Af)) dK (by lia),?_⟩;rw[Eg _ v2];have e1:("box " : Str).length=4:=by decide +kernel
 have e2:(" " : Str).length=1:=by decide +kernel
 refine⟨_,rfl,_,_,rfl,rfl,by show 4+x.length<=sizeLine;lia,_,_,rfl,rfl,by rw[B7,e1,e2];lia,_,rfl,_,_,rfl,rfl,by rw[B7,B7,e1,e2];lia,?_⟩;refine q (.lk x y) _ rfl rfl ⟨hx,hy⟩ (λz=>absurd z hk) (λy' e=>by cases e;exact hym) ?_ Ag λb o e hb hb'=>?_
 ·rw[Ai n3];exact Ag
 rw[Ai hb'];exact k1' _ b o e hb
abbrev Nh:List Str:=["_law_script", "_law_places", "_law_things"]
inductive V7 (H:Hp)(r:Addr)(rs:List Ro):Prop
 | mk (kvs L3:List (Af×V)) (p t d1 d2 d3 D:Addr) (c0:H r=some (.dK kvs)) (c1:Ay kvs (Sum.inr "places" : Af)=some (.ref p)) (c2:Ay kvs (Sum.inr "things" : Af)=some (.ref t)) (c3:Ay kvs (Sum.inr "lids" : Af)=some (.ref d1)) (c4:Ay kvs (Sum.inr "keys" : Af)=some (.ref d2)) (c5:Ay kvs (Sum.inr "shapes" : Af)=some (.ref d3)) (c6:Ay kvs (Sum.inr "lines" : Af)=some (.ref D)) (c7:H p=some (.lst (((plc rs).map (·.1)).map V.str))) (c8:H t=some (.lst (((ths rs).map (·.1)).map V.str))) (c9:H d1=some (.dK (Bw rs))) (c10:H d2=some (.dK (BA rs))) (c11:H d3=some (.dK L3)) (c12:H D=some (.lst ((rs.map Ro.txt).map V.str))) (c13:∀x∈ths rs,Ay L3 (Sum.inr x.1:Af)=some (.str x.2)):V7 H r rs
structure RmS (H:Hp)(r:Addr)(rs:List Ro):Prop where
 ex:V7 H r rs
 good:Good rs
def RmS.same (R:RmS H r rs)(s:Same H H'):RmS H' r rs:=by obtain⟨⟨kvs,L3,p,t,d1,d2,d3,D,h1,h2,h3,h4,h5,h6,h7,g1,g2,g3,g4,g5,g6,g7⟩,g⟩:=R;exact⟨⟨kvs,L3,p,t,d1,d2,d3,D,s _ _ h1,h2,h3,h4,h5,h6,h7,s _ _ g1,s _ _ g2,s _ _ g3,s _ _ g4,s _ _ g5,s _ _ g6,g7⟩,g⟩
def QP (g:Good rs) (h:x∈rs.map Ro.name):Nv x:=by obtain⟨r,hr,rfl⟩:=Bi.mp h;exact Ro.nv_name (g.nv r hr)
def T8 (h:Nv x):Sk x:=⟨h.ok,by have:=h.len;lia⟩
inductive O0 (K:W.Frag)(vs:List V)(H:Hp)(Q:VK)(E0_:XK):Prop
 | mk (a:Addr) (ns:List Int) (p m:Int) (c0:vs=[.ref a,.int p,.int m]) (c1:SqL K H a (ns.map V.int)) (c2:ns.length<=63) (c3:1<=p) (c4:p<=6) (c5:0<=m) (c6:m<=6) (c7:∀(r:Addr) (rs:List Ro) (H':Hp),Same H H'->RmS H' r rs->((plc rs).length:Int)=p->((ths rs).length:Int)=m->rs.length<=12->Q (.ref r) H'):O0 K vs H Q E0_
abbrev Ue:List Str:=["_law_script", "_law_places", "_law_things", "_law_names_here", "_law_room_here", "_law_k", "_law_lines_here", "_law_shapes", "_law_thing", "_law_at"]
structure Mk (H H2:Hp)(r p t d1 d2 d3 l D:Addr)(xs:List Str)(n:Nat)(rs:List Ro)(i:Nat):Prop where
 sm:Same H H2
 room:H2 r=some (.dK (Cr p t d1 d2 d3))
 pl:H2 p=some (.lst ((xs.take n).map V.str))
 th:H2 t=some (.lst ((xs.drop n).map V.str))
 l1:H2 d1=some (.dK (Bw rs))
 l2:H2 d2=some (.dK (BA rs))
 l3:∃L,H2 d3=some (.dK L)/\L.length<=i/\∀x∈ths rs,Ay L (Sum.inr x.1:Af)=some (.str x.2)
 nm:H2 l=some (.lst (xs.map V.str))
 ln:H2 D=some (.lst ((rs.map Ro.txt).map V.str))
 ok:∀x∈rs,x.nv
 len:rs.length=i
 ks:∀x y,Ro.lk x y∈rs->y∈xs.drop n
structure Ap (H:Hp)(r p t d1 d2 d3 l D:Addr):Prop where
 fr:H r=none
 f1:H d1=none
 f2:H d2=none
 f3:H d3=none
 fl:H l=none
 fD:H D=none
 r1:r≠d1
 r2:r≠d2
 r3:r≠d3
 n12:d1≠d2
 n13:d1≠d3
 n23:d2≠d3
 Dp:D≠p
 Dt:D≠t
 Dl:D≠l
def scRoom:AM Ue Nh (Av Gk):=AO
def CO {H:Hp}{a b:Addr}{xs:List V}{L:List (Af×V)}(h:H a=some (.lst xs))(h':H b=some (.dK L)):a≠b:=A7 h h' (by intro z;cases z)
def Cc (h:Ab H a o b=none):b≠a/\H b=none:=by
 by_cases e:b=a
 ·subst e;rw[Ag]at h;cases h
 rw[Ai e]at h;exact⟨e,h⟩
def Lp {xs:List Str}{j:Int}(h0:0<=j)(h1:j<(xs.length:Int)):∃x∈xs,xs[j.toNat]? = some x/\atI (xs.map V.str) j=some (.str x):=by
 have hj:j.toNat<xs.length:=by lia
 refine⟨xs[j.toNat],BY hj,AH hj,?_⟩;have q:=Az (xs:=xs.map V.str) (j:=j.toNat) (v:=.str xs[j.toNat]) (by simp[hj]);rw[En h0]at q;exact q
def VO {xs:List Str}{j:Int}(h0:0<=j)(h1:j<(xs.length:Int)):∃x∈xs,atI (xs.map V.str) j=some (.str x):=by obtain⟨x,a,_,b⟩:=Lp h0 h1;exact⟨x,a,b⟩
def Ys (p t d1 d2 d3:Addr):Js [] (Cr p t d1 d2 d3)=Cr p t d1 d2 d3:=by with_unfolding_all rfl
theorem Ky:∀{rs:List Ro},(∀r∈rs,r.isP=true)->(plc rs).map (·.1)=rs.map Ro.name/\ths rs=[]
 | [],_=>⟨rfl,rfl⟩
 | .th n s::r,h=>nomatch h _ Bj
 | .pl n::r,h=>by obtain⟨a,b⟩:=Ky (rs:=r) λx hx=>h x (A6 _ hx);exact⟨by rw[show plc (.pl n::r)=(n,false,none)::plc r from rfl,A9,A9,a];rfl,b⟩
 | .bx n::r,h=>by obtain⟨a,b⟩:=Ky (rs:=r) λx hx=>h x (A6 _ hx);exact⟨by rw[show plc (.bx n::r)=(n,true,none)::plc r from rfl,A9,A9,a];rfl,b⟩
 | .lk n k::r,h=>by obtain⟨a,b⟩:=Ky (rs:=r) λx hx=>h x (A6 _ hx);exact⟨by rw[show plc (.lk n k::r)=(n,true,some k)::plc r from rfl,A9,A9,a];rfl,b⟩
theorem Kz:∀{rs:List Ro}{p:Str×Bool×Option Str}{k:Str},p∈plc rs->p.2.2=some k->∃n,Ro.lk n k∈rs
 | [],_,_,h,_=>nomatch h
 | .th n s::r,p,k,h,e=>by obtain⟨n,z⟩:=Kz (rs:=r) h e;exact⟨n,A6 _ z⟩
 | .pl n::r,p,k,h,e=>by
  rcases AL.mp (show p∈(n,false,none)::plc r from h)with z | z
  ·rw[z]at e;cases e
  obtain⟨n,z⟩:=Kz (rs:=r) z e;exact⟨n,A6 _ z⟩
 | .bx n::r,p,k,h,e=>by
  rcases AL.mp (show p∈(n,true,none)::plc r from h)with z | z
  ·rw[z]at e;cases e
  obtain⟨n,z⟩:=Kz (rs:=r) z e;exact⟨n,A6 _ z⟩
 | .lk n k'::r,p,k,h,e=>by
  rcases AL.mp (show p∈(n,true,some k')::plc r from h)with z | z
  ·rw[z]at e;cases e;exact⟨n,Bj⟩
  obtain⟨n,z⟩:=Kz (rs:=r) z e;exact⟨n,A6 _ z⟩
def iK (rs:List Ro):rs.length=(plc rs).length+(ths rs).length:=by have h:=(Fo rs).length_eq;rw[Ak,AY,Ak,Ak]at h;exact h
def kH {rs:List Ro}{xs:List Str}{n:Nat}(nd:xs.Nodup)(hn:n<=6)(hl:xs.length<=n+6)(ok:∀x∈rs,x.nv)(hp:(plc rs).map (·.1)=xs.take n)(ht:((ths rs).map (·.1)).Perm (xs.drop n))(fl:∃m t,plc rs=(m,false,none)::t)
  (ks:∀x y,Ro.lk x y∈rs->y∈xs.drop n):Good rs:=by
 have hpl:(plc rs).length<=n:=by have:=BJ List.length hp;rw[Ak,Bu]at this;lia
 have htl:(ths rs).length<=6:=by have:=ht.length_eq;rw[Ak,DC]at this;lia
 refine⟨ok,?_,fl,by lia,htl,λp h k e=>?_⟩
 ·refine(Fo rs).nodup_iff.mpr ?_;rw[hp];refine(F8 _ ht).nodup_iff.mpr ?_;rw[DG];exact nd
 obtain⟨m,z⟩:=Kz h e
 exact ht.mem_iff.mpr (ks m k z)
def ZK (F:Fun K "_law_room" "_law_room" Gk f fd)(DP:Df K mg "_law_pick" EV CI fP fdP)
  (DN:Df K mg "_law_names" Kg CI fN fdN)(DL:Df K mg "_law_place_line" ML Ni fL fdL)(T:Bl mg)
  (GP:FnOk P w K mg base CX0 1 fP fdP CI (FJ K))(GN:FnOk P w K mg base CX0 2 fN fdN CI (Pa K))(GL:FnOk P w K mg base CX0 2 fL fdL Ni (Pd K)):FnOk P w K mg base CX0 3 f fd Nh (O0 K):=by
 refine F.oq scRoom λcdv A outer s H vs Q E hr h=>?_
 obtain⟨a,ns,p,m,rfl,hS,hn,p0,p1,m0,m1,q⟩:=h
 have hr1:Room 1 _:=hr.mono (by decide)
 have hu:=CL hr
 have ae:sizeLine=16777216:=AK
 have tail:∃t,PSs (F4 CX0 P w K mg base Ue "_law_room" (Av Gk) f cdv A outer s H E).nox ((Cj Gk).drop 2) t /\
   ∀(l:Addr) (xs:List Str) (H2:Hp),Same H H2->H l=none->H2 l=some (.lst (xs.map V.str))->(xs.length:Int)=p+m->(∀x∈xs,Nv x)->xs.Nodup ->
    t { nx:=λ_ H'=>Q .non H',rt:=Q } [some (.ref a),some (.int p),some (.int m),some (.ref l),none,none,none,none,none,none] H2:=by
  refine⟨_,(Aj (FO (i:=4) scRoom.nd rfl (ET rfl) (Zh (Kx AE (Dk IB (pv 3) Di (Dh (pv 1))) (Kx AE (Dk IB (pv 3) (Dh (pv 1)) Di) (Kx AE FR (Kx AE FR (Kx AE FR Y2))))) rfl rfl (by decide) (by decide)))
  (Aj (FP (i:=6) (N:=["_law_k", "_law_script", "_law_room_here", "_law_names_here"]) (sc:=Av Gk) (own:=["_law_k"]) (fr:=["_law_script", "_law_room_here", "_law_names_here"]) (js:=[0,4,3]) scRoom.nd rfl rfl BX rfl (Ex (by rfl) T.range (Aa (pv 1) Ac)) (λ_ _ _ _=>AZ (i:=0) (show List.Nodup (["_law_k", "_law_script", "_law_room_here", "_law_names_here"]:List Str) by decide +kernel)) (λ_ _ _ _=>B5) (λ_ _ _ _=>(AW GL hr (by rfl) DL.m DL.F.kp DL.b .nil Ar (Aa (pv 1) (Aa (pv 0) (Aa (pv 2) (Aa (Aq (NJ K rfl) (pv 3) (pv 0) (λ_ _=>rfl)) Ac)))))))
  (Aj (AB (i:=7) scRoom.nd (Ax Jo (AW GN hr (by rfl) DN.m DN.F.kp DN.b .nil Ar (Aa (pv 0) (Aa Ah (Aa Ah Ac)))) (Bk (Aa (Aq Bc (pv 3) Ah (λ_ _=>rfl)) Ac))))
  (Aj (BU BS rfl (Ex (by rfl) T.range (Aa (pv 2) Ac)) (AZ (i:=5) scRoom.nd) (Aj (AB (i:=8) scRoom.nd (Aq Bc (pv 3) (Ax Bm (pv 1) (pv 5)) (λ_ _=>rfl)))
  (Aj (Dg hu (B6 hu (pv 4) AE (λ_ _=>rfl)) (pv 8) (Aq Bc (pv 7) (AW GP hr1 (by rfl) DP.m DP.F.kp DP.b .nil Ar (Aa (pv 0) (Aa (Ax Bm Ah (pv 5)) (Aa Ah Ac)))) (λ_ _=>rfl)) rfl)
  (Aj (AB (i:=9) scRoom.nd (AW GP hr1 (by rfl) DP.m DP.F.kp DP.b .nil Ar (Aa (pv 0) (Aa (Ax Bm Ah (pv 5)) (Aa (Ax Bm (AV Bp (by rfl) T.len A8 (Aa (pv 6) Ac)) Ah) Ac)))))
  (Ao (B1 (C1 DZ RN PySem.F.type_list_insert Ug (pv 6) (Aa (pv 9) (Aa (Ax Dx (Ax Dx (Ax Dx AE (pv 8)) AE) (B6 hu (B6 hu (pv 4) AE (λ_ _=>rfl)) (pv 8) (λ_ _=>rfl))) Ac)))))))))
  (Aj (Dg hu (pv 4) AE (CZ (N:=["_law_line"]) (sc:=Av Gk) (own:=["_law_line"]) (fr:=[]) (js:=[]) BX rfl (BM (pv 6)) (λ_ _ _ _=>AZ (i:=0) (show List.Nodup (["_law_line"]:List Str) by decide +kernel)) (λ_ _ _ _=>Qk (Cs (VI K rfl (C1 LO PySem.F.slot_str_startswith PySem.F.type_str_startswith gI (pv 0) (Aa AE Ac))))) (λ_ _ _ _=>(Aq (NJ K rfl) (VI K rfl (C1 LO Iq Ox Nu (pv 0) (Aa AE Ac))) Ah (λ_ _=>rfl)))) rfl)
  (Aj (Dg hu (pv 4) AE (pv 6) rfl)
  (Ao (AA (pv 4))))))))),?_⟩
  intro l xs H2 sm hl hl2 hxl hxs hnd
  have hml:(xs.map V.str).length=xs.length:=Ak ..
  obtain⟨pn,hpn⟩:∃pn:Nat,(pn:Int)=p:=⟨p.toNat,En (by lia)⟩
  obtain⟨mn,hmn⟩:∃mn:Nat,(mn:Int)=m:=⟨m.toNat,En (by lia)⟩
  have hS2:=sm.seq hS
  intro r hr2
  refine⟨_,rfl,_,rfl,_,rfl,l,_,rfl,SqL.of (by rw[Ai (AF hl2 hr2)];exact hl2),λpl hpl=>?_⟩
  obtain⟨a1,a2⟩:=Cc hpl
  refine⟨_,rfl,_,rfl,_,rfl,l,_,rfl,SqL.of (by rw[Ai (AF hl2 a2),Ai (AF hl2 hr2)];exact hl2),λth hth=>?_⟩
  obtain⟨b1,b2⟩:=Cc hth
  obtain⟨b3,b4⟩:=Cc b2
  intro d1 hd1
  obtain⟨c1,c2⟩:=Cc hd1
  obtain⟨c3,c4⟩:=Cc c2
  obtain⟨c5,c6⟩:=Cc c4
  intro d2 hd2
  obtain⟨e1,e2⟩:=Cc hd2
  obtain⟨e3,e4⟩:=Cc e2
  obtain⟨e5,e6⟩:=Cc e4
  obtain⟨e7,e8⟩:=Cc e6
  intro d3 hd3
  obtain⟨g1,g2⟩:=Cc hd3
  obtain⟨g3,g4⟩:=Cc g2
  obtain⟨g5,g6⟩:=Cc g4
  obtain⟨g7,g8⟩:=Cc g6
  obtain⟨g9,g10⟩:=Cc g8
  have cut1:Bh (xs.map V.str) none (some p)=(xs.take pn).map V.str:=by
   rw[<- hpn]
   unfold Bh
   rw[HT.sIx_none,HT.sIx_nat,FA,Gc,hml,DH]
   congr 1
   lia
  have cut2:Bh (xs.map V.str) (some p) none=(xs.drop pn).map V.str:=by
   rw[<- hpn]
   unfold Bh
   rw[HT.sIx_none,HT.sIx_nat,hml,N4,LB (by lia)]
   refine FB ?_
   simp
  refine⟨by rw[Ai g9.symm,Ai e7.symm,Ai c5.symm,Ai b3.symm,Ai a1.symm];exact Ag,Cr pl th d1 d2 d3,rfl,by show 5<=15;decide,?_⟩
  rw[Ys]
  have frH:∀{b:Addr},H2 b=none->H b=none:=λe=>sm.free e
  have sm3:∀b o,H2 b=some o->(Ab (Ab (Ab (Ab (Ab (Ab (Ab H2 r (.dK [])) pl (.lst (Bh (xs.map V.str) none (some p)))) th (.lst (Bh (xs.map V.str) (some p) none))) d1 (.dK [])) d2 (.dK [])) d3 (.dK [])) r (.dK (Cr pl th d1 d2 d3))) b=some o:=λb o e=>by
   rw[Ai (AF e hr2),Ai (AF e g10),Ai (AF e e8),Ai (AF e c6),Ai (AF e b4),Ai (AF e a2),Ai (AF e hr2)]
   exact e
  have M0:∀D,(Ab (Ab (Ab (Ab (Ab (Ab (Ab H2 r (.dK [])) pl (.lst (Bh (xs.map V.str) none (some p)))) th (.lst (Bh (xs.map V.str) (some p) none))) d1 (.dK [])) d2 (.dK [])) d3 (.dK [])) r (.dK (Cr pl th d1 d2 d3))) D=none ->
    Ap H r pl th d1 d2 d3 l D/\Mk H (Ab (Ab (Ab (Ab (Ab (Ab (Ab (Ab H2 r (.dK [])) pl (.lst (Bh (xs.map V.str) none (some p)))) th (.lst (Bh (xs.map V.str) (some p) none))) d1 (.dK [])) d2 (.dK [])) d3 (.dK [])) r (.dK (Cr pl th d1 d2 d3))) D (.lst [])) r pl th d1 d2 d3 l D xs pn [] 0:=λD hD=>by
   obtain⟨k1,k2⟩:=Cc hD
   obtain⟨k3,k4⟩:=Cc k2
   obtain⟨k5,k6⟩:=Cc k4
   obtain⟨k7,k8⟩:=Cc k6
   obtain⟨k9,k10⟩:=Cc k8
   obtain⟨k11,k12⟩:=Cc k10
   obtain⟨k13,k14⟩:=Cc k12
   refine⟨⟨frH hr2,frH c6,frH e8,frH g10,hl,frH k14,c5.symm,e7.symm,g9.symm,e1.symm,g3.symm,g1.symm,k11,k9,λz=>by rw[z]at k14;rw[k14]at hl2;cases hl2⟩,?_⟩
   refine⟨λb o e=>by rw[Ai (AF (sm b o e) k14)];exact sm3 b o (sm b o e),by rw[Ai k1.symm];exact Ag,?_,?_,?_,?_,⟨[],?_,Au _,λ_ z=>nomatch z⟩,by rw[Ai (AF hl2 k14)];exact sm3 _ _ hl2,Ag,(λ_ z=>nomatch z),rfl,λ_ _ z=>nomatch z⟩
   ·rw[Ai k11.symm,Ai a1,Ai g7.symm,Ai e5.symm,Ai c3.symm,Ai b1.symm,Ag,cut1]
   ·rw[Ai k9.symm,Ai b3,Ai g5.symm,Ai e3.symm,Ai c1.symm,Ag,cut2]
   ·rw[Ai k7.symm,Ai c5,Ai g3.symm,Ai e1.symm,Ag]
    rfl
   ·rw[Ai k5.symm,Ai e7,Ai g1.symm,Ag]
    rfl
   rw[Ai k3.symm,Ai g9,Ag]
  generalize (Ab (Ab (Ab (Ab (Ab (Ab (Ab H2 r (.dK [])) pl (.lst (Bh (xs.map V.str) none (some p)))) th (.lst (Bh (xs.map V.str) (some p) none))) d1 (.dK [])) d2 (.dK [])) d3 (.dK [])) r (.dK (Cr pl th d1 d2 d3)))=H3 at M0 sm3 ⊢
  refine⟨_,rfl,p,rfl,by lia,by lia,λD hD=>?_⟩
  obtain⟨ap,m0'⟩:=M0 D hD
  refine B8 (n:=p.toNat) (λi ys H4=>∃rs:List Ro,ys=(rs.map Ro.txt).map V.str/\rs.map Ro.name=xs.take i/\(∀ro∈rs,ro.isP=true)/\(rs=[]\/∃x t,rs=.pl x::t)/\Mk H H4 r pl th d1 d2 d3 l D xs pn rs i) ⟨[],rfl,rfl,(λ_ z=>nomatch z),.inl rfl,m0'⟩ (λi _ _ hi _=>hi) (λ_ _ _=>Au _) ?_ ?_
  ·rintro i ys H4 x H5 hi ⟨rs,rfl,hnm,hisP,hfl,M⟩ ⟨rfl,rfl⟩
   refine Ce ?_
   obtain⟨x,hxm,hxi,hat⟩:=Lp (xs:=xs) (j:=0+(i:Int)) (by lia) (by lia)
   have hxi':xs[i]? = some x:=by
    rw[show(0+(i:Int)).toNat=i by lia]at hxi
    exact hxi
   have hil:i<xs.length:=(AG.mp hxi').1
   have htk:xs.take (i+1)=xs.take i++[x]:=by
    rw[BF hil]
    congr 2
    exact(AG.mp hxi').2
   have hxn:x∉rs.map Ro.name:=by
    rw[hnm]
    have nd2:(xs.take (i+1)).Nodup:=GG (Gf _ _) hnd
    rw[htk]at nd2
    intro z
    exact((Cw.mp nd2).2.2 x z x (AX.mpr rfl)) rfl
   obtain⟨L3,q3,z3,w3⟩:=M.l3
   have b1:=Lb rs
   have b2:=Le rs
   have bl:=M.len
   refine⟨_,rfl,_,rfl,_,rfl,_,rfl,_,rfl,l,_,_,_,rfl,rfl,SqL.of M.nm,hat,?_⟩
   refine⟨a,ns,_,r,pl,th,d1,d2,d3,x,xs.drop pn,Bw rs,BA rs,rfl,M.sm.seq hS,hn,by lia,by lia,hxs x hxm,M.room,M.th,λy hy=>hxs y (RK hy),by rw[DC];lia,M.l1,M.l2,by lia,by lia,ap.r1,ap.r2,ap.n12,HP hxn,F0 hxn,λro H6 hro hP hnv hk0 hkt u1 u2 kp=>?_⟩
   have nD1:D≠d1:=CO M.ln M.l1
   have nD2:D≠d2:=CO M.ln M.l2
   have nD3:D≠d3:=CO M.ln q3
   have nDr:D≠r:=CO M.ln M.room
   have th0:=(Ky hisP).2
   have th1:ths (rs++[ro])=[]:=by
    rw[Ew,th0]
    cases ro with
    | th n s=>cases hP
    | _=>rfl
   refine⟨_,kp D _ M.ln nD1 nD2,by rw[Ak,Ak];lia,rs++[ro],by simp,by rw[Ba,hnm,htk];show _++[ro.name]=_;rw[hro],λy hy=>?_,?_,?_⟩
   ·rcases(BK.mp hy)with z | z
    ·exact hisP y z
    rw[AX.mp z];exact hP
   ·refine .inr ?_
    rcases hfl with z | ⟨x0,t,z⟩
    ·rw[z]
     have hi0:i=0:=by
      have:=BJ List.length hnm
      rw[z,Ak,Bu]at this
      simp at this
      lia
     exact⟨x,[],by rw[hk0 (by lia)];rfl⟩
    exact⟨x0,t++[ro],by rw[z];rfl⟩
   refine⟨λb o e=>?_,?_,?_,?_,?_,?_,⟨L3,by rw[Ai nD3.symm];exact kp _ _ q3 ap.n13.symm ap.n23.symm,by lia,by rw[th1];exact λ_ z=>nomatch z⟩,?_,by rw[Ag];simp,λz hz=>?_,by rw[AY,bl];rfl,λy z hz=>?_⟩
   ·rw[Ai (AF e ap.fD)]
    exact kp b o (M.sm b o e) (AF e ap.f1) (AF e ap.f2)
   ·rw[Ai nDr.symm]
    exact kp _ _ M.room ap.r1 ap.r2
   ·rw[Ai ap.Dp.symm]
    exact kp _ _ M.pl (CO M.pl M.l1) (CO M.pl M.l2)
   ·rw[Ai ap.Dt.symm]
    exact kp _ _ M.th (CO M.th M.l1) (CO M.th M.l2)
   ·rw[Ai nD1.symm,HQ]
    exact u1
   ·rw[Ai nD2.symm,HU]
    exact u2
   ·rw[Ai ap.Dl.symm]
    exact kp _ _ M.nm (CO M.nm M.l1) (CO M.nm M.l2)
   ·rcases(BK.mp hz)with hz | hz
    ·exact M.ok z hz
    rw[AX.mp hz];exact hnv
   rcases(BK.mp hz)with hz | hz
   ·exact M.ks y z hz
   have e:=AX.mp hz
   have ey:y=x:=by rw[<- hro,<- e];rfl
   subst ey
   exact hkt z e.symm
  rintro ys H4 ⟨rs,rfl,hnm,hisP,hfl,M⟩
  have hpt:p.toNat=pn:=by lia
  rw[hpt]at hnm M
  refine⟨_,rfl,a,ns,_,_,rfl,M.sm.seq hS,hn,by decide,by decide,by decide,by decide,λl2 zs H5 s5 f5 e5 hz5 hzn hznd=>?_⟩
  obtain⟨x0,hx0,_,hat0⟩:=Lp (xs:=xs) (j:=0) (by decide) (by lia)
  refine⟨_,rfl,l,_,_,_,rfl,rfl,SqL.of (s5 _ _ M.nm),hat0,by show 1<=sizeLine;decide,λl3 hl3=>?_⟩
  refine⟨l2,l3,_,_,rfl,rfl,by rw[Ai (AF e5 hl3)];exact e5,Ag,by rw[Ak];show zs.length+1<=sizeLine;lia,λsh hsh=>?_⟩
  obtain⟨y1,y2⟩:=Cc hsh
  have s6:∀b o,H4 b=some o->(Ab (Ab H5 l3 (.lst [V.str x0])) sh (.lst (zs.map V.str++[V.str x0]))) b=some o:=λb o e=>by
   rw[Ai (AF (s5 b o e) y2),Ai (AF (s5 b o e) hl3)]
   exact s5 b o e
  have M6:Mk H (Ab (Ab H5 l3 (.lst [V.str x0])) sh (.lst (zs.map V.str++[V.str x0]))) r pl th d1 d2 d3 l D xs pn rs (pn+0):=by
   obtain⟨L3,q3,z3,w3⟩:=M.l3
   exact⟨λb o e=>s6 b o (M.sm b o e),s6 _ _ M.room,s6 _ _ M.pl,s6 _ _ M.th,s6 _ _ M.l1,s6 _ _ M.l2,⟨L3,s6 _ _ q3,by lia,w3⟩,s6 _ _ M.nm,s6 _ _ M.ln,M.ok,M.len,M.ks⟩
  have hsh6:(Ab (Ab H5 l3 (.lst [V.str x0])) sh (.lst (zs.map V.str++[V.str x0]))) sh=some (.lst ((zs++[x0]).map V.str)):=by rw[Ag];simp
  have hss:∀z∈zs++[x0],Nv z:=λz hz=>by
   rcases(BK.mp hz)with hz | hz
   ·exact hzn z hz
   rw[AX.mp hz];exact hxs x0 hx0
  have hsl4:(zs++[x0]).length=4:=by rw[AY];show zs.length+1=4;lia
  generalize (Ab (Ab H5 l3 (.lst [V.str x0])) sh (.lst (zs.map V.str++[V.str x0])))=H6 at M6 hsh6 ⊢
  generalize zs++[x0]=ss at hsh6 hss hsl4
  have fsh:sh≠D:=λz=>by
   have:=s5 _ _ M.ln
   rw[<- z,y2]at this
   cases this
  have fsd:sh≠d3:=λz=>by
   obtain⟨L3,q3,_⟩:=M.l3
   have:=s5 _ _ q3
   rw[<- z,y2]at this
   cases this
  have CF:=Ky hisP
  have hfl':∃n t,plc rs=(n,false,none)::t:=by
   rcases hfl with z | ⟨x,t,z⟩
   ·have:=M.len
    rw[z]at this
    simp at this
    lia
   exact⟨x,plc t,by rw[z];rfl⟩
  refine⟨_,rfl,m,rfl,by lia,by lia,HV (n:=m.toNat) (λi σ H7=>∃(v5 v8 v9:Option V) (rs':List Ro),
   σ = [some (.ref a),some (.int p),some (.int m),some (.ref l),some (.ref r),v5,some (.ref D),some (.ref sh),v8,v9]/\plc rs'=plc rs/\((ths rs').map (·.1)).Perm ((xs.drop pn).take i)/\Mk H H7 r pl th d1 d2 d3 l D xs pn rs' (pn+i)/\H7 sh=some (.lst (ss.map V.str)))
   ⟨none,none,none,rs,rfl,rfl,by rw[CF.2];exact .nil,M6,hsh6⟩ ?_ ?_⟩
  ·rintro i σ H7 hi ⟨v5,v8,v9,rs',rfl,hpl',hth',M,hsh7⟩
   obtain⟨x,hxm,hxi,hat⟩:=Lp (xs:=xs) (j:=p+(0+(i:Int))) (by lia) (by lia)
   have hxN:=hxs x hxm
   have hxL:=hxN.len
   have hxi':(xs.drop pn)[i]? = some x:=by
    rw[List.getElem?_drop]
    rw[show(p+(0+(i:Int))).toNat=pn+i by lia]at hxi
    exact hxi
   have hil:i<(xs.drop pn).length:=(AG.mp hxi').1
   have htk:(xs.drop pn).take (i+1)=(xs.drop pn).take i++[x]:=by
    rw[BF hil]
    congr 2
    exact(AG.mp hxi').2
   have hxn:x∉(xs.drop pn).take i:=by
    have nd2:((xs.drop pn).take (i+1)).Nodup:=GG ((Gf _ _).trans (List.drop_sublist _ _)) hnd
    rw[htk]at nd2
    intro z
    exact((Cw.mp nd2).2.2 x z x (AX.mpr rfl)) rfl
   obtain⟨L3,q3,z3,w3⟩:=M.l3
   have bl:=M.len
   have hS7:=M.sm.seq hS
   refine⟨_,rfl,_,rfl,_,rfl,_,_,rfl,rfl,l,_,_,_,rfl,rfl,SqL.of M.nm,hat,?_⟩
   refine⟨_,rfl,_,rfl,_,rfl,_,_,rfl,rfl,a,ns,_,_,rfl,hS7,hn,by lia,by lia,by decide,λj j0 j1=>?_⟩
   obtain⟨y,hym,_,hay⟩:=Lp (xs:=ss) (j:=j) j0 (by lia)
   have hyN:=hss y hym
   have hyL:=hyN.len
   refine⟨sh,_,_,_,rfl,rfl,SqL.of hsh7,hay,_,rfl,r,_,rfl,B9 M.room (Qa _ _ _ _ _),_,rfl,d3,_,rfl,DPut.k (k:=(Sum.inr x:Af)) q3 (by lia),?_⟩
   have kp:∀b o,H7 b=some o->b≠d3->(Ab H7 d3 (.dK (BL L3 (Sum.inr x) (V.str y)))) b=some o:=λb o e hb=>by rw[Ai hb];exact e
   have nD3:D≠d3:=CO M.ln q3
   have lnK:=kp _ _ M.ln nD3
   have sK:=Ta (K:=K) hS7 kp q3
   have z3':=Ju L3 (Sum.inr x:Af) (V.str y)
   have hlm:((rs'.map Ro.txt).map V.str).length=rs'.length:=by rw[Ak,Ak]
   refine⟨_,rfl,_,rfl,_,_,rfl,rfl,_,rfl,_,_,rfl,.inl ⟨_,SqL.of lnK,rfl⟩,_,_,rfl,rfl,a,ns,_,_,rfl,sK,hn,by lia,by lia,by lia,λat' a0 a1=>?_⟩
   rw[hlm]at a1
   have t1:("thing " : Str).length=6:=by decide +kernel
   have t2:(" " : Str).length=1:=by decide +kernel
   have hv:Ay (BL L3 (Sum.inr x:Af) (V.str y)) (Sum.inr x:Af)=some (V.str y):=by rw[Ed,As rfl]
   refine⟨_,rfl,.inl ⟨rfl,_,SqL.of lnK⟩,_,rfl,_,rfl,_,_,rfl,rfl,by rw[t1];lia,_,_,rfl,rfl,by rw[B7,t1,t2];lia,_,rfl,r,_,rfl,B9 (kp _ _ M.room ap.r3) (Qa _ _ _ _ _),_,rfl,d3,_,rfl,B9 Ag hv,
    _,_,rfl,rfl,by rw[B7,B7,t1,t2];lia,D,_,_,_,rfl,rfl,a0,by rw[hlm];lia,lnK,by rw[hlm];lia,?_⟩
   have nDr:D≠r:=CO M.ln M.room
   have thp:=WC rs' at'.toNat x y
   refine⟨_,_,_,rs'.take at'.toNat++(.th x y::rs'.drop at'.toNat),rfl,by rw[Y5];exact hpl',?_,?_,?_⟩
   ·rw[htk]
    refine(thp.map (·.1)).trans ?_
    rw[A9]
    exact(Oc x hth').trans (RX x _).symm
   ·refine⟨λb o e=>?_,?_,?_,?_,?_,?_,⟨_,by rw[Ai nD3.symm];exact Ag,by lia,λz hz=>?_⟩,?_,?_,λz hz=>?_,?_,λu v huv=>?_⟩
    ·rw[Ai (AF e ap.fD)]
     exact kp b o (M.sm b o e) (AF e ap.f3)
    ·rw[Ai nDr.symm]
     exact kp _ _ M.room ap.r3
    ·rw[Ai ap.Dp.symm]
     exact kp _ _ M.pl (CO M.pl q3)
    ·rw[Ai ap.Dt.symm]
     exact kp _ _ M.th (CO M.th q3)
    ·rw[Ai (CO M.ln M.l1).symm,iI]
     exact kp _ _ M.l1 ap.n13
    ·rw[Ai (CO M.ln M.l2).symm,iU]
     exact kp _ _ M.l2 ap.n23
    ·rcases AL.mp (thp.mem_iff.mp hz)with e | e
     ·rw[e]
      exact hv
     have hne:z.1≠x:=λez=>hxn (hth'.mem_iff.mp (Bi.mpr ⟨z,e,ez⟩))
     rw[Ed,Am (BO hne)]
     exact w3 z e
    ·rw[Ai ap.Dl.symm]
     exact kp _ _ M.nm (CO M.nm q3)
    ·rw[Ag]
     simp[DH,N4]
     rfl
    ·rcases(BK.mp hz)with hz | hz
     ·exact M.ok z (G8 hz)
     rcases(AL.mp hz)with hz | hz
     ·rw[hz]
      exact⟨hxN,hyN⟩
     exact M.ok z (RK hz)
    ·rw[AY,CS,Bu,DC]
     lia
    rcases(BK.mp huv)with hz | hz
    ·exact M.ks u v (G8 hz)
    rcases(AL.mp hz)with hz | hz
    ·cases hz
    exact M.ks u v (RK hz)
   rw[Ai fsh]
   exact kp _ _ hsh7 fsd
  rintro σ H7 ⟨v5,v8,v9,rs',rfl,hpl',hth',M,hsh7⟩
  have hdl:(xs.drop pn).length<=m.toNat:=by rw[DC];lia
  rw[FB hdl]at hth'
  have G:Good rs':=kH hnd (by lia) (by lia) M.ok (by rw[hpl',CF.1];exact hnm) hth' (by rw[hpl'];exact hfl') M.ks
  refine⟨_,rfl,D,rfl,⟨_,SqL.of M.ln⟩,λD2 hD2=>?_⟩
  have hll:((rs'.map Ro.txt).map V.str).length=rs'.length:=by rw[Ak,Ak]
  have bl:=M.len
  refine B8 (n:=rs'.length) (λi ys H8=>ys=((ths (rs'.take i)).map (·.1)).map V.str/\Same H7 H8/\H8 D2=some (.lst ys)) ⟨rfl,Same.new hD2,Ag⟩
   (λi ys H8 hi hh0=>by obtain⟨_,s8,_⟩:=hh0;exact⟨_,.str rs'[i].txt,SqL.of (s8 _ _ M.ln),by simp[hi]⟩) (λys H8 hh0=>by obtain⟨_,s8,_⟩:=hh0;exact⟨_,SqL.of (s8 _ _ M.ln),by simp⟩) ?_ ?_
  ·rintro i ys H8 x H9 hi ⟨rfl,s8,hD8⟩ ⟨rfl,hx⟩
   have hx1:=hx _ (SqL.of (s8 _ _ M.ln))
   have hx2:x=.str rs'[i].txt:=by
    rw[AI,AI,AH hi]at hx1
    exact(Bs hx1).symm
   subst hx2
   have hnv:=M.ok _ (BY hi)
   have hLl:=Sq hnv
   have htk:rs'.take (i+1)=rs'.take i++[rs'[i]]:=BF hi
   have hle:(((ths (rs'.take i)).map (·.1)).map V.str).length<sizeLine:=by
    have h1:=iK (rs'.take i)
    rw[Bu]at h1
    rw[Ak,Ak]
    lia
   generalize rs'[i]=ro at hnv hLl htk
   refine⟨_,rfl,rfl,_,_,rfl,rfl,_,rfl,?_⟩
   have hst:=Xm ro
   refine Bd (λhs=>?_) (λhs=>⟨?_,s8,hD8⟩)
   ·rw[show Txt.startswith ro.txt (Str.ofString "thing ")=!ro.isP from hst]at hs
    refine⟨_,rfl,rfl,_,_,rfl,rfl,by decide +kernel,by lia,λp3 hp3=>?_⟩
    have hsp:=SY hnv
    obtain⟨n,sh',rfl⟩:∃n s,ro=.th n s:=by
     cases ro with
     | th n s=>exact⟨n,s,rfl⟩
     | _=>exact absurd (show false=true from hs) BE
    have hay:atI ((Txt.split (Ro.th n sh').txt Cu).map V.str) ((1:Nat):Int)=some (.str n):=Az (by rw[hsp];rfl)
    refine⟨p3,_,_,_,rfl,rfl,SqL.of Ag,hay,_,by rw[Ai (AF hD8 hp3)];exact hD8,hle,?_,(s8.trans (Same.new hp3)).put hD2,Ag⟩
    rw[htk,Ew,Ba,Ba]
    rfl
   rw[show Txt.startswith ro.txt (Str.ofString "thing ")=!ro.isP from hst]at hs
   have:ths (rs'.take (i+1))=ths (rs'.take i):=by
    rw[htk,Ew]
    cases ro with
    | th n s=>exact absurd rfl hs
    | _=>exact Cm _
   rw[this]
  rintro ys H8 ⟨rfl,s8,hD8⟩
  rw[BP]at hD8
  refine⟨_,rfl,r,_,rfl,DPut.k (k:=(Sum.inr "things" : Af)) (s8 _ _ M.room) (by show 5<sizeLine;decide),?_⟩
  have z9:=Ju (Cr pl th d1 d2 d3) (Sum.inr "things" : Af) (V.ref D2)
  refine⟨_,rfl,_,rfl,r,_,rfl,DPut.k (k:=(Sum.inr "lines" : Af)) Ag (by show _<sizeLine;have:(Cr pl th d1 d2 d3).length=5:=rfl;lia),?_⟩
  obtain⟨L3,q3,z3,w3⟩:=M.l3
  have nr2:D2≠r:=λz=>by rw[z]at hD2;rw[M.room]at hD2;cases hD2
  have up:∀(u v:HO) b o,H7 b=some o->b≠r->Ab (Ab H8 r u) r v b=some o:=λu v b o e hb=>by rw[Ai hb,Ai hb];exact s8 b o e
  have hplr:(plc rs').map (·.1)=xs.take pn:=by rw[hpl',CF.1];exact hnm
  have hc1:=BJ List.length hplr
  rw[Ak,Bu]at hc1
  have hc2:=hth'.length_eq
  rw[Ak,DC]at hc2
  refine⟨_,rfl,q r rs' _ (λb o e=>up _ _ b o (M.sm b o e) (AF e ap.fr)) ⟨⟨_,L3,pl,D2,d1,d2,d3,D,Ag,?_,?_,?_,?_,?_,?_,?_,?_,up _ _ _ _ M.l1 ap.r1.symm,up _ _ _ _ M.l2 ap.r2.symm,up _ _ _ _ q3 ap.r3.symm,up _ _ _ _ M.ln (CO M.ln M.room),w3⟩,G⟩ (by lia) (by lia) (by lia)⟩
  ·rw[Ed,Am (BO (by decide +kernel)),Ed,Am (BO (by decide +kernel))]
   exact Yr _ _ _ _ _
  ·rw[Ed,Am (BO (by decide +kernel)),Ed,As rfl]
  ·rw[Ed,Am (BO (by decide +kernel)),Ed,Am (BO (by decide +kernel))]
   exact Te _ _ _ _ _
  ·rw[Ed,Am (BO (by decide +kernel)),Ed,Am (BO (by decide +kernel))]
   exact Tf _ _ _ _ _
  ·rw[Ed,Am (BO (by decide +kernel)),Ed,Am (BO (by decide +kernel))]
   exact Qa _ _ _ _ _
  ·rw[Ed,As rfl]
  ·rw[hplr]
   exact up _ _ _ _ M.pl (CO M.pl M.room)
  rw[Ai nr2,Ai nr2]
  exact hD8
 obtain⟨tt,ht,rt⟩:=tail
 refine⟨_,Aj (FO (i:=3) scRoom.nd rfl (ET rfl) (AW GN hr (by rfl) DN.m DN.F.kp DN.b .nil Ar (Aa (pv 0) (Aa Ah (Aa (Ax Bm (pv 1) (pv 2)) Ac))))) (Aj (AQ (AC Bo (AW GP hr1 (by rfl) DP.m DP.F.kp DP.b .nil Ar (Aa (pv 0) (Aa Ah (Aa Ah Ac)))) Ah (AD _)) (Ao (B1 (Qs DZ PySem.F.slot_list_reverse PySem.F.type_list_reverse gJ (pv 3)))) AS) ht),?_⟩
 refine⟨_,rfl,_,rfl,_,rfl,_,_,rfl,rfl,a,ns,_,_,rfl,hS,hn,by decide,by decide,by lia,by lia,λl xs H2 sm hl hl2 hxl hxs hnd=>?_⟩
 refine⟨_,rfl,a,ns,_,_,rfl,sm.seq hS,hn,by decide,by decide,by decide,λb b0 b1=>⟨rfl,_,rfl,?_⟩⟩
 refine Bd (λ_=>?_) (λ_=>?_)
 ·refine⟨_,rfl,.inl ⟨rfl,_,SqL.of hl2⟩,l,_,rfl,rfl,hl2,?_⟩;exact rt l xs.reverse _ (sm.put hl) hl (by rw[Ag,List.map_reverse]) (by rw[Ip];lia) (λx hx=>hxs x (List.mem_reverse.mp hx)) ((Rv xs).nodup_iff.mpr hnd)
 exact rt l xs H2 sm hl hl2 hxl hxs hnd
structure Wl where
 hand:Option Str
 heaps:List (List Str)
 lids:List Str
 deriving DecidableEq
def dO:Option Str->PyData
 | none=>.none
 | some x=>.str x
def dH (xs:List Str):PyData:=.tuple (xs.map PyData.str)
def dW (W:Wl):PyData:=.tuple [dO W.hand,.tuple (W.heaps.map dH),.tuple (W.lids.map PyData.str)]
def Sz (W:Wl)(n:Nat):Prop:=W.heaps.length=n/\W.lids.length=n
structure Ok (W:Wl):Prop where
 hand:∀x∈W.hand,Sk x
 heaps:∀h∈W.heaps,∀x∈h,Sk x
 lids:∀x∈W.lids,Sk x
 few:∀h∈W.heaps,h.length<=100
def C2 (h:RdV H v (dW W)):∃(a:Addr) (v0:V) (b c:Addr) (xs ys:List V),v=.ref a/\H a=some (.tup [v0,.ref b,.ref c])/\RdV H v0 (dO W.hand) /\
  H b=some (.tup xs)/\RdVs H xs (W.heaps.map dH)/\H c=some (.tup ys)/\RdVs H ys (W.lids.map PyData.str):=by
 unfold dW at h
 cases h with
 | tup e rs=>
  cases rs with
  | cons r0 rs=>
   cases rs with
   | cons r1 rs=>
    cases rs with
    | cons r2 rs=>
     cases rs;cases r1 with
     | tup e1 s1=>
      cases r2 with
      | tup e2 s2=>exact⟨_,_,_,_,_,_,rfl,e,r0,e1,s1,e2,s2⟩
def Du (e:H a=some (.tup [v0,.ref b,.ref c]))(r0:RdV H v0 (dO W.hand))(e1:H b=some (.tup xs))(s1:RdVs H xs (W.heaps.map dH))(e2:H c=some (.tup ys))(s2:RdVs H ys (W.lids.map PyData.str)) :
  RdV H (.ref a) (dW W):=.tup e (.cons r0 (.cons (.tup e1 s1) (.cons (.tup e2 s2) .nil)))
def Bx {α:Type}{xs:List α}{i:Nat}{v:α}(h:xs[i]? = some v):atI xs (0+(i:Int))=some v:=by rw[Ig];exact Az h
def oV:Option Str->V
 | none=>.non
 | some x=>.str x
theorem YE :∀o:Option Str,RdV H (oV o) (dO o)
 | none=>.non
 | some x=>.str x
abbrev Qt:List Str:=["_law_script", "_law_k", "_law_room_here"]
structure Fw (rs:List Ro)(W:Wl):Prop where
 perm:(W.hand.toList++W.heaps.flatten).Perm ((ths rs).map (·.1))
 lids:∀(i:Nat) p l,(plc rs)[i]? = some p->W.lids[i]? = some l->Lo p l
def gZ (h:Lo p l):Sk l:=by rcases h with h | ⟨h,_⟩ | ⟨h,_⟩ <;> (rw[h];exact⟨by decide +kernel,by decide +kernel⟩)
def Fw.ok (g:Good rs)(f:Fw rs W)(sz:Sz W (plc rs).length):Ok W:=by
 have hm:∀x∈W.hand.toList++W.heaps.flatten,Sk x:=λx hx=>T8 (QP g (Uh (f.perm.mem_iff.mp hx)));refine⟨λx hx=>hm x (JO _ (by rw[Option.mem_toList];exact hx)),λh hh x hx=>hm x (EO _ (List.mem_flatten.mpr ⟨h,hh,hx⟩)),λl hl=>?_,λh hh=>?_⟩
 ·obtain⟨i,hi⟩:=G9 hl;have hlt:=(AG.mp hi).1;exact gZ (f.lids i _ l (AH (by have:=sz.2;lia)) hi)
 have h1:=QE hh;have h2:=f.perm.length_eq;rw[AY,Ak]at h2;have:=g.fewT;lia
inductive OW (K:W.Frag)(vs:List V)(H:Hp)(Q:VK)(E0_:XK):Prop
 | mk (a:Addr) (ns:List Int) (k:Int) (r:Addr) (rs:List Ro) (c0:vs=[.ref a,.int k,.ref r]) (c1:SqL K H a (ns.map V.int)) (c2:ns.length<=63) (c3:0<=k) (c4:k<100000) (c5:RmS H r rs) (c6:1<=(plc rs).length) (c7:∀(v:V) (W:Wl) (H':Hp),Same H H'->RdV H' v (dW W)->Sz W (plc rs).length->Fw rs W->Q v H'):OW K vs H Q E0_
structure Hs (H H2:Hp)(D:Addr)(hs:List Addr)(xss:List (List Str)):Prop where
 len:hs.length=xss.length
 lst:H2 D=some (.lst (hs.map V.ref))
 nd:hs.Nodup
 fr:∀h∈hs,H h=none/\h≠D
 at':∀(i:Nat) h xs,hs[i]? = some h->xss[i]? = some xs->H2 h=some (.lst (xs.map V.str))
def Hs.same (S:Hs H H2 D hs xss)(s:Same H2 H3):Hs H H3 D hs xss:=
 ⟨S.len,s _ _ S.lst,S.nd,S.fr,λi h xs a b=>s _ _ (S.at' i h xs a b)⟩
def Hs.has (S:Hs H H2 D hs xss) (hh:h∈hs):∃o,H2 h=some o:=by obtain⟨i,hi⟩:=G9 hh;have hlt:=(AG.mp hi).1;exact⟨_,S.at' i h _ hi (AH (by have:=S.len;lia))⟩
def Hs.off (S:Hs H H2 D hs xss)(n1:l≠D)(n2:∀h∈hs,l≠h):Hs H (Ab H2 l o) D hs xss:=
 ⟨S.len,by rw[Ai n1.symm];exact S.lst,S.nd,S.fr,λi h xs a b=>by rw[Ai (n2 h (Bz a)).symm];exact S.at' i h xs a b⟩
def Hs.put (S:Hs H H2 D hs xss) {new:List Str}(hj:hs[j]? = some h):Hs H (Ab H2 h (.lst (new.map V.str))) D hs (xss.set j new):=by
 have hne:=(S.fr h (Bz hj)).2;refine⟨by rw[E8];exact S.len,by rw[Ai hne.symm];exact S.lst,S.nd,S.fr,λi g xs a b=>?_⟩;have hjl:=(AG.mp hj).1;by_cases e:j=i
 ·subst e;rw[hj]at a;cases a;rw[JX (by have:=S.len;lia)]at b;cases b;exact Ag
 rw[JU e]at b;have hgh:g≠h:=λz=>by subst z;have hil:=(AG.mp a).1;have e1:=(AG.mp a).2;have e2:=(AG.mp hj).2;exact e ((Gb S.nd).mp (e2.trans e1.symm))
 rw[Ai hgh];exact S.at' i g xs a b
abbrev cK:List Str:=["_law_script", "_law_k", "_law_room_here", "_law_heaps", "_law_hand", "_law_i", "_law_thing", "_law_where", "_law_heap_here", "_law_lids_here", "_law_some"]
def scWorld:AM cK Qt (Av ID):=AO
def ZA (F:Fun K "_law_world" "_law_world" ID f fd)(DP:Df K mg "_law_pick" EV CI fP fdP)(DL:Df K mg "_law_lids" MM Nj fL fdL)(T:Bl mg)(GP:FnOk P w K mg base CX0 1 fP fdP CI (FJ K))(GL:FnOk P w K mg base CX0 1 fL fdL Nj Pe) :
  FnOk P w K mg base CX0 2 f fd Qt (OW K):=by
 refine F.oq scWorld λcdv A outer s H vs Q E hr h=>?_
 obtain⟨a,ns,k,r,rs,rfl,hS,hn,k0,k1,R,p0',q⟩:=h
 have hu:=CL hr
 have ae:sizeLine=16777216:=AK
 refine⟨_,(Aj (FP (i:=3) (N:=["_law_place"]) (sc:=Av ID) (own:=["_law_place"]) (fr:=[]) (js:=[]) scWorld.nd rfl rfl BX rfl (BM (B6 hu (pv 2) AE (λ_ _=>rfl))) (λ_ _ _ _=>AZ (i:=0) (show List.Nodup (["_law_place"]:List Str) by decide +kernel)) (λ_ _ _ _=>B5) (λ_ _ _ _=>Bk Ac)) (Aj (AB (i:=4) scWorld.nd CG) (Aj (BU BS rfl (Ex (by rfl) T.range (Aa (AV Bp (by rfl) T.len A8 (Aa (B6 hu (pv 2) AE (λ_ _=>rfl)) Ac)) Ac)) (AZ (i:=5) scWorld.nd) (Aj (AB (i:=6) scWorld.nd (Aq Bc (B6 hu (pv 2) AE (λ_ _=>rfl)) (pv 5) (λ_ _=>rfl))) (Aj (AB (i:=7) scWorld.nd (AW GP hr (by rfl) DP.m DP.F.kp DP.b .nil Ar (Aa (pv 0) (Aa (Ax Bm (pv 1) (pv 5)) (Aa (Ax Bm (AV Bp (by rfl) T.len A8 (Aa (pv 3) Ac)) Ah) Ac))))) (Ao (AQ (PW.pt (Cg (AC Bo (pv 7) (AV Bp (by rfl) T.len A8 (Aa (pv 3) Ac)) (AD _)) (Ef (AC HL (pv 4) CG (AD _))))) (Ao (AB (i:=4) scWorld.nd (pv 6))) (Aj (AB (i:=8) scWorld.nd (Aq Bc (pv 3) (Ax Fn (pv 7) (AV Bp (by rfl) T.len A8 (Aa (pv 3) Ac))) (λ_ _=>rfl))) (Ao (B1 (C1 DZ RN PySem.F.type_list_insert Ug (pv 8) (Aa (AW GP hr (by rfl) DP.m DP.F.kp DP.b .nil Ar (Aa (pv 0) (Aa (Ax Bm (Ax Bm (pv 1) Ah) (pv 5)) (Aa (Ax Bm (AV Bp (by rfl) T.len A8 (Aa (pv 8) Ac)) Ah) Ac)))) (Aa (pv 6) Ac))))))))))) (Aj (AB (i:=9) scWorld.nd (Bk Ac)) (Aj (BU BS rfl (Ex (by rfl) T.range (Aa (AV Bp (by rfl) T.len A8 (Aa (pv 3) Ac)) Ac)) (AZ (i:=5) scWorld.nd) (Aj (AB (i:=10) scWorld.nd (AW GL hr (by rfl) DL.m DL.F.kp DL.b .nil Ar (Aa (pv 2) (Aa (Aq Bc (B6 hu (pv 2) AE (λ_ _=>rfl)) (pv 5) (λ_ _=>rfl)) Ac)))) (Ao (B1 (C1 DZ Ia JF HM (pv 9) (Aa (Aq Bc (pv 10) (AW GP hr (by rfl) DP.m DP.F.kp DP.b .nil Ar (Aa (pv 0) (Aa (Ax Bm (Ax Bm (pv 1) Ah) (pv 5)) (Aa (AV Bp (by rfl) T.len A8 (Aa (pv 10) Ac)) Ac)))) (λ_ _=>rfl)) Ac)))))) (Ao (AA (BQ (Aa (pv 4) (Aa (BW JB (by rfl) T.tuple EF (Aa (CZ (N:=["_law_heap_here"]) (sc:=Av ID) (own:=["_law_heap_here"]) (fr:=[]) (js:=[]) BX rfl (BM (pv 3)) (λ_ _ _ _=>AZ (i:=0) (show List.Nodup (["_law_heap_here"]:List Str) by decide +kernel)) (λ_ _ _ _=>B5) (λ_ _ _ _=>(BW (mY K rfl) (by rfl) T.tuple EF (Aa (pv 0) Ac)))) Ac)) (Aa (BW JB (by rfl) T.tuple EF (Aa (pv 9) Ac)) Ac))))))))))),?_⟩
 have g:=R.good
 obtain⟨kvs,L3,pl,th,d1,d2,d3,DD,h1,h2,h3,h4,h5,hb1,hb2,h6,h7,h8,h9,hb3,hb4,hb5⟩:=R.ex
 obtain⟨ps,hps⟩:∃ps,ps=(plc rs).map (·.1):=⟨_,rfl⟩
 obtain⟨ts,hts⟩:∃ts,ts=(ths rs).map (·.1):=⟨_,rfl⟩
 have hpl:ps.length=(plc rs).length:=by rw[hps,Ak]
 have htl:ts.length=(ths rs).length:=by rw[hts,Ak]
 have p0:1<=ps.length:=by lia
 have p1:ps.length<=6:=by have:=g.fewP;lia
 have t1:ts.length<=6:=by have:=g.fewT;lia
 rw[<- hps]at h6
 rw[<- hts]at h7
 have hpm:(ps.map V.str).length=ps.length:=Ak ..
 have htm:(ts.map V.str).length=ts.length:=Ak ..
 refine⟨_,rfl,r,_,rfl,B9 h1 h2,pl,rfl,⟨_,SqL.of h6⟩,λD hD=>?_⟩
 refine B8 (n:=ps.length) (λi ys H2=>∃hs:List Addr,ys=hs.map V.ref/\Same H H2/\hs.length=i/\Hs H H2 D hs (replicate i [])) ⟨[],rfl,Same.new hD,rfl,rfl,Ag,.nil,(λ_ z=>nomatch z),λi h xs z=>by simp at z⟩
  (λi ys H2 hi hh0=>by obtain⟨hs,_,sm,_⟩:=hh0;exact⟨_,.str ps[i],SqL.of (sm _ _ h6),by simp[hi]⟩) (λys H2 hh0=>by obtain⟨hs,_,sm,_⟩:=hh0;exact⟨_,SqL.of (sm _ _ h6),by simp⟩) ?_ ?_
 ·rintro i ys H2 x H3 hi ⟨hs,rfl,sm,hl,S⟩ ⟨rfl,_⟩;refine Ce ?_;refine⟨A5 _,λp hp=>⟨_,by rw[Ai (AF S.lst hp)];exact S.lst,by rw[Ak,hl];lia,hs++[p],by simp,?_,?_,?_⟩⟩
  ·exact(sm.put (sm.free hp)).put hD
  ·rw[AY,hl];rfl
  have pD:p≠D:=(AF S.lst hp).symm;have hold:∀h∈hs,h≠p/\H3 h=some (.lst []):=λh hh=>by obtain⟨j,hj⟩:=G9 hh;have hlt:=(AG.mp hj).1;have e:=S.at' j h [] hj (by rw[RD,As (by lia)]);exact⟨AF e hp,e⟩
  refine⟨by rw[AY,hl,F5];rfl,by rw[Ag];simp,cG S.nd (λz=>(hold p z).1 rfl),λh hh=>?_,λj h xs ha hb=>?_⟩
  ·rcases(BK.mp hh)with hh | hh
   ·exact S.fr h hh
   rw[AX.mp hh];exact⟨sm.free hp,pD⟩
  have hx:xs=[]:=List.eq_of_mem_replicate (Bz hb);subst hx;rcases BK.mp (Bz ha)with hh | hh
  ·rw[Ai (S.fr h hh).2,Ai (hold h hh).1];exact(hold h hh).2
  rw[AX.mp hh,Ai pD];exact Ag
 rintro ys H2 ⟨hs,rfl,sm,hl,S⟩
 have hrm:(hs.map V.ref).length=ps.length:=by rw[Ak,hl]
 refine⟨_,rfl,r,_,rfl,B9 (sm _ _ h1) h3,_,_,rfl,.inl ⟨_,SqL.of (sm _ _ h7),rfl⟩,_,rfl,by lia,by rw[htm];lia,HV (n:=(((ts.map V.str).length:Nat):Int).toNat) (λi σ H3=>∃(v5 v6 v7 v8:Option V) (o:Option Str) (xss:List (List Str)),σ = [some (.ref a),some (.int k),some (.ref r),some (.ref D),some (oV o),v5,v6,v7,v8,none,none]/\Same H H3/\Hs H H3 D hs xss/\(o.toList++xss.flatten).Perm (ts.take i)) ⟨none,none,none,none,none,_,rfl,sm,S,by simp⟩ ?_ ?_⟩
 ·rintro i σ H3 hi ⟨v5,v6,v7,v8,o,xss,rfl,sm3,S3,pm⟩;have hi':i<ts.length:=by rw[Co,htm]at hi;exact hi
  have hat:atI (ts.map V.str) (0+(i:Int))=some (.str ts[i]):=Bx (by simp[hi']);have htk:ts.take (i+1)=ts.take i++[ts[i]]:=BF hi';generalize ts[i]=x at hat htk;refine⟨_,rfl,r,_,rfl,B9 (sm3 _ _ h1) h3,_,rfl,_,_,_,_,rfl,rfl,SqL.of (sm3 _ _ h7),hat,?_⟩;refine⟨_,rfl,_,rfl,_,rfl,_,_,rfl,rfl,_,rfl,_,_,rfl,.inl ⟨_,SqL.of S3.lst,rfl⟩,_,_,rfl,rfl,a,ns,_,_,rfl,sm3.seq hS,hn,by lia,by lia,by lia,λwh w0 w1=>?_⟩;rw[hrm]at w1;have hpos:(0:Int)<((hs.map V.ref).length:Int):=by lia
  obtain⟨j,hj⟩:∃j:Nat,(j:Int)=wh % ((hs.map V.ref).length:Int):=⟨(wh % ((hs.map V.ref).length:Int)).toNat,En (JJ _ (by lia))⟩;have hjl:j<hs.length:=by have:=JL wh hpos;rw[Ak]at this hj;lia
  have hjx:j<xss.length:=by have:=S3.len;lia
  have hah:atI (hs.map V.ref) (wh % ((hs.map V.ref).length:Int))=some (.ref hs[j]):=by rw[<- hj];exact Az (by simp[hjl])
  have hhj:hs[j]? = some hs[j]:=AH hjl;have hxj:xss[j]? = some xss[j]:=AH hjx;have hxl:(xss[j]).length<=6:=by have e1:=QE (BY hjx);have e2:=pm.length_eq;rw[AY,Bu]at e2;lia
  generalize hs[j]=h at hah hhj;generalize xss[j]=xs at hxj hxl;have z3:=S3.at' j h xs hhj hxj;have z1:=(S3.fr h (Bz hhj)).1;have hxm':(xs.map V.str).length=xs.length:=Ak ..
  have ins:∀at':Int,Same H (Ab H3 h (.lst ((xs.map V.str).take at'.toNat++V.str x::(xs.map V.str).drop at'.toNat)))/\Hs H (Ab H3 h (.lst ((xs.map V.str).take at'.toNat++V.str x::(xs.map V.str).drop at'.toNat))) D hs (xss.set j (xs.take at'.toNat++x::xs.drop at'.toNat)) /\
    (o.toList++(xss.set j (xs.take at'.toNat++x::xs.drop at'.toNat)).flatten).Perm (ts.take (i+1)):=λat'=>by
   have e:(xs.map V.str).take at'.toNat++V.str x::(xs.map V.str).drop at'.toNat=(xs.take at'.toNat++x::xs.drop at'.toNat).map V.str:=by simp[DH,N4]
   rw[e]
   refine⟨sm3.put z1,S3.put hhj,?_⟩
   have e1:=S9 (a:=xs.take at'.toNat) (b:=xs.drop at'.toNat) (x:=x) (xss:=xss) (j:=j) (by rw[DG];exact hxj)
   rw[htk]
   refine(F8 _ e1).trans (JQ.trans ?_)
   exact(Oc x pm).trans (RX x _).symm
  refine⟨_,rfl,_,rfl,_,_,rfl,.inl ⟨_,SqL.of S3.lst,rfl⟩,rfl,_,rfl,?_⟩;refine Bd (λ_=>?_) (λ_=>?_)
  ·refine⟨_,rfl,rfl,_,rfl,?_⟩;refine Bd (λho=>?_) (λ_=>?_)
   ·have ho':o=none:=by
     cases o with
     | none=>rfl
     | some y=>exact absurd (A4 ho) (by intro z;cases z)
    subst ho';refine⟨_,rfl,_,_,_,_,some x,xss,rfl,sm3,S3,?_⟩;rw[htk];exact(Oc x pm).trans (RX x _).symm
   refine⟨_,rfl,_,rfl,_,rfl,_,_,rfl,.inl ⟨_,SqL.of S3.lst,rfl⟩,_,_,rfl,rfl,hpos,D,_,_,_,rfl,rfl,SqL.of S3.lst,hah,?_⟩;refine⟨_,rfl,.inl ⟨rfl,_,SqL.of z3⟩,_,rfl,_,rfl,_,_,rfl,rfl,_,rfl,_,_,rfl,rfl,_,rfl,_,_,rfl,.inl ⟨_,SqL.of z3,rfl⟩,_,_,rfl,rfl,a,ns,_,_,rfl,sm3.seq hS,hn,by lia,by lia,by lia,λat' a0 a1=>?_⟩;rw[hxm']at a1;obtain⟨i1,i2,i3⟩:=ins at';exact⟨_,rfl,h,_,_,_,rfl,rfl,a0,by rw[hxm'];lia,z3,by rw[hxm'];lia,_,_,_,_,o,_,rfl,i1,i2,i3⟩
  refine AN ?_;refine⟨_,rfl,_,rfl,_,rfl,_,_,rfl,.inl ⟨_,SqL.of S3.lst,rfl⟩,_,_,rfl,rfl,hpos,D,_,_,_,rfl,rfl,SqL.of S3.lst,hah,?_⟩;refine⟨_,rfl,.inl ⟨rfl,_,SqL.of z3⟩,_,rfl,_,rfl,_,_,rfl,rfl,_,rfl,_,_,rfl,rfl,_,rfl,_,_,rfl,.inl ⟨_,SqL.of z3,rfl⟩,_,_,rfl,rfl,a,ns,_,_,rfl,sm3.seq hS,hn,by lia,by lia,by lia,λat' a0 a1=>?_⟩;rw[hxm']at a1;obtain⟨i1,i2,i3⟩:=ins at';exact⟨_,rfl,h,_,_,_,rfl,rfl,a0,by rw[hxm'];lia,z3,by rw[hxm'];lia,_,_,_,_,o,_,rfl,i1,i2,i3⟩
 rintro σ H3 ⟨v5,v6,v7,v8,o,xss,rfl,sm3,S3,pm⟩
 rw[Co,htm,BP]at pm
 refine⟨A5 _,λll hll=>?_⟩
 have nD:ll≠D:=(AF S3.lst hll).symm
 have nH:∀h∈hs,ll≠h:=λh hh=>by obtain⟨oo,z3⟩:=S3.has hh;exact(AF z3 hll).symm
 have f0:H ll=none:=sm3.free hll
 have S4:=S3.same (Same.new (o:=.lst []) hll)
 refine⟨_,rfl,_,_,rfl,.inl ⟨_,SqL.of S4.lst,rfl⟩,_,rfl,by lia,by lia,HV (n:=(((hs.map V.ref).length:Nat):Int).toNat) (λi σ H4=>∃(v5 v10:Option V) (ls:List Str),σ = [some (.ref a),some (.int k),some (.ref r),some (.ref D),some (oV o),v5,v6,v7,v8,some (.ref ll),v10]/\ls.length=i/\(∀(j:Nat) p l,(plc rs)[j]? = some p->ls[j]? = some l->Lo p l)/\Same H H4/\Hs H H4 D hs xss/\H4 ll=some (.lst (ls.map V.str))) ⟨_,none,[],rfl,rfl,(λ_ _ _ _ z=>by simp at z),sm3.put f0,S4,Ag⟩ ?_ ?_⟩
 ·rintro i σ H4 hi ⟨v5,v10,ls,rfl,hls,hlo,sm4,S5,hl4⟩;have hi':i<ps.length:=by rw[Co,hrm]at hi;exact hi
  have hip:i<(plc rs).length:=by lia
  have hpi:ps[i]? = some ((plc rs)[i]).1:=by rw[hps,AI,AH hip];rfl
  have hat:atI (ps.map V.str) (0+(i:Int))=some (.str ((plc rs)[i]).1):=Bx (by rw[AI,hpi];rfl);have hpm2:(plc rs)[i]∈plc rs:=BY hip;have hpg:(plc rs)[i]? = some (plc rs)[i]:=AH hip;generalize (plc rs)[i]=pp at hat hpm2 hpg;refine⟨_,rfl,_,rfl,r,_,rfl,B9 (sm4 _ _ h1) h2,_,rfl,_,_,_,_,rfl,rfl,SqL.of (sm4 _ _ h6),hat,r,d1,d2,pp.1,kvs,_,_,rfl,sm4 _ _ h1,h4,h5,sm4 _ _ h8,sm4 _ _ h9,λl ys H5 s5 f5 e5 y1 y2=>?_⟩;have hym:(ys.map V.str).length=ys.length:=Ak ..;have hl5:=s5 _ _ hl4;refine⟨_,rfl,.inl ⟨rfl,_,SqL.of hl5⟩,_,rfl,_,rfl,_,rfl,_,_,rfl,rfl,_,rfl,_,_,rfl,rfl,_,rfl,_,_,rfl,.inl ⟨_,SqL.of e5,rfl⟩,a,ns,_,_,rfl,(sm4.trans s5).seq hS,hn,by lia,by lia,by lia,λj j0 j1=>?_⟩;rw[hym]at j1;obtain⟨y,hy,hay⟩:=VO (xs:=ys) j0 j1;refine⟨_,_,_,_,rfl,rfl,SqL.of e5,hay,ll,_,_,rfl,rfl,hl5,by rw[Ak];lia,?_⟩;have S6:=S5.same s5;refine⟨_,_,ls++[y],rfl,by simp[hls],λj' p' l' hp' hl'=>?_,(sm4.trans s5).put f0,S6.off nD nH,by rw[Ag];simp⟩;by_cases hj':j'<ls.length
  ·rw[Dq hj']at hl';exact hlo j' p' l' hp' hl'
  have hlt:=(AG.mp hl').1;rw[AY,Oj]at hlt;have e:j'=ls.length:=by lia
  subst e;rw[List.getElem?_concat_length]at hl';cases hl';rw[hls,hpg]at hp';cases hp';exact Al.lo g hpm2 (y2 y hy)
 rintro σ H4 ⟨v5',v10,ls,rfl,hls,hlo,sm4,S5,hl4⟩
 have hls':ls.length=ps.length:=by rw[hls,Co,hrm]
 have hxp:xss.length=ps.length:=by have:=S5.len;lia
 refine⟨_,rfl,_,rfl,D,rfl,⟨_,SqL.of S5.lst⟩,λD2 hD2=>?_⟩
 refine B8 (n:=hs.length) (λi ys H5=>RdVs H5 ys ((xss.take i).map dH)/\ys.length=i/\Same H4 H5/\H5 D2=some (.lst ys)) ⟨.nil,rfl,Same.new hD2,Ag⟩
  (λi ys H5 hi hh0=>by obtain⟨_,_,s5,_⟩:=hh0;exact⟨_,.ref hs[i],SqL.of (s5 _ _ S5.lst),by simp[hi]⟩) (λys H5 hh0=>by obtain⟨_,_,s5,_⟩:=hh0;exact⟨_,SqL.of (s5 _ _ S5.lst),by simp⟩) ?_ ?_
 ·rintro i ys H5o x H5 hi ⟨hrd,hx2,s5,e5⟩ ⟨rfl,hx⟩;have hxi:=hx _ (SqL.of (s5 _ _ S5.lst));have hx':x=.ref hs[i]:=by rw[AI,AH hi]at hxi;exact(Bs hxi).symm
  subst hx';have hix:i<xss.length:=by have:=S5.len;lia
  have z3:=S5.at' i hs[i] xss[i] (AH hi) (AH hix);have htk:xss.take (i+1)=xss.take i++[xss[i]]:=BF hix;generalize xss[i]=zs at z3 htk;refine Ce ?_;refine⟨_,rfl,_,_,rfl,.inl ⟨SqL.of (s5 _ _ z3),λl hl=>⟨_,by rw[Ai (AF e5 hl)];exact e5,by lia,?_,by simp[hx2],(s5.trans (Same.new hl)).put hD2,Ag⟩⟩⟩;have lD:l≠D2:=(AF e5 hl).symm;have kp:∀b us,H5 b=some (.tup us)->(Ab (Ab H5 l (.tup (zs.map V.str))) D2 (.lst (ys++[V.ref l]))) b=some (.tup us):=λb us e=>by rw[Ai (A7 e e5 (by intro z;cases z)),Ai (AF e hl)];exact e
  rw[htk,Ba];exact(hrd.same kp).append (.cons (.tup (by rw[Ai lD];exact Ag) (RdVs.strs zs)) .nil)
 rintro ys H5 ⟨hrd,hx2,s5,e5⟩
 rw[FB (by have:=S5.len;lia)]at hrd
 refine⟨_,_,rfl,.inl ⟨SqL.of e5,λtp htp=>?_⟩⟩
 have e6:=s5 _ _ hl4
 refine⟨_,rfl,_,_,rfl,.inl ⟨SqL.of (by rw[Ai (AF e6 htp)];exact e6),λtl htl=>⟨by show 3<=sizeLine;decide,λt ht=>?_⟩⟩⟩
 have s6:Same H5 (Ab H5 tp (.tup ys)):=Same.new htp
 have s7:Same (Ab H5 tp (.tup ys)) (Ab (Ab H5 tp (.tup ys)) tl (.tup (ls.map V.str))):=Same.new htl
 have s8:Same (Ab (Ab H5 tp (.tup ys)) tl (.tup (ls.map V.str))) (Ab (Ab (Ab H5 tp (.tup ys)) tl (.tup (ls.map V.str))) t (.tup [oV o,.ref tp,.ref tl])):=Same.new ht
 refine q (.ref t) ⟨o,xss,ls⟩ _ (((sm4.trans s5).trans s6).trans (s7.trans s8)) (Du Ag (YE o) (s8 _ _ (s7 _ _ Ag)) (s8.rds (s7.rds (s6.rds hrd))) (s8 _ _ Ag) (RdVs.strs ls)) ⟨?_,?_⟩ ⟨?_,hlo⟩
 ·show xss.length=_;lia
 ·show ls.length=_;lia
 rw[hts]at pm
 exact pm
def formsD:List PyData:=[.tuple [.str "place",.int 2],.tuple [.str "box",.int 2],.tuple [.str "box",.int 3],.tuple [.str "thing",.int 3]]
structure Md (K:W.Frag)(mg:Str->Option Value)(aN aF:Addr):Prop where
 letters:∃t,mg "LETTERS" = some (.str abc t)
 most:∃t,mg "MOST_LETTERS" = some (.int 8 t)
 mp:∃t,mg "MOST_PLACES" = some (.int 6 t)
 mt:∃t,mg "MOST_THINGS" = some (.int 6 t)
 nn:mg "NO_NAMES" = some (.ref aN)
 nv:∀H:Hp,SqT K H aN (fixedS.map V.str)
 ff:mg "FORMS" = some (.ref aF)
 fv:JZ K (.ref aF) (.tuple formsD)
inductive Pw (vs:List V)(H:Hp)(Q:VK)(E0_:XK):Prop
 | mk (x:Str) (c0:vs=[.str x]) (c1:Nv x) (c2:∀H':Hp,Same H H'->Q (.bl true) H'):Pw  vs H Q E0_
def XZ:AM ["text"] ["text"] (Av Km):=AO
inductive O5 (vs:List V)(H:Hp)(Q:VK)(E0_:XK):Prop
 | mk (ro:Ro) (c0:vs=[.str ro.txt]) (c1:ro.nv) (c2:∀(l:Addr) (H':Hp),Same H H'->H l=none->H' l=some (.lst (ro.words.map V.str))->Q (.ref l) H'):O5  vs H Q E0_
def scReadLine:AM ["line", "words", "word"] ["line"] (Av Kd):=AO
def RowsAt (H:Hp):List Ro->List Addr->Prop:=Paired λro a=>H a=some (.lst (ro.words.map V.str))
theorem RowsAt.same (s:Same H H'):∀{rs:List Ro}{ls:List Addr},RowsAt H rs ls->RowsAt H' rs ls
 | _,_,.nil=>.nil
 | _,_,.cons a b=>.cons (s _ _ a) (RowsAt.same s b)
theorem RowsAt.keep :∀{rs:List Ro}{ls:List Addr},RowsAt H rs ls->(∀a∈ls,∀o,H a=some o->H' a=some o)->RowsAt H' rs ls
 | _,_,.nil,_=>.nil
 | _,_,.cons a b,k=>.cons (k _ Bj _ a) (RowsAt.keep b λx hx=>k x (A6 _ hx))
theorem RowsAt.snoc (h:H a=some (.lst (ro.words.map V.str))):∀{rs:List Ro}{ls:List Addr},RowsAt H rs ls->RowsAt H (rs++[ro]) (ls++[a])
 | _,_,.nil=>.cons h .nil
 | _,_,.cons x b=>.cons x (RowsAt.snoc h b)
def RowsAt.length (h:RowsAt H rs ls):rs.length=ls.length:=G6 h
theorem RowsAt.get :∀{rs:List Ro}{ls:List Addr}{i:Nat}{a:Addr},RowsAt H rs ls->ls[i]? = some a->∃ro,rs[i]? = some ro/\H a=some (.lst (ro.words.map V.str))
 | _,_,_,_,.nil,e=>by simp at e
 | _,_,0,_,.cons x _,e=>by simp at e;subst e;exact⟨_,rfl,x⟩
 | _,_,i+1,_,.cons _ b,e=>by obtain⟨ro,h1,h2⟩:=RowsAt.get (i:=i) b (by simpa using e);exact⟨ro,by simpa using h1,h2⟩
inductive O2 (vs:List V)(H:Hp)(Q:VK)(E0_:XK):Prop
 | mk (a:Addr) (rs:List Ro) (c0:vs=[.ref a]) (c1:H a=some (.lst ((rs.map Ro.txt).map V.str))) (c2:Good rs) (c3:rs.length<=12) (c4:∀(l:Addr) (ls:List Addr) (H':Hp),Same H H'->H' l=some (.lst (ls.map V.ref))->RowsAt H' rs ls->Q (.ref l) H'):O2  vs H Q E0_
def scReadRows:AM ["lines", "rows", "names"] ["lines"] (Av IF):=AO
inductive O1 (vs:List V)(H:Hp)(Q:VK)(E0_:XK):Prop
 | mk (a:Addr) (rs:List Ro) (ls:List Addr) (c0:vs=[.ref a]) (c1:H a=some (.lst (ls.map V.ref))) (c2:RowsAt H rs ls) (c3:Good rs) (c4:∀(d:Addr) (H':Hp),Same H H'->H d=none->H' d=some (.dK (DS rs))->Q (.ref d) H'):O1  vs H Q E0_
def scReadThings:AM ["rows", "shapes", "words"] ["rows"] (Av MA):=AO
def oV':Option Str->V
 | none=>.non
 | some x=>.str x
def PlOk (H:Hp):List (Str×Bool×Option Str)->List (Af×V)->Prop:=Paired λp kv=>kv.1=Sum.inr p.1/\∃t,kv.2=.ref t/\H t=some (.tup [.bl p.2.1,oV' p.2.2])
theorem PlOk.same (s:∀b xs,H b=some (.tup xs)->H' b=some (.tup xs)):∀{ps:List (Str×Bool×Option Str)}{kvs:List (Af×V)},PlOk H ps kvs->PlOk H' ps kvs
 | _,_,.nil=>.nil
 | _,_,.cons ⟨e,t,e2,e3⟩ b=>.cons ⟨e,t,e2,s _ _ e3⟩ (PlOk.same s b)
theorem PlOk.snoc {t:Addr}(h:H t=some (.tup [.bl p.2.1,oV' p.2.2])):∀{ps:List (Str×Bool×Option Str)}{kvs:List (Af×V)},PlOk H ps kvs->PlOk H (ps++[p]) (kvs++[(Sum.inr p.1,.ref t)])
 | _,_,.nil=>.cons ⟨rfl,t,rfl,h⟩ .nil
 | _,_,.cons x b=>.cons x (PlOk.snoc h b)
def PlOk.length (h:PlOk H ps kvs):ps.length=kvs.length:=G6 h
theorem PlOk.keys :∀{ps:List (Str×Bool×Option Str)}{kvs:List (Af×V)},PlOk H ps kvs->kvs.map (λkv=>kV kv.1)=(ps.map (·.1)).map V.str
 | _,_,.nil=>rfl
 | _,_,.cons ⟨e,_⟩ b=>by rw[A9,A9,A9,PlOk.keys b,e];rfl
theorem PlOk.none :∀{ps:List (Str×Bool×Option Str)}{kvs:List (Af×V)},PlOk H ps kvs->x∉ps.map (·.1)->Ay kvs (Sum.inr x:Af)=.none
 | _,_,.nil,_=>rfl
 | _,_,.cons ⟨e,_⟩ b,h=>by rw[Bn (λz=>h (by rw[e]at z;rw[<- Cv z];exact Bj))];exact PlOk.none b λz=>h (A6 _ z)
theorem PlOk.get :∀{ps:List (Str×Bool×Option Str)}{kvs:List (Af×V)}{i:Nat}{k:Af}{v:V},PlOk H ps kvs->kvs[i]? = some (k,v)->∃p t,ps[i]? = some p/\v=.ref t/\H t=some (.tup [.bl p.2.1,oV' p.2.2])
 | _,_,_,_,_,.nil,e=>by simp at e
 | _,_,0,_,_,.cons ⟨e1,t,e2,e3⟩ _,e=>by simp at e;rw[e]at e2;exact⟨_,t,rfl,e2,e3⟩
 | _,_,i+1,_,_,.cons _ b,e=>by obtain⟨p,t,h1,h2,h3⟩:=PlOk.get (i:=i) b (by simpa using e);exact⟨p,t,by simpa using h1,h2,h3⟩
inductive O3 (vs:List V)(H:Hp)(Q:VK)(E0_:XK):Prop
 | mk (a:Addr) (rs:List Ro) (ls:List Addr) (c0:vs=[.ref a]) (c1:H a=some (.lst (ls.map V.ref))) (c2:RowsAt H rs ls) (c3:Good rs) (c4:∀(d:Addr) (kvs:List (Af×V)) (H':Hp),Same H H'->H d=none->H' d=some (.dK kvs)->PlOk H' (plc rs) kvs->Q (.ref d) H'):O3  vs H Q E0_
def scReadPlaces:AM ["rows", "places", "words"] ["rows"] (Av MB):=AO
inductive PP (vs:List V)(H:Hp)(Q:VK)(E0_:XK):Prop
 | mk (d1 d2:Addr) (rs:List Ro) (kvs:List (Af×V)) (c0:vs=[.ref d1,.ref d2]) (c1:H d1=some (.dK kvs)) (c2:PlOk H (plc rs) kvs) (c3:H d2=some (.dK (DS rs))) (c4:d1≠d2) (c5:Good rs) (c6:∀(o:Obj) (H':Hp),(∀b u,H b=some u->b≠d1->H' b=some u)->H' d1=some (.frz o (.dK kvs))->Q .non H'):PP  vs H Q E0_
def scCheckKeys:AM ["places", "shapes", "lid", "key"] ["places", "shapes"] (Av M4):=AO
def IK (d1 d2:Addr):List (Str×V):=putF "told_shapes" (.ref d2) (putF "told_places" (.ref d1) [])
def Yt:¬(("told_places" : Str) = "told_shapes"):=by decide +kernel
def M8 (d1 d2:Addr):(IK d1 d2).lookup ("told_places" : Str)=some (.ref d1):=by unfold IK;rw[Cd,Am Yt,Cd,As rfl]
def Fg (d1 d2:Addr){m:Str}(h1:¬m = "told_shapes")(h2:¬m = "told_places"):(IK d1 d2).lookup m=none:=by unfold IK;rw[Cd,Am h1,Cd,Am h2];rfl
inductive V6 (C:Addr)(H:Hp)(x:Addr)(rs:List Ro):Prop
 | mk (dx d1 d2:Addr) (o:Obj) (kvs:List (Af×V)) (c0:H x=some (.ins C dx (IK d1 d2))) (c1:H d1=some (.frz o (.dK kvs))) (c2:PlOk H (plc rs) kvs) (c3:H d2=some (.dK (DS rs))):V6 C H x rs
structure RoomAt (C:Addr)(H:Hp)(x:Addr)(rs:List Ro):Prop where
 ex:V6 C H x rs
def RoomAt.same (R:RoomAt C H x rs)(s:Same H H'):RoomAt C H' x rs:=by obtain⟨dx,d1,d2,o,kvs,h1,h2,h3,h4⟩:=R.ex;exact⟨dx,d1,d2,o,kvs,s _ _ h1,s _ _ h2,h3.same λb xs e=>s _ _ e,s _ _ h4⟩
structure Cl (K:W.Frag)(C:Addr):Prop where
 cl:Cls K C
 nP:NoAttr K C "told_places"
 nS:NoAttr K C "told_shapes"
inductive Pz (C:Addr)(vs:List V)(H:Hp)(Q:VK)(E0_:XK):Prop
 | mk (x dx a:Addr) (rs:List Ro) (c0:vs=[.ref x,.ref a]) (c1:H x=some (.ins C dx [])) (c2:H a=some (.lst ((rs.map Ro.txt).map V.str))) (c3:Good rs) (c4:rs.length<=12) (c5:∀H':Hp,(∀b u,H b=some u->b≠x->H' b=some u)->RoomAt C H' x rs->Q .non H'):Pz C vs H Q E0_
def scInit:AM ["self", "lines", "rows", "places", "shapes"] ["self", "lines"] (Av P4):=AO
inductive Gi (C:Addr)(vs:List V)(H:Hp)(Q:VK)(E0_:XK):Prop
 | mk (x:Addr) (rs:List Ro) (c0:vs=[.ref x]) (c1:RoomAt C H x rs) (c2:∀(l:Addr) (H':Hp),Same H H'->H l=none->H' l=some (.lst (((plc rs).map (·.1)).map V.str))->Q (.ref l) H'):Gi C vs H Q E0_
def XM:AM ["self"] ["self"] (Av P0):=AO
def kU {a:Addr}{o:Obj}{kvs:List (Af×V)}{g:TG}{tb:TS}{D:FH}{σ:L2.St}{H:Hp}(Pv:Nat->L2.St->Hp->Prop)(h0:Pv 0 σ H)(hl:∀i σ H,i<=kvs.length->Pv i σ H->H a=some (.frz o (.dK kvs)))
  (hs:∀i k x σ H,kvs[i]? = some (k,x)->Pv i σ H->g x σ H λσ2 H2=>tb { D with nx:=Pv (i+1),ct:=Pv (i+1),bk:=D.nx } σ2 H2)(hd:∀σ H,Pv kvs.length σ H->D.nx σ H) :
  ∃W:Nat->Nat->L2.St->Hp->Prop,(∃m,W 0 m σ H)/\∀i m σ H,W i m σ H ->
   ((L4 a o kvs).stop i H/\D.nx σ H)\/((L4 a o kvs).go i H/\∃N:L2.St->Hp->Prop,(∀σ' H',N σ' H'->∃m',m'<m/\W (i+1) m' σ' H')/\∀x H',(L4 a o kvs).yld i H x H'->g x σ H' λσ2 H2=>tb { D with nx:=N,ct:=N,bk:=D.nx } σ2 H2):=by
 refine⟨λi m σ H=>m=kvs.length-i/\i<=kvs.length/\Pv i σ H,⟨kvs.length,by simp,A5 _,h0⟩,?_⟩
 rintro i m σ H ⟨rfl,hi,p⟩
 have q:=hl i σ H hi p
 by_cases hlt:i<kvs.length
 ·refine .inr ⟨⟨hlt,q⟩,Pv (i+1),λσ' H' p'=>⟨kvs.length-(i+1),by lia,rfl,hlt,p'⟩,λx H' y=>?_⟩;obtain⟨e,k,y⟩:=y;subst e;exact hs i k x σ _ y p
 have e:i=kvs.length:=by lia
 subst e
 exact .inl ⟨⟨Au _,q⟩,hd σ H p⟩
def aZ (F:Fun K "is_name" "is_name" Km f fd)(T:Bl mg)(M:Md K mg aN aF):FnOk P w K mg base CX0 1 f fd ["text"] Pw:=by
 obtain⟨t1,m1⟩:=M.letters;obtain⟨t2,m2⟩:=M.most;refine F.oq XZ λcdv A outer s H vs Q E hr h=>?_;obtain⟨x,rfl,hx,q⟩:=h;have ae:sizeLine=16777216:=AK;have hl:=hx.len;have hp:=hx.pos;refine⟨_,Aj (AQ (PW.pt (CD (AC Bo (pv 0) AE (AD _)) (CD (AC Ez (AV Bp (by rfl) T.len A8 (Aa (pv 0) Ac)) (C0 (v:=.int 8) (by rfl) m2 ⟨_,rfl⟩) (AD _)) (DU (AC K4 (pv 0) (C0 (v:=.ref aN) (by rfl) M.nn rfl) (by rfl)))))) (Ao (AA Eh)) AS) (Ao (AA (AV (Q8 rfl) (by rfl) T.all Rb (Aa (CZ (N:=["sign"]) (sc:=Av Km) (own:=["sign"]) (fr:=[]) (js:=[]) BX rfl (Zc (pv 0)) (λ_ _ _ _=>AZ (i:=0) (show List.Nodup (["sign"]:List Str) by decide +kernel)) (λ_ _ _ _=>B5) (λ_ _ _ _=>Fl Zu (pv 0) (C0 (v:=.str abc) (by rfl) m1 ⟨_,rfl⟩) (by rfl))) Ac)))),?_⟩;refine⟨_,rfl,rfl,_,rfl,?_⟩;refine Bd (λhe=>?_) (λ_=>?_)
 ·exfalso;have e:=V.str.inj (A4 he);rw[e]at hp;exact absurd hp (by decide +kernel)
 refine⟨_,rfl,_,_,rfl,⟨by lia,rfl⟩,_,_,rfl,rfl,_,rfl,?_⟩;refine Bd (λhe=>?_) (λ_=>?_)
 ·exfalso;have:=A4 he;lia
 refine⟨_,rfl,aN,_,rfl,.inr (M.nv H),rfl,flat_strs _,_,rfl,?_⟩;refine Bd (λhe=>?_) (λ_=>?_)
 ·exfalso;have he':Fs (.str x) (fixedS.map V.str)=true:=he;rw[GC]at he';exact hx.fix (A4 he')
 refine⟨_,rfl,x,rfl,hx.ascii,λD hD=>?_⟩;refine B8 (n:=x.cps.size) (λi ys H2=>ys=replicate i (V.bl true)/\Same H H2/\H2 D=some (.lst ys)) ⟨rfl,Same.new hD,Ag⟩ (λi _ _ hi _=>hi) (λ_ _ _=>Au _) ?_ ?_
 ·rintro i ys H2 v H3 hi ⟨rfl,sm,hD2⟩ ⟨rfl,c,hc,rfl⟩;refine Ce ?_;have hcm:c∈cs x:=by have:=Bz (l:=x.cps.toList) (i:=i) (a:=c) (by simpa using hc);exact this
  have hcl:=hx.low c hcm;have hxz:x.cps.size<=8:=hl;refine⟨_,rfl,_,_,rfl,rfl,_,hD2,by rw[F5];lia,?_,sm.put hD,Ag⟩;rw[jK hcl.1 hcl.2,RJ]
 rintro ys H2 ⟨rfl,sm,hD2⟩;refine⟨D,replicate x.cps.size true,rfl,SqL.of (by rw[hD2,List.map_replicate]),?_⟩;have e:(replicate x.cps.size true).all (λb=>b)=true:=by rw[Fd];intro b hb;exact(Im.mp hb).2
 rw[e];exact q H2 sm
def ZP (F:Fun K "read_line" "read_line" Kd f fd)(DI:Df K mg "is_name" Km ["text"] fI fdI)(T:Bl mg)(M:Md K mg aN aF)(GI:FnOk P w K mg base CX0 1 fI fdI ["text"] Pw):FnOk P w K mg base CX0 2 f fd ["line"] O5:=by
 refine F.oq scReadLine λcdv A outer s H vs Q E hr h=>?_;obtain⟨ro,rfl,hv,q⟩:=h;have af:(A.deeper (envOfC "read_line" (Av Kd) s.heap.objs.size f cdv)).units+65<cLine:=by have:=hr.un;lia
 have ae:sizeLine=16777216:=AK;have hll:=Sq hv;refine⟨_,Aj (AB (i:=1) scReadLine.nd (C1 LO Iq Ox Nu (pv 0) (Aa AE Ac))) (Aj (AQ (AC (Zp af) (BQ (Aa (Aq Bc (pv 1) Ah (λ_ _=>rfl)) (Aa (AV Bp (by rfl) T.len A8 (Aa (pv 1) Ac)) Ac))) (C0 (v:=.ref aF) (by rfl) M.ff rfl) (by rfl)) Ci AS) (Aj (BU BS rfl (BM (Dk IB (pv 1) (Dh Ah) Di)) (AZ (i:=2) scReadLine.nd) (Ao (AQ (CY (Cs (AW GI hr (by rfl) DI.m DI.F.kp DI.b .nil Ar (Aa (pv 2) Ac)))) Ci AS))) (Ao (AA (pv 1))))),?_⟩;refine⟨_,rfl,rfl,_,_,rfl,rfl,by decide +kernel,by lia,λl hl=>?_⟩;rw[show Txt.split ro.txt (Str.ofString " ")=ro.words from SY hv];have s1:Same H (Ab H l (.lst (ro.words.map V.str))):=Same.new hl;have e1:(Ab H l (.lst (ro.words.map V.str))) l=some (.lst (ro.words.map V.str)):=Ag;generalize Ab H l (.lst (ro.words.map V.str))=H1 at s1 e1 ⊢;obtain⟨w0,rest,ew⟩:∃w0 rest,ro.words=w0::rest:=by cases ro <;> exact⟨_,_,rfl⟩
 have hat:atI (ro.words.map V.str) ((0:Nat):Int)=some (.str w0):=Az (by rw[ew];rfl);refine⟨_,rfl,l,_,_,_,rfl,rfl,SqL.of e1,hat,_,rfl,_,_,rfl,.inl ⟨_,SqL.of e1,rfl⟩,by show 2<=sizeLine;decide,λp hp=>?_⟩;have s2:Same H1 (Ab H1 p (.tup [.str w0,.int ((ro.words.map V.str).length:Nat)])):=Same.new hp;have hwl:(ro.words.map V.str).length=ro.words.length:=Ak ..;refine⟨.tuple [.str w0,.int (ro.words.length:Nat)],formsD,.tup (by rw[Ag,hwl]) (.cons (.str w0) (.cons (.int _) .nil)),M.fv,?_,by decide +kernel,_,rfl,?_⟩
 ·cases ro with
  | pl n=>cases ew;exact(by decide +kernel:shaped (PyData.tuple [PyData.str "place",PyData.int ((2:Nat):Int)])=true)
  | bx n=>cases ew;exact(by decide +kernel:shaped (PyData.tuple [PyData.str "box",PyData.int ((2:Nat):Int)])=true)
  | lk n k=>cases ew;exact(by decide +kernel:shaped (PyData.tuple [PyData.str "box",PyData.int ((3:Nat):Int)])=true)
  | th n k=>cases ew;exact(by decide +kernel:shaped (PyData.tuple [PyData.str "thing",PyData.int ((3:Nat):Int)])=true)
 have hany:(formsD.any λe=>PyData.eqv e (.tuple [.str w0,.int (ro.words.length:Nat)]))=true:=by
  cases ro with
  | pl n=>cases ew;exact(by decide +kernel:(formsD.any λe=>PyData.eqv e (.tuple [.str "place",.int ((2:Nat):Int)]))=true)
  | bx n=>cases ew;exact(by decide +kernel:(formsD.any λe=>PyData.eqv e (.tuple [.str "box",.int ((2:Nat):Int)]))=true)
  | lk n k=>cases ew;exact(by decide +kernel:(formsD.any λe=>PyData.eqv e (.tuple [.str "box",.int ((3:Nat):Int)]))=true)
  | th n k=>cases ew;exact(by decide +kernel:(formsD.any λe=>PyData.eqv e (.tuple [.str "thing",.int ((3:Nat):Int)]))=true)
 rw[hany];refine AN ?_;have s12:=s1.trans s2;generalize (Ab H1 p (.tup [.str w0,.int ((ro.words.map V.str).length:Nat)]))=H2 at s2 s12 ⊢;have e2:=s2 _ _ e1;refine⟨_,rfl,_,rfl,l,_,rfl,SqL.of e2,λz hz=>?_⟩;have s3:Same H2 (Ab H2 z (.lst (Bh (ro.words.map V.str) (some 1) none))):=Same.new hz;have hcut:Bh (ro.words.map V.str) (some ((1:Nat):Int)) none=(ro.words.drop 1).map V.str:=by unfold Bh;rw[HT.sIx_none,HT.sIx_nat,hwl,ew,CS,LB (by lia),N4];refine FB ?_;simp
 have e3:(Ab H2 z (.lst (Bh (ro.words.map V.str) (some 1) none))) z=some (.lst ((ro.words.drop 1).map V.str)):=by rw[Ag];exact BJ (λx=>some (HO.lst x)) hcut
 generalize Ab H2 z (.lst (Bh (ro.words.map V.str) (some 1) none))=H3 at s3 e3 ⊢
 have hnm:∀x∈ro.words.drop 1,Nv x:=λx hx=>by
  cases ro with
  | pl n=>rw[AX.mp hx];exact hv
  | bx n=>rw[AX.mp hx];exact hv
  | lk n k=>
   rcases(AL.mp hx)with e | e
   ·rw[e];exact hv.1
   rw[AX.mp e];exact hv.2
  | th n k=>
   rcases(AL.mp hx)with e | e
   ·rw[e];exact hv.1
   rw[AX.mp e];exact hv.2
 refine⟨z,rfl,⟨_,SqL.of e3⟩,Dn (K:=K) (a:=z) (xs:=(ro.words.drop 1).map V.str) (λi σ H4=>∃v2:Option V,σ = [some (.str ro.txt),some (.ref l),v2]/\Same H3 H4) ⟨none,rfl,Same.refl _⟩ (λi σ H4 _ hh0=>by obtain⟨_,_,s4⟩:=hh0;exact SqL.of (s4 _ _ e3)) ?_ ?_⟩
 ·rintro i x σ H4 hx ⟨v2,rfl,s4⟩;rw[AI]at hx;cases e:(ro.words.drop 1)[i]? with
  | none=>rw[e]at hx;cases hx
  | some y=>rw[e]at hx;cases hx;refine⟨_,rfl,y,rfl,hnm y (Bz e),λH5 s5=>⟨_,rfl,?_⟩⟩;refine AN ?_;exact⟨_,rfl,s4.trans s5⟩
 rintro σ H4 ⟨v2,rfl,s4⟩;have s34:=s3.trans s4;exact⟨_,rfl,q l H4 (s12.trans s34) hl (s34 _ _ e2)⟩
def ZL (F:Fun K "read_rows" "read_rows" IF f fd)(DR:Df K mg "read_line" Kd ["line"] fR fdR)(T:Bl mg)(GR:FnOk P w K mg base CX0 2 fR fdR ["line"] O5):FnOk P w K mg base CX0 3 f fd ["lines"] O2:=by
 refine F.oq scReadRows λcdv A outer s H vs Q E hr h=>?_;obtain⟨a,rs,rfl,ha,g,hrl,q⟩:=h;have ae:sizeLine=16777216:=AK;refine⟨_,Aj (FP (i:=1) (N:=["line"]) (sc:=Av IF) (own:=["line"]) (fr:=[]) (js:=[]) scReadRows.nd rfl rfl BX rfl (BM (pv 0)) (λ_ _ _ _=>AZ (i:=0) (show List.Nodup (["line"]:List Str) by decide +kernel)) (λ_ _ _ _=>B5) (λ_ _ _ _=>AW GR hr (by rfl) DR.m DR.F.kp DR.b .nil Ar (Aa (pv 0) Ac))) (Aj (FP (i:=2) (N:=["words"]) (sc:=Av IF) (own:=["words"]) (fr:=[]) (js:=[]) scReadRows.nd rfl rfl BX rfl (BM (pv 1)) (λ_ _ _ _=>AZ (i:=0) (show List.Nodup (["words"]:List Str) by decide +kernel)) (λ_ _ _ _=>B5) (λ_ _ _ _=>Aq (NJ K rfl) (pv 0) Ah (λ_ _=>rfl))) (Aj (AQ (AC Hz (AV NT (by rfl) T.len A8 (Aa (BW (NS rfl) (by rfl) T.set Lm (Aa (pv 2) Ac)) Ac)) (AV Bp (by rfl) T.len A8 (Aa (pv 2) Ac)) (AD _)) Ci AS) (Ao (AA (pv 1))))),?_⟩;refine⟨_,rfl,a,rfl,⟨_,SqL.of ha⟩,λD hD=>?_⟩
 refine B8 (n:=rs.length) (λi ys H2=>∃ls:List Addr,ys=ls.map V.ref/\RowsAt H2 (rs.take i) ls/\(∀l∈ls,l≠D)/\Same H H2/\H2 D=some (.lst ys)) ⟨[],rfl,.nil,(λ_ z=>nomatch z),Same.new hD,Ag⟩
  (λi ys H2 hi hh0=>by obtain⟨_,_,_,_,s2,_⟩:=hh0;exact⟨_,.str rs[i].txt,SqL.of (s2 _ _ ha),by simp[hi]⟩) (λys H2 hh0=>by obtain⟨_,_,_,_,s2,_⟩:=hh0;exact⟨_,SqL.of (s2 _ _ ha),by simp⟩) ?_ ?_
 ·rintro i ys H2 x H3 hi ⟨ls,rfl,ra,nD,s2,e2⟩ ⟨rfl,hx⟩;refine Ce ?_;have hx1:=hx _ (SqL.of (s2 _ _ ha));have hx2:x=.str rs[i].txt:=by rw[AI,AI,AH hi]at hx1;exact(Bs hx1).symm
  subst hx2;refine⟨_,rfl,rs[i],rfl,g.nv _ (BY hi),λl H4 s4 fl el=>?_⟩;have lD:l≠D:=(AF e2 fl).symm;have hlen:=ra.length;rw[Bu]at hlen;refine⟨_,s4 _ _ e2,by rw[Ak];lia,ls++[l],by simp,?_,λz hz=>?_,(s2.trans s4).put hD,Ag⟩
  ·rw[BF hi];refine RowsAt.snoc (by rw[Ai lD];exact el) (ra.keep λb hb o e=>?_);rw[Ai (nD b hb)];exact s4 _ _ e
  rcases(BK.mp hz)with hz | hz
  ·exact nD z hz
  rw[AX.mp hz];exact lD
 rintro ys H2 ⟨ls,rfl,ra,nD,s2,e2⟩;rw[BP]at ra;have hlen:=ra.length;refine⟨_,rfl,D,rfl,⟨_,SqL.of e2⟩,λD2 hD2=>?_⟩
 refine B8 (n:=rs.length) (λi ys H3=>ys=((rs.take i).map Ro.name).map V.str/\Same H2 H3/\H3 D2=some (.lst ys)) ⟨rfl,Same.new hD2,Ag⟩
  (λi ys H3 hi hh0=>by obtain⟨_,s3,_⟩:=hh0;exact⟨_,.ref (ls[i]'(by lia)),SqL.of (s3 _ _ e2),by simp[show i<ls.length by lia]⟩) (λys H3 hh0=>by obtain⟨_,s3,_⟩:=hh0;exact⟨_,SqL.of (s3 _ _ e2),by simp;lia⟩) ?_ ?_
 ·rintro i ys H3 x H4 hi ⟨rfl,s3,e3⟩ ⟨rfl,hx⟩;refine Ce ?_;have hx1:=hx _ (SqL.of (s3 _ _ e2));have hil:i<ls.length:=by lia
  rw[AI,AH hil]at hx1;have hx2:x=.ref ls[i]:=(Bs hx1).symm;subst hx2;obtain⟨ro,h1,h2⟩:=ra.get (AH hil);have hat:atI (ro.words.map V.str) ((1:Nat):Int)=some (.str ro.name):=Az (by cases ro <;> rfl);refine⟨_,rfl,ls[i],_,_,_,rfl,rfl,SqL.of (s3 _ _ h2),hat,_,e3,by rw[Ak,Ak,Bu];lia,?_,s3.put hD2,Ag⟩;have hro:rs[i]=ro:=(AG.mp h1).2;rw[BF hi,Ba,Ba,hro];rfl
 rintro ys H3 ⟨rfl,s3,e3⟩;rw[BP]at e3;have ek:(rs.map Ro.name).map V.str=((rs.map Ro.name).map (Sum.inr:Str->Af)).map kV:=by rw[By,By,By];rfl
 have hkl:((rs.map Ro.name).map (Sum.inr:Str->Af)).length=rs.length:=by rw[Ak,Ak]
 refine⟨_,rfl,D2,(rs.map Ro.name).map Sum.inr,rfl,SqL.of (by rw[<- ek];exact e3),by lia,λst hst=>?_⟩
 have hdd:(SK.dd (BV ((rs.map Ro.name).map (Sum.inr:Str->Af))) ((rs.map Ro.name).map (Sum.inr:Str->Af)).length).length=rs.length:=by
  rw[SK.dd_full (n:=rs.length) (λi j hi hj e=>?_) _ (by lia),hkl];have ei:BV ((rs.map Ro.name).map (Sum.inr:Str->Af)) i=Sum.inr ((rs.map Ro.name)[i]'(by rw[Ak];exact hi)):=by simp[BV,List.getD,hi]
  have ej:BV ((rs.map Ro.name).map (Sum.inr:Str->Af)) j=Sum.inr ((rs.map Ro.name)[j]'(by rw[Ak];exact hj)):=by simp[BV,List.getD,hj]
  rw[ei,ej]at e;exact(Gb g.nd).mp (Cv e)
 have s4:Same H3 (Ab H3 st (Hk P w st (SK.dd (BV ((rs.map Ro.name).map (Sum.inr:Str->Af))) ((rs.map Ro.name).map (Sum.inr:Str->Af)).length).length)):=Same.new hst;refine⟨st,_,rfl,Ag,_,rfl,_,_,rfl,.inl ⟨_,SqL.of (s4 _ _ e3),rfl⟩,_,_,rfl,rfl,_,rfl,?_⟩;rw[hdd]at s4 ⊢;refine Bd (λhlt=>?_) (λ_=>?_)
 ·exfalso;have:=A4 hlt;rw[Ak,Ak]at this;lia
 have s24:=s3.trans s4;exact⟨_,rfl,q D ls _ (s2.trans s24) (s24 _ _ e2) (ra.same s24)⟩
def ZF (F:Fun K "read_things" "read_things" MA f fd)(T:Bl mg)(M:Md K mg aN aF):FnOk P w K mg base CX0 1 f fd ["rows"] O1:=by
 obtain⟨t1,m1⟩:=M.mt;refine F.oq scReadThings λcdv A outer s H vs Q E hr h=>?_;obtain⟨a,rs,ls,rfl,ha,ra,g,q⟩:=h;have hu:=CL hr;have ae:sizeLine=16777216:=AK;have hft:=g.fewT;have hlen:=ra.length;refine⟨_,Aj (AB (i:=1) scReadThings.nd FR) (Aj (BU BS rfl (BM (pv 0)) (AZ (i:=2) scReadThings.nd) (Ao (AQ (AC Bo (Aq Bc (pv 2) Ah (λ_ _=>rfl)) AE (AD _)) (Ao (Dg hu (pv 1) (Aq Bc (pv 2) Ah (λ_ _=>rfl)) (Aq Bc (pv 2) Ah (λ_ _=>rfl)) rfl)) AS))) (Aj (AQ (AC Ez (AV NV (by rfl) T.len A8 (Aa (pv 1) Ac)) (C0 (v:=.int 6) (by rfl) m1 ⟨_,rfl⟩) (AD _)) Ci AS) (Ao (AA (pv 1))))),?_⟩;intro d hd;have s0:Same H (Ab H d (.dK [])):=Same.new hd;refine⟨_,rfl,a,rfl,⟨_,SqL.of (s0 _ _ ha)⟩,Dn (K:=K) (a:=a) (xs:=ls.map V.ref) (λi σ H2=>∃v2:Option V,σ = [some (.ref a),some (.ref d),v2]/\Same H H2/\H2 d=some (.dK (DS (rs.take i)))) ⟨none,rfl,s0,Ag⟩ (λi σ H2 _ hh0=>by obtain⟨_,_,s2,_⟩:=hh0;exact SqL.of (s2 _ _ ha)) ?_ ?_⟩
 ·rintro i x σ H2 hx ⟨v2,rfl,s2,e2⟩;rw[AI]at hx;cases el:ls[i]? with
  | none=>rw[el]at hx;cases hx
  | some l=>
   rw[el]at hx;cases hx;obtain⟨ro,h1,h2⟩:=ra.get el;have hi:i<rs.length:=(AG.mp h1).1;have hro:rs[i]=ro:=(AG.mp h1).2;have htk:rs.take (i+1)=rs.take i++[ro]:=by rw[BF hi,hro]
   have hw:=s2 _ _ h2;obtain⟨w0,w1,rest,ew⟩:∃w0 w1 rest,ro.words=w0::w1::rest:=by cases ro <;> exact⟨_,_,_,rfl⟩
   have Bx:atI (ro.words.map V.str) ((0:Nat):Int)=some (.str w0):=Az (by rw[ew];rfl);refine⟨_,rfl,l,_,_,_,rfl,rfl,SqL.of hw,Bx,rfl,_,rfl,?_⟩;refine Bd (λhe=>?_) (λhe=>?_)
   ·have e0:=V.str.inj (A4 he)
    obtain⟨n,sp,rfl⟩:∃n s,ro=.th n s:=by
     cases ro with
     | th n s=>exact⟨n,s,rfl⟩
     | pl n=>cases ew;exact absurd e0 (by decide +kernel)
     | bx n=>cases ew;exact absurd e0 (by decide +kernel)
     | lk n k=>cases ew;exact absurd e0 (by decide +kernel)
    have at1:atI ((Ro.th n sp).words.map V.str) ((1:Nat):Int)=some (.str n):=Az rfl;have at2:atI ((Ro.th n sp).words.map V.str) ((2:Nat):Int)=some (.str sp):=Az rfl
    have hsh:(DS (rs.take i)).length<=6:=by
     have:(ths rs).length=(ths (rs.take i)).length+(ths (rs.drop i)).length:=by rw[<- AY,<- Ew,DG]
     unfold DS;rw[Ak];lia
    refine⟨_,rfl,l,_,_,_,rfl,rfl,SqL.of hw,at2,_,rfl,_,rfl,l,_,_,_,rfl,rfl,SqL.of hw,at1,d,_,rfl,DPut.k (k:=(Sum.inr n:Af)) e2 (by lia),?_⟩
    have hnone:Ay (DS (rs.take i)) (Sum.inr n:Af)=none:=by
     have hnd:((rs.take (i+1)).map Ro.name).Nodup:=by rw[DH];exact GG (Gf _ _) g.nd
     rw[htk,Ba]at hnd;cases hv:Ay (DS (rs.take i)) (Sum.inr n:Af)with
     | none=>rfl
     | some v=>exfalso;have hm:=Ma hv;unfold DS at hm;rw[By]at hm;obtain⟨z,hz,ez⟩:=Bi.mp hm;have ez':z.1=n:=Cv ez;have hmn:n∈(rs.take i).map Ro.name:=Uh (Bi.mpr ⟨z,hz,ez'⟩);exact(Cw.mp hnd).2.2 n hmn n (AX.mpr rfl) rfl
    rw[Eg _ hnone];refine⟨_,rfl,s2.put hd,?_⟩;rw[Ag,htk];unfold DS;rw[Ew,Ba];rfl
   refine⟨_,rfl,s2,?_⟩
   have e3:ths (rs.take (i+1))=ths (rs.take i):=by
    rw[htk,Ew];cases ro with
    | th n s=>cases ew;exact absurd (AR rfl) he
    | _=>exact Cm _
   unfold DS;rw[e3];exact e2
 rintro σ H2 ⟨v2,rfl,s2,e2⟩;rw[show(ls.map V.ref).length=rs.length by rw[Ak,hlen],BP]at e2;have hsh:(DS rs).length<=6:=by unfold DS;rw[Ak];lia
 refine⟨_,rfl,d,_,rfl,e2,_,_,rfl,rfl,_,rfl,?_⟩;refine Bd (λhlt=>?_) (λ_=>⟨_,rfl,q d H2 s2 hd e2⟩);exfalso;have:=A4 hlt;lia
def ZU (F:Fun K "read_places" "read_places" MB f fd)(T:Bl mg)(M:Md K mg aN aF):FnOk P w K mg base CX0 1 f fd ["rows"] O3:=by
 obtain⟨t1,m1⟩:=M.mp;refine F.oq scReadPlaces λcdv A outer s H vs Q E hr h=>?_;obtain⟨a,rs,ls,rfl,ha,ra,g,q⟩:=h;have hu:=CL hr;have ae:sizeLine=16777216:=AK;have hfp:=g.fewP;have hlen:=ra.length;refine⟨_,Aj (AB (i:=1) scReadPlaces.nd FR) (Aj (BU BS rfl (BM (pv 0)) (AZ (i:=2) scReadPlaces.nd) (Aj (AQ (AC Bo (Aq Bc (pv 2) Ah (λ_ _=>rfl)) AE (AD _)) (Ao (Dg hu (pv 1) (Aq Bc (pv 2) Ah (λ_ _=>rfl)) (BQ (Aa Eh (Aa CG Ac))) rfl)) AS) (Ao (AQ (AC Bo (Aq Bc (pv 2) Ah (λ_ _=>rfl)) AE (AD _)) (Aj (AQ (AC Bo (AV NV (by rfl) T.len A8 (Aa (pv 1) Ac)) Ah (AD _)) Ci AS) (Ao (Dg hu (pv 1) (Aq Bc (pv 2) Ah (λ_ _=>rfl)) (BQ (Aa Eh (Aa (Qq (AC Bo (AV Bp (by rfl) T.len A8 (Aa (pv 2) Ac)) Ah (AD _)) (Aq Bc (pv 2) Ah (λ_ _=>rfl)) CG) Ac))) rfl))) AS)))) (Aj (AQ (PW.pt (CD (AC Bo (AV NV (by rfl) T.len A8 (Aa (pv 1) Ac)) Ah (AD _)) (DU (AC Ez (AV NV (by rfl) T.len A8 (Aa (pv 1) Ac)) (C0 (v:=.int 6) (by rfl) m1 ⟨_,rfl⟩) (AD _))))) Ci AS) (Ao (AA (pv 1))))),?_⟩;intro d hd;have s0:Same H (Ab H d (.dK [])):=Same.new hd;refine⟨_,rfl,a,rfl,⟨_,SqL.of (s0 _ _ ha)⟩,Dn (K:=K) (a:=a) (xs:=ls.map V.ref) (λi σ H2=>∃(v2:Option V) (kvs:List (Af×V)),σ = [some (.ref a),some (.ref d),v2]/\Same H H2/\H2 d=some (.dK kvs)/\PlOk H2 (plc (rs.take i)) kvs) ⟨none,[],rfl,s0,Ag,.nil⟩ (λi σ H2 _ hh0=>by obtain⟨_,_,_,s2,_⟩:=hh0;exact SqL.of (s2 _ _ ha)) ?_ ?_⟩
 ·rintro i x σ H2 hx ⟨v2,kvs,rfl,s2,e2,pk2⟩;rw[AI]at hx;cases el:ls[i]? with
  | none=>rw[el]at hx;cases hx
  | some l=>
   rw[el]at hx;cases hx;obtain⟨ro,h1,h2⟩:=ra.get el;have hi:i<rs.length:=(AG.mp h1).1;have hro:rs[i]=ro:=(AG.mp h1).2;have htk:rs.take (i+1)=rs.take i++[ro]:=by rw[BF hi,hro]
   have hsp:rs=rs.take i++ro::rs.drop (i+1):=by rw[<- hro,List.getElem_cons_drop,DG]
   have hw:=s2 _ _ h2;obtain⟨w0,rest,ew⟩:∃w0 rest,ro.words=w0::ro.name::rest:=by cases ro <;> exact⟨_,_,rfl⟩
   have Bx:atI (ro.words.map V.str) ((0:Nat):Int)=some (.str w0):=Az (by rw[ew];rfl);have at1:atI (ro.words.map V.str) ((1:Nat):Int)=some (.str ro.name):=Az (by rw[ew];rfl);have hkl:=pk2.length
   have hfew:(plc (rs.take i)).length<=6:=by
    have:(plc rs).length=(plc (rs.take i)).length+(plc (rs.drop i)).length:=by rw[<- AY,<- Fk,DG]
    lia
   have hnone:Ay kvs (Sum.inr ro.name:Af)=none:=by
    refine pk2.none λz=>?_;have hnd:((rs.take (i+1)).map Ro.name).Nodup:=by rw[DH];exact GG (Gf _ _) g.nd
    rw[htk,Ba]at hnd;exact(Cw.mp hnd).2.2 _ (FY z) ro.name (AX.mpr rfl) rfl
   have put:∀(p:Str×Bool×Option Str) (tp:Addr) (H3:Hp),plc [ro]=[p]->p.1=ro.name->H2 tp=none->H3=Ab H2 tp (.tup [.bl p.2.1,oV' p.2.2])->Same H (Ab H3 d (.dK (kvs++[(Sum.inr ro.name,.ref tp)]))) /\
     PlOk (Ab H3 d (.dK (kvs++[(Sum.inr ro.name,.ref tp)]))) (plc (rs.take (i+1))) (kvs++[(Sum.inr ro.name,.ref tp)]):=λp tp H3 ep en ht e3=>by
    subst e3
    have dt:d≠tp:=AF e2 ht
    have s3:Same H2 (Ab H2 tp (.tup [.bl p.2.1,oV' p.2.2])):=Same.new ht
    refine⟨(s2.trans s3).put hd,?_⟩
    rw[htk,Fk,ep,<- en]
    refine PlOk.snoc (by rw[Ai dt.symm];exact Ag) (pk2.same λb xs e=>?_)
    rw[Ai (A7 e e2 (by intro z;cases z))]
    exact s3 _ _ e
   refine⟨_,rfl,l,_,_,_,rfl,rfl,SqL.of hw,Bx,rfl,_,rfl,?_⟩;refine Bd (λhe=>?_) (λhe=>?_)
   ·have e0:=V.str.inj (A4 he)
    obtain⟨n,rfl⟩:∃n,ro=.pl n:=by
     cases ro with
     | pl n=>exact⟨n,rfl⟩
     | th n s=>cases ew;exact absurd e0 (by decide +kernel)
     | bx n=>cases ew;exact absurd e0 (by decide +kernel)
     | lk n k=>cases ew;exact absurd e0 (by decide +kernel)
    refine⟨by show 2<=sizeLine;decide,λtp htp=>?_⟩;have s3:Same H2 (Ab H2 tp (.tup [.bl false,.non])):=Same.new htp;obtain⟨p1,p2⟩:=put (n,false,none) tp _ rfl rfl htp rfl;refine⟨_,rfl,_,rfl,l,_,_,_,rfl,rfl,SqL.of (s3 _ _ hw),at1,d,_,rfl,DPut.k (k:=(Sum.inr (Ro.pl n).name:Af)) (s3 _ _ e2) (by lia),?_⟩;rw[Eg _ hnone];have hl4:=p1;have ld:l≠d:=A7 hw e2 (by intro z;cases z);have hw4:(Ab (Ab H2 tp (.tup [.bl false,.non])) d (.dK (kvs++[(Sum.inr (Ro.pl n).name,.ref tp)]))) l=some (.lst ((Ro.pl n).words.map V.str)):=by rw[Ai ld];exact s3 _ _ hw
    refine⟨_,rfl,l,_,_,_,rfl,rfl,SqL.of hw4,Bx,rfl,_,rfl,?_⟩;refine Bd (λhb=>?_) (λ_=>⟨_,_,rfl,p1,Ag,p2⟩);exfalso;cases ew;exact absurd (V.str.inj (A4 hb)) (by decide +kernel)
   refine⟨_,rfl,l,_,_,_,rfl,rfl,SqL.of hw,Bx,rfl,_,rfl,?_⟩;refine Bd (λhb=>?_) (λhb=>?_)
   ·have e0:=V.str.inj (A4 hb)
    have hbx:ro.boxed=true:=by
     cases ro with
     | pl n=>cases ew;exact absurd e0 (by decide +kernel)
     | th n s=>cases ew;exact absurd e0 (by decide +kernel)
     | bx n=>rfl
     | lk n k=>rfl
    have hne:=g.floor hsp hbx;refine⟨_,rfl,d,_,rfl,e2,rfl,_,rfl,?_⟩;refine Bd (λhz=>?_) (λ_=>?_)
    ·exfalso;have:=V.int.inj (A4 hz);exact hne (RB.mp (by lia))
    have hwl:(ro.words.map V.str).length=ro.words.length:=Ak ..;refine⟨_,rfl,_,_,rfl,.inl ⟨_,SqL.of hw,rfl⟩,rfl,_,rfl,?_⟩;refine Bd (λh3=>?_) (λh3=>?_)
    ·obtain⟨n,k,rfl⟩:∃n k,ro=.lk n k:=by
      cases ro with
      | lk n k=>exact⟨n,k,rfl⟩
      | bx n=>exact absurd (show((2:Nat):Int)=3 from V.int.inj (A4 h3)) (by decide)
      | pl n=>cases hbx
      | th n s=>cases hbx
     have at2:atI ((Ro.lk n k).words.map V.str) ((2:Nat):Int)=some (.str k):=Az rfl;refine⟨_,rfl,l,_,_,_,rfl,rfl,SqL.of hw,at2,by show 2<=sizeLine;decide,λtp htp=>?_⟩;have s3:Same H2 (Ab H2 tp (.tup [.bl true,.str k])):=Same.new htp;obtain⟨p1,p2⟩:=put (n,true,some k) tp _ rfl rfl htp rfl;refine⟨_,rfl,_,rfl,l,_,_,_,rfl,rfl,SqL.of (s3 _ _ hw),at1,d,_,rfl,DPut.k (k:=(Sum.inr (Ro.lk n k).name:Af)) (s3 _ _ e2) (by lia),?_⟩;rw[Eg _ hnone];exact⟨_,_,rfl,p1,Ag,p2⟩
    obtain⟨n,rfl⟩:∃n,ro=.bx n:=by
     cases ro with
     | bx n=>exact⟨n,rfl⟩
     | lk n k=>exact absurd (by rfl) h3
     | pl n=>cases hbx
     | th n s=>cases hbx
    refine⟨by show 2<=sizeLine;decide,λtp htp=>?_⟩;have s3:Same H2 (Ab H2 tp (.tup [.bl true,.non])):=Same.new htp;obtain⟨p1,p2⟩:=put (n,true,none) tp _ rfl rfl htp rfl;refine⟨_,rfl,_,rfl,l,_,_,_,rfl,rfl,SqL.of (s3 _ _ hw),at1,d,_,rfl,DPut.k (k:=(Sum.inr (Ro.bx n).name:Af)) (s3 _ _ e2) (by lia),?_⟩;rw[Eg _ hnone];exact⟨_,_,rfl,p1,Ag,p2⟩
   refine⟨_,kvs,rfl,s2,e2,?_⟩
   have:plc (rs.take (i+1))=plc (rs.take i):=by
    rw[htk,Fk];cases ro with
    | th n s=>exact Cm _
    | pl n=>cases ew;exact absurd (AR rfl) he
    | bx n=>cases ew;exact absurd (AR rfl) hb
    | lk n k=>cases ew;exact absurd (AR rfl) hb
   rw[this];exact pk2
 rintro σ H2 ⟨v2,kvs,rfl,s2,e2,pk2⟩;rw[show(ls.map V.ref).length=rs.length by rw[Ak,hlen],BP]at pk2;have hkl:=pk2.length;obtain⟨n,t,hfl⟩:=g.first;have hpos:0<(plc rs).length:=by rw[hfl];exact Nat.zero_lt_succ _
 refine⟨_,rfl,d,_,rfl,e2,rfl,_,rfl,?_⟩;refine Bd (λhz=>?_) (λ_=>?_)
 ·exfalso;have:=V.int.inj (A4 hz);lia
 refine⟨_,rfl,d,_,rfl,e2,_,_,rfl,rfl,_,rfl,?_⟩;refine Bd (λhlt=>?_) (λ_=>⟨_,rfl,q d kvs H2 s2 hd e2 pk2⟩);exfalso;have:=A4 hlt;lia
def bU (F:Fun K "check_keys" "check_keys" M4 f fd):FnOk P w K mg base CX0 1 f fd ["places", "shapes"] PP:=by
 refine F.oq scCheckKeys λcdv A outer s H vs Q E hr h=>?_;obtain⟨d1,d2,rs,kvs,rfl,h1,pk1,h2,ne,g,q⟩:=h;have hu:=CL hr;refine⟨_,Ao (BU BS rfl (Za (Qs JE PySem.F.slot_dict_values PySem.F.type_dict_values gH (pv 0))) (AZ (i:=2) scCheckKeys.nd) (Aj (AB (i:=3) scCheckKeys.nd (Aq AJ (pv 2) Ah (λ_ _=>rfl))) (Ao (AQ (PW.pt (Cg (AC Jn (pv 3) CG (AD _)) (Ef (FM (Ng hu (pv 3) (pv 1)))))) Ci AS)))),?_⟩;refine⟨_,rfl,.inr (.inr (.inl ⟨rfl,.inl ⟨_,h1⟩⟩)),d1,kvs,rfl,rfl,h1,λv hv=>?_⟩;have v1:d1≠v:=AF h1 hv;refine⟨v,d1,kvs,rfl,Ag,by rw[Ai v1];exact h1,λo=>?_⟩;have kp:∀b u,H b=some u->b≠d1->(Ab (Ab H v (Iu v d1)) d1 (.frz o (.dK kvs))) b=some u:=λb u e hb=>by rw[Ai hb,Ai (AF e hv)];exact e
 have e1:(Ab (Ab H v (Iu v d1)) d1 (.frz o (.dK kvs))) d1=some (.frz o (.dK kvs)):=Ag;generalize (Ab (Ab H v (Iu v d1)) d1 (.frz o (.dK kvs)))=H2 at kp e1 ⊢;have h22:=kp _ _ h2 ne.symm;have pk2:PlOk H2 (plc rs) kvs:=pk1.same λb xs e=>kp _ _ e (A7 e h1 (by intro z;cases z));refine kU (a:=d1) (o:=o) (kvs:=kvs) (λ_ σ H3=>∃v2 v3:Option V,σ = [some (.ref d1),some (.ref d2),v2,v3]/\H3=H2) ⟨none,none,rfl,rfl⟩ (λi σ H3 _ hh0=>by obtain⟨_,_,_,e⟩:=hh0;rw[e];exact e1) ?_ ?_
 ·rintro i k x σ H3 hx ⟨v2,v3,rfl,rfl⟩;obtain⟨p,t,hp,rfl,ht⟩:=pk2.get hx;have hpm:p∈plc rs:=Bz hp;have at1:atI [V.bl p.2.1,oV' p.2.2] ((1:Nat):Int)=some (oV' p.2.2):=Az rfl;refine⟨_,rfl,t,_,_,_,rfl,rfl,SqT.of ht,at1,?_⟩;cases hk:p.2.2 with
  | none=>refine⟨_,rfl,rfl,_,rfl,?_⟩;refine AN ?_;exact AN ⟨_,_,rfl,rfl⟩
  | some key=>
   refine⟨_,rfl,rfl,_,rfl,?_⟩;refine Bb ?_;refine⟨_,rfl,_,rfl,d2,_,rfl,DGet.k (k:=(Sum.inr key:Af)) h22,_,rfl,?_⟩;have hmem:=g.keys p hpm key hk;obtain⟨y,hy,ey⟩:=Bi.mp hmem;have hs:(Ay (DS rs) (Sum.inr key:Af)).isSome=true:=by rw[<- Fe,Ie];exact⟨(Sum.inr y.1,.str y.2),Bi.mpr ⟨y,hy,rfl⟩,AR (by rw[ey])⟩
   rw[hs];exact AN ⟨_,_,rfl,rfl⟩
 rintro σ H3 ⟨v2,v3,rfl,rfl⟩;exact q o _ kp e1
def bC (F:Fun K "__init__" "Room.__init__" P4 f fd)(L:Cl K C)(DR:Df K mg "read_rows" IF ["lines"] fR dR)(DP:Df K mg "read_places" MB ["rows"] fP dP)(DT:Df K mg "read_things" MA ["rows"] fT dT)(DK:Df K mg "check_keys" M4 ["places", "shapes"] fK dK)
  (GR:FnOk P w K mg base CX0 3 fR dR ["lines"] O2)(GP:FnOk P w K mg base CX0 1 fP dP ["rows"] O3)(GT:FnOk P w K mg base CX0 1 fT dT ["rows"] O1)(GK:FnOk P w K mg base CX0 1 fK dK ["places", "shapes"] PP):FnOk P w K mg base CX0 4 f fd ["self", "lines"] (Pz C):=by
 refine F.oq scInit λcdv A outer s H vs Q E hr h=>?_
 obtain⟨x,dx,a,rs,rfl,hx,ha,g,hrl,q⟩:=h
 have hr1:Room 1 _:=hr.mono (by decide)
 refine⟨_,Aj (AB (i:=2) scInit.nd (AW GR hr (by rfl) DR.m DR.F.kp DR.b .nil Ar (Aa (pv 1) Ac))) (Aj (AB (i:=3) scInit.nd (AW GP hr1 (by rfl) DP.m DP.F.kp DP.b .nil Ar (Aa (pv 2) Ac))) (Aj (AB (i:=4) scInit.nd (AW GT hr1 (by rfl) DT.m DT.F.kp DT.b .nil Ar (Aa (pv 2) Ac))) (Aj (B1 (AW GK hr1 (by rfl) DK.m DK.F.kp DK.b .nil Ar (Aa (pv 3) (Aa (pv 4) Ac)))) (Aj (EW (pv 0) (pv 3) rfl) (Ao (EW (pv 0) (pv 4) rfl)))))),?_⟩
 refine⟨_,rfl,a,rs,rfl,ha,g,hrl,λl ls H1 s1 el ra=>?_⟩
 refine⟨_,rfl,l,rs,ls,rfl,el,ra,g,λd1 kvs H2 s2 f1 e1 pk1=>?_⟩
 refine⟨_,rfl,l,rs,ls,rfl,s2 _ _ el,ra.same s2,g,λd2 H3 s3 f2 e2=>?_⟩
 have n12:d1≠d2:=AF e1 f2
 refine⟨_,rfl,_,rfl,d1,d2,rs,kvs,rfl,s3 _ _ e1,pk1.same (λb xs e=>s3 _ _ e),e2,n12,g,λo H4 kp e4=>?_⟩
 have s13:=(s1.trans s2).trans s3
 have hx3:=s13 _ _ hx
 have x1:x≠d1:=λz=>by have:=s1 _ _ hx;rw[z,f1]at this;cases this
 have x2:x≠d2:=λz=>by have:=(s1.trans s2) _ _ hx;rw[z,f2]at this;cases this
 have hx4:=kp _ _ hx3 x1
 refine⟨_,rfl,_,rfl,x,C,dx,[],rfl,hx4,L.cl,L.nP,(by show 0<1000;decide),?_⟩
 refine⟨_,rfl,_,rfl,x,C,dx,_,rfl,Ag,L.cl,L.nS,(by show 1<1000;decide),?_⟩
 rw[Wo]
 have all:∀b u,H4 b=some u->b≠x->(Ab H4 x (.ins C dx (IK d1 d2))) b=some u:=λb u e hb=>by rw[Ai hb];exact e
 refine q _ (λb u e hb=>all b u (kp b u (s13 _ _ e) ?_) hb) ⟨dx,d1,d2,o,kvs,Ag,all _ _ e4 x1.symm,?_,all _ _ (kp _ _ e2 n12.symm) x2.symm⟩
 ·intro z;have:=s1 _ _ e;rw[z,f1]at this;cases this
 refine pk1.same λb xs e=>all _ _ (kp _ _ (s3 _ _ e) (A7 e e1 (by intro z;cases z))) ?_
 exact A7 (s3 _ _ e) hx3 (by intro z;cases z)
def ZV (F:Fun K "places" "Room.places" P0 f fd)(L:Cl K C)(T:Bl mg):FnOk P w K mg base CX0 1 f fd ["self"] (Gi C):=by refine F.oq XM λcdv A outer s H vs Q E hr h=>?_;obtain⟨x,rs,rfl,R,q⟩:=h;obtain⟨dx,d1,d2,o,kvs,h1,h2,h3,h4⟩:=R.ex;refine⟨_,Ao (AA (BW (nI rfl) (by rfl) T.list DV (Aa (FQ (pv 0) rfl) Ac))),?_⟩;refine⟨_,rfl,x,C,dx,_,_,rfl,h1,L.cl,L.nP,M8 d1 d2,d1,kvs,rfl,.inr ⟨o,h2⟩,λl hl=>?_⟩;exact q l _ (Same.new hl) hl (by rw[Ag,h3.keys])
abbrev Br:=Str×Bool×Option Str
theorem PlOk.find :∀{ps:List Br}{kvs:List (Af×V)},PlOk H ps kvs->(ps.map (·.1)).Nodup->p∈ps->∃t,Ay kvs (Sum.inr p.1:Af)=some (.ref t)/\H t=some (.tup [.bl p.2.1,oV' p.2.2])
 | _,_,.nil,_,hm=>nomatch hm
 | _,_,.cons ⟨e,t,e2,e3⟩ b,nd,h=>by
  rcases(AL.mp h)with z | z
  ·subst z;exact⟨t,by rw[B0 e,e2],e3⟩
  have nd':=Bq.mp (show((_::_:List Str)).Nodup from nd);rw[Bn (λq=>nd'.1 (by rw[e]at q;exact Bi.mpr ⟨p,z,(Cv q).symm⟩))];exact PlOk.find b nd'.2 z
theorem La:∀{rs:List Ro}{p:Br},(rs.map Ro.name).Nodup->p∈plc rs->(Ay (Bw rs) (Sum.inr p.1:Af)).isSome=p.2.1
 | [],_,_,h=>nomatch h
 | .th n s::r,p,nd,h=>La (rs:=r) (Bq.mp nd).2 h
 | .pl n::r,p,nd,h=>by
  rcases AL.mp (show p∈(n,false,none)::plc r from h)with z | z
  ·show(Ay (Bw r) (Sum.inr p.1:Af)).isSome=_;rw[z];show(Ay (Bw r) (Sum.inr n:Af)).isSome=false;rw[HP (x:=n) (Bq.mp nd).1];rfl
  exact La (rs:=r) (Bq.mp nd).2 z
 | .bx n::r,p,nd,h=>by
  show(Ay ((Sum.inr n,V.bl true)::Bw r) (Sum.inr p.1:Af)).isSome=_;rcases AL.mp (show p∈(n,true,none)::plc r from h)with z | z
  ·rw[z,B0 rfl];rfl
  rw[Bn (λq=>(Bq.mp nd).1 (by rw[show Ro.name (.bx n)=n from rfl,Cv q];exact FY (Cy z)))];exact La (rs:=r) (Bq.mp nd).2 z
 | .lk n k::r,p,nd,h=>by
  show(Ay ((Sum.inr n,V.bl true)::Bw r) (Sum.inr p.1:Af)).isSome=_;rcases AL.mp (show p∈(n,true,some k)::plc r from h)with z | z
  ·rw[z,B0 rfl];rfl
  rw[Bn (λq=>(Bq.mp nd).1 (by rw[show Ro.name (.lk n k)=n from rfl,Cv q];exact FY (Cy z)))];exact La (rs:=r) (Bq.mp nd).2 z
theorem Ld:∀{rs:List Ro}{p:Br},(rs.map Ro.name).Nodup->p∈plc rs->(Ay (BA rs) (Sum.inr p.1:Af)).getD .non=oV' p.2.2
 | [],_,_,h=>nomatch h
 | .th n s::r,p,nd,h=>Ld (rs:=r) (Bq.mp nd).2 h
 | .pl n::r,p,nd,h=>by
  rcases AL.mp (show p∈(n,false,none)::plc r from h)with z | z
  ·show(Ay (BA r) (Sum.inr p.1:Af)).getD .non=_;rw[z];show(Ay (BA r) (Sum.inr n:Af)).getD .non=.non;rw[F0 (x:=n) (Bq.mp nd).1];rfl
  exact Ld (rs:=r) (Bq.mp nd).2 z
 | .bx n::r,p,nd,h=>by
  rcases AL.mp (show p∈(n,true,none)::plc r from h)with z | z
  ·show(Ay (BA r) (Sum.inr p.1:Af)).getD .non=_;rw[z];show(Ay (BA r) (Sum.inr n:Af)).getD .non=.non;rw[F0 (x:=n) (Bq.mp nd).1];rfl
  exact Ld (rs:=r) (Bq.mp nd).2 z
 | .lk n k::r,p,nd,h=>by
  show(Ay ((Sum.inr n,V.str k)::BA r) (Sum.inr p.1:Af)).getD .non=_;rcases AL.mp (show p∈(n,true,some k)::plc r from h)with z | z
  ·rw[z,B0 rfl];rfl
  rw[Bn (λq=>(Bq.mp nd).1 (by rw[show Ro.name (.lk n k)=n from rfl,Cv q];exact FY (Cy z)))];exact Ld (rs:=r) (Bq.mp nd).2 z
theorem Fi :∀{xs:List V}{ys:List Str},RdVs H xs (ys.map PyData.str)->xs=ys.map V.str
 | [],[],_=>rfl
 | _::_,[],h=>by cases h
 | [],_::_,h=>by cases h
 | x::xs,y::ys,h=>by
  cases h with
  | cons a b=>cases a;rw[Fi b];rfl
def JC {ps:List Str}(nd:ps.Nodup){i:Nat}{x:Str}(h:ps[i]? = some x):∀m,m<i->ps[m]?≠some x:=λm hm e=>by obtain⟨h1,h2⟩:=AG.mp h;obtain⟨e1,e2⟩:=AG.mp e;have:=(Gb nd).mp (e2.trans h2.symm);lia
def kB {H:Hp}{xs:List V}{hs:List (List Str)}(r:RdVs H xs (hs.map dH)){i:Nat}{hp:List Str}(h:hs[i]? = some hp):∃t,xs[i]? = some (.ref t)/\H t=some (.tup (hp.map V.str)):=by
 have hl:=r.length;rw[Ak]at hl;have hi:=(AG.mp h).1;obtain⟨y,hx⟩:∃y,xs[i]? = some y:=⟨xs[i],AH (by lia)⟩;obtain⟨d,hd,rd⟩:=r.get hx;rw[AI,h]at hd;have hd':dH hp=d:=Bs hd;subst hd';unfold dH at rd;cases rd with
 | tup eh rh=>rw[Fi rh]at eh;exact⟨_,hx,eh⟩
def Jx (h:RdV H v (dO o)):v=oV o:=by
 cases o with
 | none=>cases h;rfl
 | some x=>cases h;rfl
inductive IA (C:Addr)(vs:List V)(H:Hp)(Q:VK)(E0_:XK):Prop
 | mk (x:Addr) (rs:List Ro) (v:V) (W:Wl) (i:Nat) (p:Br) (hp:List Str) (c0:vs=[.ref x,v,.str p.1]) (c1:RoomAt C H x rs) (c2:Good rs) (c3:RdV H v (dW W)) (c4:(plc rs)[i]? = some p) (c5:W.heaps[i]? = some hp) (c6:∀(t:Addr) (H':Hp),Same H H'->H t=some (.tup (hp.map V.str))->Q (.ref t) H'):IA C vs H Q E0_
inductive Mn (C:Addr)(vs:List V)(H:Hp)(Q:VK)(E0_:XK):Prop
 | mk (x:Addr) (rs:List Ro) (v:V) (W:Wl) (i:Nat) (p:Br) (l:Str) (c0:vs=[.ref x,v,.str p.1]) (c1:RoomAt C H x rs) (c2:Good rs) (c3:RdV H v (dW W)) (c4:(plc rs)[i]? = some p) (c5:W.lids[i]? = some l) (c6:∀H':Hp,Same H H'->Q (.str l) H'):Mn C vs H Q E0_
abbrev EZ:List Str:=["room", "world", "place"]
abbrev eX:List Str:=EZ
def X1:AM eX EZ (Av Hr):=AO
abbrev IW:List Str:=["room", "world", "place"]
abbrev dM:List Str:=IW
def XS:AM dM IW (Av Kh):=AO
inductive Mo (C:Addr)(vs:List V)(H:Hp)(Q:VK)(E0_:XK):Prop
 | mk (x:Addr) (rs:List Ro) (p:Br) (c0:vs=[.ref x,.str p.1]) (c1:RoomAt C H x rs) (c2:Good rs) (c3:p∈plc rs) (c4:∀t:Addr,H t=some (.tup [.bl p.2.1,oV' p.2.2])->Q (.ref t) H):Mo C vs H Q E0_
def XT:AM ["self", "place"] ["self", "place"] (Av P2):=AO
inductive Pf (C:Addr)(vs:List V)(H:Hp)(Q:VK)(E0_:XK):Prop
 | mk (x:Addr) (rs:List Ro) (p:Br) (c0:vs=[.ref x,.str p.1]) (c1:RoomAt C H x rs) (c2:Good rs) (c3:p∈plc rs) (c4:Q (.bl p.2.1) H):Pf C vs H Q E0_
def XR:AM ["self", "place"] ["self", "place"] (Av P1):=AO
inductive Pu (C:Addr)(vs:List V)(H:Hp)(Q:VK)(E0_:XK):Prop
 | mk (x:Addr) (rs:List Ro) (p:Br) (c0:vs=[.ref x,.str p.1]) (c1:RoomAt C H x rs) (c2:Good rs) (c3:p∈plc rs) (c4:Q (oV' p.2.2) H):Pu C vs H Q E0_
def XX:AM ["self", "place"] ["self", "place"] (Av P3):=AO
theorem GB {α:Type}{g:α->PyData}:∀{xs:List α},(∀x∈xs,(g x).canLay0=true)->PyData.canLayAll0 (xs.map g)=true
 | [],_=>by rw[FE,PyData.canLayAll0]
 | x::xs,h=>by rw[A9,PyData.canLayAll0,h x Bj,GB λy hy=>h y (A6 _ hy)];rfl
theorem HX {α:Type}{g:α->PyData}{n:Nat}:∀{xs:List α},(∀x∈xs,(g x).depth<=n)->PyData.depthAll (xs.map g)<=n
 | [],_=>by rw[FE,PyData.depthAll];exact A5 _
 | x::xs,h=>by have h1:=h x Bj;have h2:=HX λy hy=>h y (A6 _ hy);rw[A9,PyData.depthAll];lia
def ND (h:strOk x=true):(PyData.str x).canLay0=true:=by rw[PyData.canLay0];exact h
def iQ (h:∀x∈xs,strOk x=true):(dH xs).canLay0=true:=by unfold dH;rw[PyData.canLay0];exact GB λx hx=>ND (h x hx)
def NP (xs:List Str):PyData.depthAll (xs.map PyData.str)<=0:=HX (g:=PyData.str) (n:=0) (xs:=xs) λx _=>by rw[PyData.depth];exact Au 0
def Vk (xs:List Str):(dH xs).depth<=1:=by unfold dH;rw[PyData.depth];have:=NP xs;lia
def Mv (h1:d.canLay0=true)(h2:d.depth<=64):shaped d=true:=by unfold shaped;rw[h1,AR h2];rfl
def XB {xs:List Str}(h:∀x∈xs,strOk x=true):shaped (.list (xs.map PyData.str))=true:=by
 refine Mv ?_ ?_
 ·rw[PyData.canLay0];exact GB λx hx=>ND (h x hx)
 rw[PyData.depth];have:=NP xs;lia
def Ka (h:Ok W):shaped (dW W)=true:=by
 have l1:(dO W.hand).canLay0=true:=by
  cases hh:W.hand with
  | none=>decide +kernel
  | some x=>exact ND (h.hand x hh).1
 have d1:(dO W.hand).depth<=0:=by
  cases W.hand with
  | none=>rw[dO,PyData.depth];exact Au 0
  | some x=>rw[dO,PyData.depth];exact Au 0
 have l2:=GB (g:=dH) (xs:=W.heaps) λx hx=>iQ λy hy=>(h.heaps x hx y hy).1;have d2:=HX (g:=dH) (n:=1) (xs:=W.heaps) λx _=>Vk x;have l3:=GB (g:=PyData.str) (xs:=W.lids) λx hx=>ND (h.lids x hx).1;have d3:=NP W.lids;refine Mv ?_ ?_
 ·unfold dW;rw[PyData.canLay0,PyData.canLayAll0,PyData.canLayAll0,PyData.canLayAll0,PyData.canLayAll0,l1,PyData.canLay0,l2,PyData.canLay0,l3];rfl
 unfold dW;rw[PyData.depth,PyData.depthAll,PyData.depthAll,PyData.depthAll,PyData.depthAll,PyData.depth,PyData.depth];lia
def placesK:List (Af×V):=[(Sum.inr "take",.int 1),(Sum.inr "put",.int 1),(Sum.inr "toss",.int 1),(Sum.inr "open",.int 1),(Sum.inr "shut",.int 1),(Sum.inr "lock",.int 1),(Sum.inr "unlock",.int 1),(Sum.inr "tip",.int 2),(Sum.inr "shake",.int 1)]
structure Dd (P:Program)(w:World)(K:W.Frag)(mg:Str->Option Value)(aP:Addr):Prop where
 pm:mg "PLACES" = some (.ref aP)
 pd:KD P w K aP placesK
def CF (a:Str):V:=(Ay placesK (Sum.inr a:Af)).getD .non
def Wm {k:Af} (h:Ay kvs k=some v):∃kv∈kvs,kv.2=v:=by
 induction kvs with
 | nil=>cases h
 | cons p r ih=>
  by_cases e:p.1=k
  ·rw[B0 e]at h;exact⟨p,Bj,Bs h⟩
  rw[Bn e]at h;obtain⟨kv,a,b⟩:=ih h;exact⟨kv,A6 _ a,b⟩
def Y8 (a:Str):CF a=.non\/CF a=.int 1\/CF a=.int 2:=by
 unfold CF;cases h:Ay placesK (Sum.inr a:Af)with
 | none=>exact .inl rfl
 | some v=>obtain⟨kv,hm,e⟩:=Wm h;have:=(by decide +kernel:∀kv∈placesK,kv.2=V.int 1\/kv.2=V.int 2) kv hm;rw[e]at this;exact .inr this
structure Wd (line:Str)(ws:List Str):Prop where
 e:line=Txt.join Cu ws
 ne:ws≠[]
 nb:∀w∈ws,32∉cs w
def Wd.split (h:Wd line ws):Txt.split line Cu=ws:=by rw[h.e];exact Xn h.ne h.nb
def GE (rs:List Ro)(a:Str)(ps:List Str):Bool:=decide (CF a=V.int (ps.length:Int)) && ((ps.all λp=>decide (p∈(plc rs).map (·.1))) && decide ps.Nodup)
abbrev IU:List Str:=["room", "line"]
abbrev cV:List Str:=BI IU ["words", "places"]
def scReadDeed:AM cV IU (Av IG):=AO
inductive Hg (vs:List V)(H:Hp)(Q:VK)(E0_:XK):Prop
 | mk (v:V) (W:Wl) (c0:vs=[v]) (c1:RdV H v (dW W)) (c2:Q (.bl W.hand.isNone) H):Hg  vs H Q E0_
abbrev Ei:List Str:=["world"]
abbrev eW:List Str:=Ei
def X0:AM eW Ei (Av Gm):=AO
inductive Hh (C:Addr)(vs:List V)(H:Hp)(Q:VK)(E0_:XK):Prop
 | mk (x:Addr) (rs:List Ro) (e:Addr) (xs:List V) (i:Nat) (p:Br) (y:V) (c0:vs=[.ref x,.ref e,.str p.1,y]) (c1:RoomAt C H x rs) (c2:Good rs) (c3:H e=some (.tup xs)) (c4:i<xs.length) (c5:xs.length<=100) (c6:(plc rs)[i]? = some p) (c7:∀(t:Addr) (H':Hp),Same H H'->H' t=some (.tup (xs.set i y))->Q (.ref t) H'):Hh C vs H Q E0_
abbrev Ey:List Str:=["room", "entries", "place", "entry"]
abbrev gA:List Str:=BI Ey ["spot"]
def scChanged:AM gA Ey (Av Gq):=AO
def MX (n d:Nat):HT.sIx n d (some (-1))=n-1:=by show(if (-1:Int)<0 then((-1:Int)+(n:Int)).toNat else min (-1:Int).toNat n)=n-1;rw[As (by decide)];lia
structure Pt (rs:List Ro)(W:Wl)(i:Nat)(p:Br)(hp:List Str)(l:Str):Prop where
 pl:(plc rs)[i]? = some p
 he:W.heaps[i]? = some hp
 li:W.lids[i]? = some l
 few:W.heaps.length<=100
 len:hp.length<=100
def Pt.of (g:Good rs)(fw:Fw rs W)(sz:Sz W (plc rs).length)(h:i<(plc rs).length):∃p hp l,Pt rs W i p hp l:=by
 have h1:i<W.heaps.length:=by have:=sz.1;lia
 have h2:i<W.lids.length:=by have:=sz.2;lia
 have h3:=g.fewP;exact⟨_,_,_,AH h,AH h1,AH h2,by have:=sz.1;lia,(fw.ok g sz).few _ (BY h1)⟩
inductive Iz (C:Addr)(vs:List V)(H:Hp)(Q:VK)(E0_:XK):Prop
 | mk (x:Addr) (rs:List Ro) (v:V) (W:Wl) (i:Nat) (p:Br) (l:Str) (c0:vs=[.ref x,v,.str p.1]) (c1:RoomAt C H x rs) (c2:Good rs) (c3:RdV H v (dW W)) (c4:(plc rs)[i]? = some p) (c5:W.lids[i]? = some l) (c6:∀H':Hp,Same H H'->Q (.bl (decide (l = "open"))) H'):Iz C vs H Q E0_
abbrev EY:List Str:=["room", "world", "place"]
abbrev eV:List Str:=EY
def XY:AM eV EY (Av Ho):=AO
theorem FL :∀{xs:List V}{ds:List PyData}(i:Nat) {x:V}{d:PyData},RdVs H xs ds->RdV H x d->RdVs H (xs.set i x) (ds.set i d)
 | _,_,_,_,_,.nil,_=>.nil
 | _,_,0,_,_,.cons _ b,r=>.cons r b
 | _,_,i+1,_,_,.cons a b,r=>.cons a (FL i b r)
def Dv (W:Wl)(i:Nat)(hp:List Str)(l:Str):List Wl:=if W.hand=none/\l = "open" /\ hp≠[]then [⟨hp.getLast?,W.heaps.set i hp.dropLast,W.lids⟩]else []
def HR (t1 t2 t3 t4:Addr):List (Af×V):=[(Sum.inr "open",.ref t1),(Sum.inr "shut",.ref t2),(Sum.inr "lock",.ref t3),(Sum.inr "unlock",.ref t4)]
structure Dl (P:Program)(w:World)(K:W.Frag)(mg:Str->Option Value)(aL t1 t2 t3 t4:Addr):Prop where
 lm:mg "LIDS" = some (.ref aL)
 ld:KD P w K aL (HR t1 t2 t3 t4)
 k1:∀H:Hp,SqT K H t1 [V.str "shut",V.str "open"]
 k2:∀H:Hp,SqT K H t2 [V.str "open",V.str "shut"]
 k3:∀H:Hp,SqT K H t3 [V.str "shut",V.str "locked"]
 k4:∀H:Hp,SqT K H t4 [V.str "locked",V.str "shut"]
def lidW:List Str:=["open", "shut", "lock", "unlock"]
def EH (w:Str):Str:=if w = "shut" then "open" else if w = "unlock" then "locked" else "shut"
def EG (w:Str):Str:=if w = "open" then "open" else if w = "lock" then "locked" else "shut"
def NB {w:Str}(h:w∈lidW):w = "open" \/ w = "shut" \/ w = "lock" \/ w = "unlock" := by simpa only [lidW,AL,Cn,Ck] using h
def Dl.got (D:Dl P w K mg aL t1 t2 t3 t4) (h:x∈lidW):∃t,Ay (HR t1 t2 t3 t4) (Sum.inr x:Af)=some (.ref t)/\∀H:Hp,SqT K H t [V.str (EH x),V.str (EG x)]:=by
 unfold HR;rcases NB h with e | e | e | e
 ·subst e;exact⟨t1,B0 rfl,D.k1⟩
 ·subst e;exact⟨t2,by rw[Bn (BO (by decide +kernel)),B0 rfl],D.k2⟩
 ·subst e;exact⟨t3,by rw[Bn (BO (by decide +kernel)),Bn (BO (by decide +kernel)),B0 rfl],D.k3⟩
 subst e;exact⟨t4,by rw[Bn (BO (by decide +kernel)),Bn (BO (by decide +kernel)),Bn (BO (by decide +kernel)),B0 rfl],D.k4⟩
def Em (W:Wl)(p:Br)(w:Str):Bool:=if w∈(["lock", "unlock"]:List Str)then W.hand.isSome && decide (oV W.hand=oV' p.2.2)else W.hand.isNone && p.2.1
def CN (w:Str)(p:Br)(W:Wl)(i:Nat)(l:Str):List Wl:=if l=EH w/\Em W p w=true then [⟨W.hand,W.heaps,W.lids.set i (EG w)⟩]else []
inductive Mj (C:Addr)(vs:List V)(H:Hp)(Q:VK)(E0_:XK):Prop
 | mk (x:Addr) (rs:List Ro) (line a:Str) (ps:List Str) (c0:vs=[.ref x,.str line]) (c1:RoomAt C H x rs) (c2:Wd line (a::ps)) (c3:line.length<=1000) (c4:ps.length<=100) (c5:GE rs a ps=true) (c6:∀(l:Addr) (H':Hp),Same H H'->H' l=some (.lst ((a::ps).map V.str))->Q (.ref l) H'):Mj C vs H Q E0_
inductive PB (C:Addr)(vs:List V)(H:Hp)(Q:VK)(E0_:XK):Prop
 | mk (x:Addr) (rs:List Ro) (v:V) (W:Wl) (w:Str) (p:Br) (c0:vs=[.ref x,v,.str w,.str p.1]) (c1:RoomAt C H x rs) (c2:Good rs) (c3:RdV H v (dW W)) (c4:p∈plc rs) (c5:∀H':Hp,Same H H'->Q (.bl (Em W p w)) H'):PB C vs H Q E0_
abbrev KW:List Str:=["room", "world", "word", "place"]
abbrev eY:List Str:=KW
def X2:AM eY KW (Av MY):=AO
inductive Pc (C:Addr)(vs:List V)(H:Hp)(Q:VK)(E0_:XK):Prop
 | mk (x:Addr) (rs:List Ro) (v:V) (W:Wl) (w:Str) (i:Nat) (p:Br) (hp:List Str) (l:Str) (c0:vs=[.ref x,v,.str w,.str p.1]) (c1:RoomAt C H x rs) (c2:Good rs) (c3:RdV H v (dW W)) (c4:Pt rs W i p hp l) (c5:W.lids.length<=100) (c6:w∈lidW) (c7:∀(lw:Addr) (us:List V) (H':Hp),Same H H'->H' lw=some (.lst us)->RdVs H' us ((CN w p W i l).map dW)->Q (.ref lw) H'):Pc C vs H Q E0_
abbrev KP:List Str:=["room", "world", "word", "place"]
abbrev dG:List Str:=BI KP ["before", "behind"]
def scMoveLid:AM dG KP (Av MJ):=AO
abbrev IR:List Str:=["room", "line", "world"]
abbrev cL:List Str:=BI IR ["words"]
def scTurns:AM cL IR (Av Kb):=AO
def Vf {rs:List Ro}{a:Str}{i:Nat}{p:Br}(hp:(plc rs)[i]? = some p)(ha:CF a=V.int 1):GE rs a [p.1]=true:=by
 unfold GE;rw[show decide (CF a=V.int (([p.1].length:Nat):Int))=true from AR ha];rw[show([p.1].all λp=>decide (p∈(plc rs).map (·.1)))=true from ?_]
 ·rw[AR (show [p.1].Nodup from by simp)];rfl
 rw[Fd];intro y hy;rw[AX.mp hy];exact AR (Cy (Bz hp))
def Uo {w:Str}(h:w∈lidW):CF w=V.int 1:=by rcases NB h with e | e | e | e <;> (rw[e];decide +kernel)
def E3 (t:Str)(W:Wl)(i:Nat):Wl:=⟨none,W.heaps.set i (W.heaps.getD i []++[t]),W.lids⟩
def CC (i:Nat):List Nat:=if i=0 then [0]else [i,0]
def putF (W:Wl)(i:Nat)(_:List Str)(l:Str):List Wl:=match W.hand with
 | some t=>if l = "open" then [E3 t W i]else []
 | none=>[]
def DM (W:Wl)(i:Nat)(_:List Str)(l:Str):List Wl:=match W.hand with
 | some t=>if l = "open" then(CC i).map (E3 t W)else []
 | none=>[]
def Hf (hp:List Str):List Str:=hp.take (hp.length-2)++(hp.drop (hp.length-2)).reverse
def Dw (W:Wl)(i:Nat)(hp:List Str)(l:Str):List Wl:=if W.hand=none/\l ≠ "open" /\ 2<=hp.length then [W,⟨none,W.heaps.set i (Hf hp),W.lids⟩]else []
def DO (W:Wl)(i:Nat)(hp:List Str)(l:Str)(j:Nat)(hq:List Str)(lq:Str):List Wl:=if W.hand=none/\l = "open" /\ lq = "open" /\ hp≠[]then [⟨none,(W.heaps.set i []).set j (hq++hp.reverse),W.lids⟩]else []
def FX (w:Str):Wl->Nat->List Str->Str->List Wl:=if w = "take" then Dv else if w = "put" then putF else if w = "toss" then DM else Dw
inductive FK (C:Addr)(F:Wl->Nat->List Str->Str->List Wl)(vs:List V)(H:Hp)(Q:VK)(E0_:XK):Prop
 | mk (x:Addr) (rs:List Ro) (v:V) (W:Wl) (i:Nat) (p:Br) (hp:List Str) (l:Str) (c0:vs=[.ref x,v,.str p.1]) (c1:RoomAt C H x rs) (c2:Good rs) (c3:RdV H v (dW W)) (c4:Pt rs W i p hp l) (c5:(∀h∈W.heaps,h.length<=100)) (c6:∀(lw:Addr) (us:List V) (H':Hp),Same H H'->H lw=none->H' lw=some (.lst us)->RdVs H' us ((F W i hp l).map dW)->Q (.ref lw) H'):FK C F vs H Q E0_
inductive OX (C:Addr)(vs:List V)(H:Hp)(Q:VK)(E0_:XK):Prop
 | mk (x:Addr) (rs:List Ro) (v:V) (W:Wl) (i:Nat) (p:Br) (hp:List Str) (l:Str) (j:Nat) (pj:Br) (hq:List Str) (lq:Str) (c0:vs=[.ref x,v,.str p.1,.str pj.1]) (c1:RoomAt C H x rs) (c2:Good rs) (c3:RdV H v (dW W)) (c4:Pt rs W i p hp l) (c5:Pt rs W j pj hq lq) (c6:∀(lw:Addr) (us:List V) (H':Hp),Same H H'->H lw=none->H' lw=some (.lst us)->RdVs H' us ((DO W i hp l j hq lq).map dW)->Q (.ref lw) H'):OX C vs H Q E0_
inductive Mu (C:Addr)(vs:List V)(H:Hp)(Q:VK)(E0_:XK):Prop
 | mk (x:Addr) (rs:List Ro) (v:V) (W:Wl) (i:Nat) (p:Br) (l:Str) (c0:vs=[.ref x,v,.str p.1]) (c1:RoomAt C H x rs) (c2:Good rs) (c3:RdV H v (dW W)) (c4:(plc rs)[i]? = some p) (c5:W.lids[i]? = some l) (c6:∀H':Hp,Same H H'->Q (.bl (W.hand.isSome && decide (l = "open"))) H'):Mu C vs H Q E0_
abbrev Hy:List Str:=["room", "world", "place"]
abbrev gB:List Str:=Hy
def Ya:AM gB Hy (Av Kt):=AO
inductive Mp (C:Addr)(vs:List V)(H:Hp)(Q:VK)(E0_:XK):Prop
 | mk (x:Addr) (rs:List Ro) (v:V) (W:Wl) (i:Nat) (p:Br) (hp:List Str) (l t:Str) (c0:vs=[.ref x,v,.str p.1]) (c1:RoomAt C H x rs) (c2:Good rs) (c3:RdV H v (dW W)) (c4:Pt rs W i p hp l) (c5:W.hand=some t) (c6:∀(v':V) (H':Hp),Same H H'->RdV H' v' (dW (E3 t W i))->Q v' H'):Mp C vs H Q E0_
abbrev Hw:List Str:=["room", "world", "place"]
abbrev dU:List Str:=BI Hw ["heap"]
def scLaid:AM dU Hw (Av Ki):=AO
abbrev KL:List Str:=["room", "world", "place"]
abbrev cW:List Str:=KL
def XJ:AM cW KL (Av MF):=AO
abbrev KF:List Str:=["room", "world", "place"]
abbrev cM:List Str:=BI KF ["floor", "ends"]
def scToss:AM cM KF (Av Kc):=AO
abbrev KI:List Str:=["room", "world", "place"]
abbrev cP:List Str:=BI KI ["heap", "shaken"]
def scShake:AM cP KI (Av My):=AO
abbrev KG:List Str:=["room", "world", "place", "other"]
abbrev cN:List Str:=BI KG ["heap", "filled", "heaps"]
def scTip:AM cN KG (Av Mw):=AO
abbrev KH:List Str:=["room", "world", "place"]
abbrev cO:List Str:=BI KH ["heap"]
def scTake:AM cO KH (Av Mx):=AO
inductive Pb (C:Addr)(vs:List V)(H:Hp)(Q:VK)(E0_:XK):Prop
 | mk (x:Addr) (rs:List Ro) (v:V) (W:Wl) (w:Str) (i:Nat) (p:Br) (hp:List Str) (l:Str) (c0:vs=[.ref x,v,.str w,.str p.1]) (c1:RoomAt C H x rs) (c2:Good rs) (c3:RdV H v (dW W)) (c4:Pt rs W i p hp l) (c5:(∀h∈W.heaps,h.length<=100)) (c6:∀(lw:Addr) (us:List V) (H':Hp),Same H H'->H lw=none->H' lw=some (.lst us)->RdVs H' us ((FX w W i hp l).map dW)->Q (.ref lw) H'):Pb C vs H Q E0_
abbrev KO:List Str:=["room", "world", "word", "place"]
abbrev dC:List Str:=KO
def XO:AM dC KO (Av MI):=AO
def Gz:List Str:=["take", "put", "toss", "tip", "shake"]
def Jq {w:Str}(h:w∈Gz):w = "take" \/ w = "put" \/ w = "toss" \/ w = "tip" \/ w = "shake" := by simpa only [Gz,AL,Cn,Ck] using h
def Cb (w:Str)(W:Wl)(i:Nat)(hp:List Str)(l:Str)(j:Nat)(hq:List Str)(lq:Str):List Wl:=if w = "tip" then DO W i hp l j hq lq else FX w W i hp l
def C9 (w a b:Str):List Str:=if w = "tip" then [w,a,b]else [w,a]
def iG {t1 t2 t3 t4:Addr}{w:Str}(h:w∈Gz):Ay (HR t1 t2 t3 t4) (Sum.inr w:Af)=none:=by
 unfold HR;have hn:∀z∈lidW,z≠w:=by rcases Jq h with e | e | e | e | e <;> (rw[e];decide +kernel)
 rw[Bn (BO (hn "open" (by decide +kernel))),Bn (BO (hn "shut" (by decide +kernel))),Bn (BO (hn "lock" (by decide +kernel))),Bn (BO (hn "unlock" (by decide +kernel)))];rfl
def Pt.getD (h:Pt rs W i p hp l):W.heaps.getD i []=hp:=by rw[Cz,h.he];rfl
def Qj {rs:List Ro}{i j:Nat}{p q:Br}(g:Good rs)(hp:(plc rs)[i]? = some p)(hq:(plc rs)[j]? = some q)(e:p.1=q.1):i=j:=by
 have h1:((plc rs).map (·.1))[i]? = some p.1:=by rw[AI,hp];rfl
 have h2:((plc rs).map (·.1))[j]? = some p.1:=by rw[AI,hq,e];rfl
 obtain⟨l1,e1⟩:=AG.mp h1;obtain⟨l2,e2⟩:=AG.mp h2;exact(Gb g.ndP).mp (e1.trans e2.symm)
def MW (n d:Nat):HT.sIx n d (some (-2))=n-2:=by show(if (-2:Int)<0 then((-2:Int)+(n:Int)).toNat else min (-2:Int).toNat n)=n-2;rw[As (by decide)];lia
def Sr (h:2<=hp.length):∃r b a,hp=r++[b,a]:=by
 refine⟨hp.take (hp.length-2),hp[hp.length-2]'(by lia),hp[hp.length-1]'(by lia),?_⟩
 have e:hp.drop (hp.length-2)=[hp[hp.length-2]'(by lia),hp[hp.length-1]'(by lia)]:=by
  rw[VW (by lia),VW (by lia),List.drop_of_length_le (by lia)];have e2:hp.length-2+1=hp.length-1:=by lia
  simp only[e2]
 rw[<- e,DG]
def SQ (r:List Str)(b a:Str):Hf (r++[b,a])=r++[a,b]:=by
 unfold Hf;have e:(r++[b,a]).length-2=r.length:=by simp
 rw[e,N9,List.drop_left];rfl
def VQ {α:Type}(xs:List α)(u v:α):atI (xs++[u,v]) (-2)=some u:=by
 have hl:(xs++[u,v]).length=xs.length+2:=by simp
 have e:Fq (xs++[u,v]).length (-2)=some xs.length:=by unfold Fq;rw[hl,Am (by decide),As (by lia)];congr 1;lia
 unfold atI;rw[e];simp
def Pt.at' (pt:Pt rs W i p hp l)(fh:∀h∈W.heaps,h.length<=100){k:Nat}{pk:Br}(hk:(plc rs)[k]? = some pk)(h1:k<W.heaps.length)(h2:k<W.lids.length):∃hk lk,Pt rs W k pk hk lk:=
 ⟨_,_,hk,AH h1,AH h2,pt.few,fh _ (BY h1)⟩
def XF (I:L2.St->Hp->Prop)(hR:∀σ' H',I σ' H'->R D σ' H')(hs:∀N:L2.St->Hp->Prop,(∀σ' H',I σ' H'->N σ' H')->s { D with nx:=N } σ H):OP s R D σ H:=hs (R D) hR
def bD (F:Fun K "heap_in" "heap_in" Hr f fd)(L:Cl K C)(b_places:Binds K d_places ["self"] [])(m_places:Dr K C "places" f_places)(G_places:FnOk P w K mg base CX0 1 f_places d_places ["self"] (Gi C)):FnOk P w K mg base CX0 2 f fd EZ (IA C):=by
 refine F.oq X1 λcdv A outer s H vs Q E hr1 h=>?_;obtain⟨x,rs,v,W,i,p,hp,rfl,R,g,rv,hi,hh,q⟩:=h;obtain⟨dx,d1,d2,o,kvs,h1,h2,h3,h4⟩:=R.ex;obtain⟨c,v0,hb,cl,xs,ys,rfl,ea,r0,eb,rb,ec,rc⟩:=C2 rv;obtain⟨t,et,ht⟩:=kB rb hh;have at1:atI [v0,V.ref hb,V.ref cl] ((1:Nat):Int)=some (.ref hb):=Az rfl;have hpi:((plc rs).map (·.1))[i]? = some p.1:=by rw[AI,hi];rfl
 refine⟨_,(Ao (AA (Aq AJ (Aq AJ (pv 1) Ah (λ_ _=>rfl)) (C1 DZ JD LV K7 (Gw (pv 0) L.cl m_places G_places hr1 b_places .nil Ar) (Aa (pv 2) Ac)) (λ_ _=>rfl)))),?_⟩;refine⟨_,rfl,c,_,_,_,rfl,rfl,SqT.of ea,at1,_,rfl,x,dx,_,rfl,h1,Fg d1 d2 (by decide +kernel) (by decide +kernel),x,rs,rfl,R,λl H1 s1 fl el=>?_⟩;exact⟨.inl ⟨rfl,_,SqL.of el⟩,_,rfl,l,_,_,i,rfl,rfl,el,hpi,JC g.ndP hpi,hb,_,_,_,rfl,rfl,SqT.of (s1 _ _ eb),Az et,q t H1 s1 ht⟩
def aQ (F:Fun K "lid_on" "lid_on" Kh f fd)(L:Cl K C)(b_places:Binds K d_places ["self"] [])(m_places:Dr K C "places" f_places)(G_places:FnOk P w K mg base CX0 1 f_places d_places ["self"] (Gi C)):FnOk P w K mg base CX0 2 f fd IW (Mn C):=by
 refine F.oq XS λcdv A outer s H vs Q E hr1 h=>?_;obtain⟨x,rs,v,W,i,p,l,rfl,R,g,rv,hi,hh,q⟩:=h;obtain⟨dx,d1,d2,o,kvs,h1,h2,h3,h4⟩:=R.ex;obtain⟨c,v0,hb,cl,xs,ys,rfl,ea,r0,eb,rb,ec,rc⟩:=C2 rv;have hys:=Fi rc;subst hys;have el:(W.lids.map V.str)[i]? = some (.str l):=by rw[AI,hh];rfl
 have at2:atI [v0,V.ref hb,V.ref cl] ((2:Nat):Int)=some (.ref cl):=Az rfl;have hpi:((plc rs).map (·.1))[i]? = some p.1:=by rw[AI,hi];rfl
 refine⟨_,(Ao (AA (Aq AJ (Aq AJ (pv 1) Ah (λ_ _=>rfl)) (C1 DZ JD LV K7 (Gw (pv 0) L.cl m_places G_places hr1 b_places .nil Ar) (Aa (pv 2) Ac)) (λ_ _=>rfl)))),?_⟩;refine⟨_,rfl,c,_,_,_,rfl,rfl,SqT.of ea,at2,_,rfl,x,dx,_,rfl,h1,Fg d1 d2 (by decide +kernel) (by decide +kernel),x,rs,rfl,R,λl1 H1 s1 fl e1=>?_⟩;exact⟨.inl ⟨rfl,_,SqL.of e1⟩,_,rfl,l1,_,_,i,rfl,rfl,e1,hpi,JC g.ndP hpi,cl,_,_,_,rfl,rfl,SqT.of (s1 _ _ ec),Az el,q H1 s1⟩
def aR (F:Fun K "lid_of" "Room.lid_of" P2 f fd)(L:Cl K C):FnOk P w K mg base CX0 1 f fd ["self", "place"] (Mo C):=by refine F.oq XT λcdv A outer s H vs Q E hr h=>?_;obtain⟨x,rs,p,rfl,R,g,hp,q⟩:=h;have hu:=CL hr;obtain⟨dx,d1,d2,o,kvs,h1,h2,h3,h4⟩:=R.ex;obtain⟨t,hv,ht⟩:=h3.find g.ndP hp;have dg:DGet H d1 (.str p.1) (some (.ref t)):=.inl ⟨kvs,(Sum.inr p.1:Af),.inr ⟨o,h2⟩,rfl,hv.symm⟩;refine⟨_,Aj (AQ (FM (Ng hu (pv 1) (FQ (pv 0) rfl))) Ci AS) (Ao (AA (B6 hu (FQ (pv 0) rfl) (pv 1) (λ_ _=>rfl)))),?_⟩;refine⟨_,rfl,_,rfl,x,C,dx,_,_,rfl,h1,L.cl,L.nP,M8 d1 d2,d1,_,rfl,dg,_,rfl,?_⟩;refine AN ?_;exact⟨_,rfl,x,C,dx,_,_,rfl,h1,L.cl,L.nP,M8 d1 d2,_,rfl,d1,_,rfl,dg,q t ht⟩
def aS (F:Fun K "lidded" "Room.lidded" P1 f fd)(L:Cl K C)(bL:Binds K dL ["self", "place"] [])(mL:Dr K C "lid_of" fL)(GL:FnOk P w K mg base CX0 1 fL dL ["self", "place"] (Mo C)):FnOk P w K mg base CX0 2 f fd ["self", "place"] (Pf C):=by refine F.oq XR λcdv A outer s H vs Q E hr h=>?_;obtain⟨x,rs,p,rfl,R,g,hp,q⟩:=h;obtain⟨dx,d1,d2,o,kvs,h1,h2,h3,h4⟩:=R.ex;refine⟨_,Ao (AA (Aq AJ (Nf (pv 0) L.cl mL GL hr bL .nil Ar (Aa (pv 1) Ac)) Ah (λ_ _=>rfl))),?_⟩;refine⟨_,rfl,x,dx,_,rfl,h1,Fg d1 d2 (by decide +kernel) (by decide +kernel),_,rfl,x,rs,p,rfl,R,g,hp,λt ht=>?_⟩;have a0:atI [V.bl p.2.1,oV' p.2.2] ((0:Nat):Int)=some (.bl p.2.1):=Az rfl;exact⟨t,_,_,_,rfl,rfl,SqT.of ht,a0,q⟩
def aX (F:Fun K "key_of" "Room.key_of" P3 f fd)(L:Cl K C)(bL:Binds K dL ["self", "place"] [])(mL:Dr K C "lid_of" fL)(GL:FnOk P w K mg base CX0 1 fL dL ["self", "place"] (Mo C)):FnOk P w K mg base CX0 2 f fd ["self", "place"] (Pu C):=by refine F.oq XX λcdv A outer s H vs Q E hr h=>?_;obtain⟨x,rs,p,rfl,R,g,hp,q⟩:=h;obtain⟨dx,d1,d2,o,kvs,h1,h2,h3,h4⟩:=R.ex;refine⟨_,Ao (AA (Aq AJ (Nf (pv 0) L.cl mL GL hr bL .nil Ar (Aa (pv 1) Ac)) Ah (λ_ _=>rfl))),?_⟩;refine⟨_,rfl,x,dx,_,rfl,h1,Fg d1 d2 (by decide +kernel) (by decide +kernel),_,rfl,x,rs,p,rfl,R,g,hp,λt ht=>?_⟩;have a1:atI [V.bl p.2.1,oV' p.2.2] ((1:Nat):Int)=some (oV' p.2.2):=Az rfl;exact⟨t,_,_,_,rfl,rfl,SqT.of ht,a1,q⟩
def bA (F:Fun K "is_free" "is_free" Gm f fd):FnOk P w K mg base CX0 1 f fd Ei Hg:=by
 refine F.oq X0 λcdv A outer s H vs Q E hr h=>?_;obtain⟨v,W,rfl,rv,q⟩:=h;obtain⟨c,v0,hb,cl,xs,ys,rfl,ea,r0,eb,rb,ec,rc⟩:=C2 rv;have hv0:=Jx r0;subst hv0;have w0:atI [oV W.hand,V.ref hb,V.ref cl] ((0:Nat):Int)=some (oV W.hand):=Az rfl;refine⟨_,(Ao (AA (Fl HL (Aq AJ (pv 0) Ah (λ_ _=>rfl)) CG (AD _)))),?_⟩;refine⟨_,rfl,c,_,_,_,rfl,rfl,SqT.of ea,w0,rfl,?_⟩;cases hh:W.hand with
 | none=>rw[hh]at q;exact q
 | some t=>rw[hh]at q;exact q
def aY (F:Fun K "is_open" "is_open" Ho f fd)(C_lid_on:Ca P w K mg base CX0 2 "lid_on" Kh IW (Mn C)):FnOk P w K mg base CX0 3 f fd EY (Iz C):=by refine F.oq XY λcdv A outer s H vs Q E hr2 h=>?_;obtain⟨x,rs,v,W,i,p,l,rfl,R,g,rv,hi,hl,q⟩:=h;refine⟨_,(Ao (AA (Fl Bo (A0 C_lid_on hr2 Ar (Aa (pv 0) (Aa (pv 1) (Aa (pv 2) Ac)))) AE (AD _)))),?_⟩;refine⟨_,rfl,_,rfl,_,rfl,x,rs,v,W,i,p,l,rfl,R,g,rv,hi,hl,λH1 s1=>⟨rfl,?_⟩⟩;rw[mE];exact q H1 s1
def bW (F:Fun K "changed" "changed" Gq f fd)(L:Cl K C)(b_places:Binds K d_places ["self"] [])(m_places:Dr K C "places" f_places)(G_places:FnOk P w K mg base CX0 1 f_places d_places ["self"] (Gi C)):FnOk P w K mg base CX0 2 f fd Ey (Hh C):=by
 refine F.oq scChanged λcdv A outer s H vs Q E hr1 h=>?_;obtain⟨x,rs,e,xs,i,p,y,rfl,R,g,he,hi,hx,hpi',q⟩:=h;have ae:sizeLine=16777216:=AK;obtain⟨dx,d1,d2,o,kvs,h1,h2,h3,h4⟩:=R.ex;have hpi:((plc rs).map (·.1))[i]? = some p.1:=by rw[AI,hpi'];rfl
 refine⟨_,(Aj (AB (i:=4) scChanged.nd (C1 DZ JD LV K7 (Gw (pv 0) L.cl m_places G_places hr1 b_places .nil Ar) (Aa (pv 2) Ac))) (Ao (AA (Ax EA (Ax EA (Dk Ff (pv 1) Di (Dh (pv 4))) (BQ (Aa (pv 3) Ac))) (Dk Ff (pv 1) (Dh (Ax Bm (pv 4) Ah)) Di))))),?_⟩;refine⟨_,rfl,x,dx,_,rfl,h1,Fg d1 d2 (by decide +kernel) (by decide +kernel),x,rs,rfl,R,λl H1 s1 fl el=>?_⟩;refine⟨.inl ⟨rfl,_,SqL.of el⟩,_,rfl,l,_,_,i,rfl,rfl,el,hpi,JC g.ndP hpi,?_⟩;have he1:=s1 _ _ he;have c1:Bh xs none (some ((i:Nat):Int))=xs.take i:=by unfold Bh;rw[HT.sIx_none,HT.sIx_nat,FA,Gc];congr 1;lia
 have c2:Bh xs (some (((i+1:Nat)):Int)) none=xs.drop (i+1):=NQ (by lia);refine⟨_,rfl,_,rfl,_,rfl,e,xs,rfl,SqT.of he1,?_,λp1 hp1=>?_⟩
 ·rw[HT.sIx_none,HT.sIx_nat];lia
 rw[c1];obtain⟨H2,g0,s2,e2⟩:=BD (H:=H1) (o:=.tup (xs.take i)) hp1;rw[g0];refine⟨_,rfl,Bf,λp2 hp2=>?_⟩;obtain⟨H3,g0,s3,e3⟩:=BD (H:=H2) (o:=.tup [y]) hp2;rw[g0];refine EE (s3 _ _ e2) e3 (by rw[Bu];show _+1<=_;lia) λp3 H4 s4 e4=>?_;have s14:=(s1.trans s2).trans (s3.trans s4);have he4:=s14 _ _ he;refine⟨_,rfl,_,rfl,_,_,rfl,rfl,_,rfl,e,xs,rfl,SqT.of he4,?_,λp4 hp4=>?_⟩
 ·rw[show((i:Int)+1)=((i+1:Nat):Int) from rfl,HT.sIx_nat];lia
 rw[show((i:Int)+1)=((i+1:Nat):Int) from rfl,c2];have s5:Same H4 (Ab H4 p4 (.tup (xs.drop (i+1)))):=Same.new hp4;refine EE (s5 _ _ e4) Ag (by rw[AY,Bu,DC];show _+1+_<=_;lia) λt H6 s6 e6=>?_;refine q t H6 (s14.trans (s5.trans s6)) ?_;rw[e6,RZ,As hi,De];rfl
def ZR (F:Fun K "read_deed" "read_deed" IG f fd)(T:Bl mg)(L:Cl K C)(DD:Dd P w K mg aP)(b_places:Binds K d_places ["self"] [])(m_places:Dr K C "places" f_places)(G_places:FnOk P w K mg base CX0 1 f_places d_places ["self"] (Gi C)):FnOk P w K mg base CX0 2 f fd IU (Mj C):=by
 refine F.oq scReadDeed λcdv A outer s H vs Q E hr1 h=>?_;obtain⟨x,rs,line,a,ps,rfl,R,hw,ln,pl,dk,q⟩:=h;have ae:sizeLine=16777216:=AK;obtain⟨dx,d1,d2,o,kvs,h1,h2,h3,h4⟩:=R.ex;unfold GE at dk;rw[BZ,BZ]at dk;have hn:=A4 dk.1;have ha:=dk.2.1;have hnd:=A4 dk.2.2;refine⟨_,(Aj (AB (i:=2) scReadDeed.nd (C1 LO Iq Ox Nu (pv 1) (Aa AE Ac))) (Aj (AB (i:=3) scReadDeed.nd (Dk IB (pv 2) (Dh Ah) Di)) (Aj (AQ (AC Gy (Zg (C0 (v:=.ref aP) (by rfl) DD.pm rfl) (Aq Bc (pv 2) Ah (λ_ _=>rfl)) ⟨by rfl,by rfl,by rfl,by rfl⟩) (AV Bp (by rfl) T.len A8 (Aa (pv 3) Ac)) (AD _)) Ci AS) (Aj (AQ (CY (Cs (AV (Q8 rfl) (by rfl) T.all Rb (Aa (CZ (N:=["place", "room"]) (sc:=Av IG) (own:=["place"]) (fr:=["room"]) (js:=[0]) BX rfl (BM (pv 3)) (λ_ _ _ _=>AZ (i:=0) (show List.Nodup (["place", "room"]:List Str) by decide +kernel)) (λ_ _ _ _=>B5) (λ_ _ _ _=>(Fl (Zv K rfl) (pv 0) (Gw (pv 1) L.cl m_places G_places hr1 b_places .nil Ar) (by rfl)))) Ac)))) Ci AS) (Aj (AQ (AC Hz (AV NT (by rfl) T.len A8 (Aa (BW (NS rfl) (by rfl) T.set Lm (Aa (pv 3) Ac)) Ac)) (AV Bp (by rfl) T.len A8 (Aa (pv 3) Ac)) (AD _)) Ci AS) (Ao (AA (pv 2)))))))),?_⟩;refine⟨_,rfl,rfl,_,_,rfl,rfl,by rfl,by lia,λl hl=>?_⟩;refine Nz (a::ps) _ (by show(Txt.split _ Cu).map V.str=_;rw[hw.split]) hl λH1 s1 el=>?_;refine⟨_,rfl,_,rfl,l,_,rfl,SqL.of el,λlp hlp=>?_⟩;have elp:(Ab H1 lp (.lst (Bh ((a::ps).map V.str) (some 1) none))) lp=some (.lst (ps.map V.str)):=by rw[Ag,show((1:Int))=((1:Nat):Int) from rfl,NQ (by simp)];rfl
 have s2:Same H1 (Ab H1 lp (.lst (Bh ((a::ps).map V.str) (some 1) none))):=Same.new hlp;generalize (Ab H1 lp (.lst (Bh ((a::ps).map V.str) (some 1) none)))=H2 at elp s2 ⊢;have s12:=s1.trans s2;have a0:atI ((a::ps).map V.str) ((0:Nat):Int)=some (.str a):=Az rfl;have hpm:(ps.map V.str).length=ps.length:=Ak ..;refine⟨aP,_,rfl,DD.pd,_,rfl,l,_,_,_,rfl,rfl,SqL.of (s2 _ _ el),a0,(Sum.inr a:Af),rfl,_,rfl,_,_,rfl,.inl ⟨_,SqL.of elp,rfl⟩,?_,_,rfl,?_⟩
 ·show PY (CF a) _=true;rcases Y8 a with e | e | e <;> (rw[e];rfl)
 show if (!decide (CF a=V.int ((ps.map V.str).length:Int)))=true then _ else _
 rw[hpm,AR hn];refine AN ?_;refine⟨_,rfl,lp,rfl,⟨_,SqL.of elp⟩,λD hD=>?_⟩
 refine B8 (n:=ps.length) (λi ys H3=>ys=((ps.take i).map λp=>decide (p∈(plc rs).map (·.1))).map V.bl/\Same H2 H3/\H3 D=some (.lst ys)) ⟨rfl,Same.new hD,Ag⟩
  (λi ys H3 hi hh0=>by obtain⟨_,s3,_⟩:=hh0;exact⟨_,.str ps[i],SqL.of (s3 _ _ elp),by simp[hi]⟩) (λys H3 hh0=>by obtain⟨_,s3,_⟩:=hh0;exact⟨_,SqL.of (s3 _ _ elp),by simp⟩) ?_ ?_
 ·rintro i ys H3 y H4 hi ⟨rfl,s3,e3⟩ ⟨rfl,hx⟩;have hx1:=hx _ (SqL.of (s3 _ _ elp));have hx2:y=.str ps[i]:=by rw[AI,AH hi]at hx1;exact(Bs hx1).symm
  subst hx2;refine Ce ?_;have R3:=R.same (s12.trans s3);refine⟨_,rfl,_,rfl,x,dx,_,rfl,(s12.trans s3) _ _ h1,Fg d1 d2 (by decide +kernel) (by decide +kernel),x,rs,rfl,R3,λl4 H5 s5 f5 e5=>?_⟩;refine⟨l4,_,rfl,.inl (SqL.of e5),rfl,flat_strs _,_,s5 _ _ e3,by simp only[Ak,Bu];lia,?_,(s3.trans s5).put hD,Ag⟩;rw[BF hi,Ba,Ba];show _++[V.bl (Fs (V.str ps[i]) (((plc rs).map (·.1)).map V.str))]=_;rw[GC];rfl
 rintro ys H3 ⟨rfl,s3,e3⟩;rw[BP]at e3;have s13:=s12.trans s3;refine⟨D,_,rfl,SqL.of e3,_,rfl,?_⟩;have hall:(ps.map λp=>decide (p∈(plc rs).map (·.1))).all (λb=>b)=ps.all λp=>decide (p∈(plc rs).map (·.1)):=by rw[List.all_map];rfl
 rw[hall,ha];refine AN ?_;have ek:ps.map V.str=(ps.map (Sum.inr:Str->Af)).map kV:=by rw[By];rfl
 refine⟨_,rfl,lp,ps.map Sum.inr,rfl,SqL.of (by rw[<- ek];exact s3 _ _ elp),by rw[Ak];lia,λst hst=>?_⟩;have s4:Same H3 (Ab H3 st (Hk P w st (SK.dd (BV (ps.map (Sum.inr:Str->Af))) (ps.map (Sum.inr:Str->Af)).length).length)):=Same.new hst;refine⟨st,_,rfl,Ag,_,rfl,_,_,rfl,.inl ⟨_,SqL.of (s4 _ _ (s3 _ _ elp)),rfl⟩,_,_,rfl,rfl,_,rfl,?_⟩;refine Bd (λz=>?_) (λ_=>?_)
 ·exfalso;have:=A4 z;rw[PX hnd]at this;lia
 exact⟨_,rfl,q l _ (s13.trans s4) (s4 _ _ (s3 _ _ (s2 _ _ el)))⟩
def bE {f1:Addr} (F:Fun K "hand_fits" "hand_fits" MY f fd)(L:Cl K C)(D_is_free:Df K mg "is_free" Gm Ei f1 d1)(G_is_free:FnOk P w K mg base CX0 1 f1 d1 Ei Hg)
  (b_key_of:Binds K d_key_of ["self", "place"] [])(m_key_of:Dr K C "key_of" f_key_of)(G_key_of:FnOk P w K mg base CX0 2 f_key_of d_key_of ["self", "place"] (Pu C))(b_lidded:Binds K d_lidded ["self", "place"] [])(m_lidded:Dr K C "lidded" f_lidded)(G_lidded:FnOk P w K mg base CX0 2 f_lidded d_lidded ["self", "place"] (Pf C)):FnOk P w K mg base CX0 3 f fd KW (PB C):=by
 refine F.oq X2 λcdv A outer s H vs Q E hr2 h=>?_
 obtain⟨x,rs,v,W,w,p,rfl,R,g,rv,hp,q⟩:=h
 have hr1:Room 1 _:=hr2.mono (by decide)
 obtain⟨dx,d1,d2,o,kvs,h1,h2,h3,h4⟩:=R.ex
 refine⟨_,(Aj (AQ (AC K4 (pv 2) (BQ (Aa AE (Aa AE Ac))) (by rfl)) (Ao (AA (IQ (TR (AW G_is_free hr1 (by rfl) D_is_free.m D_is_free.F.kp D_is_free.b .nil Ar (Aa (pv 1) Ac))) (IP (Fl Bo (Aq AJ (pv 1) Ah (λ_ _=>rfl)) (Nf (pv 0) L.cl m_key_of G_key_of hr2 b_key_of .nil Ar (Aa (pv 3) Ac)) (AD _)))))) AS) (Ao (AA (IQ (AW G_is_free hr1 (by rfl) D_is_free.m D_is_free.F.kp D_is_free.b .nil Ar (Aa (pv 1) Ac)) (IP (Nf (pv 0) L.cl m_lidded G_lidded hr2 b_lidded .nil Ar (Aa (pv 3) Ac))))))),?_⟩
 refine⟨_,rfl,by decide,λtp htp=>?_⟩
 have s0:Same H (Ab H tp (.tup [V.str "lock",V.str "unlock"])):=Same.new htp
 refine⟨tp,_,rfl,.inr (SqT.of Ag),rfl,flat_strs ["lock", "unlock"],_,rfl,?_⟩
 show if Fs (V.str w) ((["lock", "unlock"]:List Str).map V.str)=true then _ else _
 rw[GC]
 generalize Ab H tp (.tup [V.str "lock",V.str "unlock"])=H0 at s0 ⊢
 unfold Em at q
 have rv0:=s0.rd rv
 have R0:=R.same s0
 have h10:=s0 _ _ h1
 by_cases hb:w∈(["lock", "unlock"]:List Str)
 ·rw[As hb]at q;rw[AR hb];refine Bb ?_;refine⟨_,rfl,v,W,rfl,rv0,_,rfl,_,rfl,?_⟩;cases hh:W.hand with
  | none=>rw[hh]at q;refine AN ?_;exact q H0 s0
  | some t=>
   rw[hh]at q;refine Bb ?_;obtain⟨c,v0,hb,cl,xs,ys,rfl,ea,r0,eb,rb,ec,rc⟩:=C2 rv0;have hv0:=Jx r0;subst hv0;have w0:atI [oV W.hand,V.ref hb,V.ref cl] ((0:Nat):Int)=some (oV W.hand):=Az rfl;refine⟨_,rfl,c,_,_,_,rfl,rfl,SqT.of ea,w0,_,rfl,x,dx,_,rfl,h10,Fg d1 d2 (by decide +kernel) (by decide +kernel),_,rfl,x,rs,p,rfl,R0,g,hp,?_,?_⟩
   ·rw[hh];cases p.2.2 <;> rfl
   rw[hh];exact q H0 s0
 rw[Am hb]at q
 rw[BC hb]
 refine AN ?_
 refine⟨_,rfl,v,W,rfl,rv0,_,rfl,?_⟩
 cases hh:W.hand with
 | some t=>rw[hh]at q;refine AN ?_;exact q H0 s0
 | none=>rw[hh]at q;refine Bb ?_;exact⟨_,rfl,x,dx,_,rfl,h10,Fg d1 d2 (by decide +kernel) (by decide +kernel),_,rfl,x,rs,p,rfl,R0,g,hp,q H0 s0⟩
def Z2 (F:Fun K "move_lid" "move_lid" MJ f fd)(DL:Dl P w K mg aL t1 t2 t3 t4)(C_lid_on:Ca P w K mg base CX0 2 "lid_on" Kh IW (Mn C))(C_hand_fits:Ca P w K mg base CX0 3 "hand_fits" MY KW (PB C))(C_changed:Ca P w K mg base CX0 2 "changed" Gq Ey (Hh C)):FnOk P w K mg base CX0 4 f fd KP (Pc C):=by
 refine F.oq scMoveLid λcdv A outer s H vs Q E hr3 h=>?_;obtain⟨x,rs,v,W,w,i,p,hp,l,rfl,R,g,rv,pt,hll,hw,q⟩:=h;have hr2:Room 2 _:=hr3.mono (by decide);have ae:sizeLine=16777216:=AK;obtain⟨t,hv,hT⟩:=DL.got hw;have b0:atI [V.str (EH w),V.str (EG w)] ((0:Nat):Int)=some (.str (EH w)):=Az rfl;have b1:atI [V.str (EH w),V.str (EG w)] ((1:Nat):Int)=some (.str (EG w)):=Az rfl;have hpm:=Bz pt.pl;refine⟨_,(Aj (AB (i:=4) scMoveLid.nd (Aq AJ (TU (C0 (v:=.ref aL) (by rfl) DL.lm rfl) (pv 2) (λ_ _=>rfl)) Ah (λ_ _=>rfl))) (Aj (AB (i:=5) scMoveLid.nd (Aq AJ (TU (C0 (v:=.ref aL) (by rfl) DL.lm rfl) (pv 2) (λ_ _=>rfl)) Ah (λ_ _=>rfl))) (Aj (AQ (PW.pt (CD (AC Gy (A0 C_lid_on hr2 Ar (Aa (pv 0) (Aa (pv 1) (Aa (pv 3) Ac)))) (pv 4) (AD _)) (DU (CY (Cs (A0 C_hand_fits hr3 Ar (Aa (pv 0) (Aa (pv 1) (Aa (pv 2) (Aa (pv 3) Ac)))))))))) (Ao (AA (Bk Ac))) AS) (Ao (AA (Bk (Aa (BQ (Aa (Aq AJ (pv 1) Ah (λ_ _=>rfl)) (Aa (Aq AJ (pv 1) Ah (λ_ _=>rfl)) (Aa (A0 C_changed hr2 Ar (Aa (pv 0) (Aa (Aq AJ (pv 1) Ah (λ_ _=>rfl)) (Aa (pv 3) (Aa (pv 5) Ac))))) Ac)))) Ac))))))),?_⟩;refine⟨_,rfl,aL,_,(Sum.inr w:Af),_,rfl,DL.ld,rfl,hv,t,_,_,_,rfl,rfl,hT H,b0,?_⟩;refine⟨_,rfl,aL,_,(Sum.inr w:Af),_,rfl,DL.ld,rfl,hv,t,_,_,_,rfl,rfl,hT H,b1,?_⟩;refine⟨_,rfl,_,rfl,_,rfl,x,rs,v,W,i,p,l,rfl,R,g,rv,pt.pl,pt.li,λH1 s1=>?_⟩;have none':CN w p W i l=[]->∀H':Hp,Same H H'->∀l':Addr,H' l'=none->Q (.ref l') (Ab H' l' (.lst [])):=λe H' s' l' hl'=>q l' [] _ (s'.trans (Same.new hl')) Ag (by rw[e];exact .nil);refine⟨_,rfl,rfl,_,rfl,?_⟩;by_cases hl:l=EH w
 ·refine NK hl ?_;refine⟨_,rfl,_,rfl,_,rfl,_,rfl,x,rs,v,W,w,p,rfl,R.same s1,g,s1.rd rv,hpm,λH2 s2=>⟨_,rfl,?_⟩⟩;have s12:=s1.trans s2;cases hf:Em W p w with
  | false=>refine Bb ?_;exact⟨A5 _,none' (by unfold CN;rw[Am (λz=>by rw[hf]at z;cases z.2)]) H2 s12⟩
  | true=>
   refine AN ?_;obtain⟨c,v0,hb,cl,xs,ys,rfl,ea,r0,eb,rb,ec,rc⟩:=C2 rv;have hys:=Fi rc;subst hys;have Bx:atI [v0,V.ref hb,V.ref cl] ((0:Nat):Int)=some v0:=Az rfl;have at1:atI [v0,V.ref hb,V.ref cl] ((1:Nat):Int)=some (.ref hb):=Az rfl;have at2:atI [v0,V.ref hb,V.ref cl] ((2:Nat):Int)=some (.ref cl):=Az rfl;have hi:i<(W.lids.map V.str).length:=by rw[Ak];exact(AG.mp pt.li).1
   refine⟨_,rfl,c,_,_,_,rfl,rfl,SqT.of (s12 _ _ ea),Bx,_,rfl,c,_,_,_,rfl,rfl,SqT.of (s12 _ _ ea),at1,_,rfl,_,rfl,c,_,_,_,rfl,rfl,SqT.of (s12 _ _ ea),at2,_,rfl,_,rfl,?_⟩;refine⟨x,rs,cl,_,i,p,.str (EG w),rfl,R.same s12,g,s12 _ _ ec,hi,by rw[Ak];exact hll,pt.pl,λt2 H4 s4 e4=>?_⟩;have s14:=s12.trans s4;refine⟨Bf,λtw htw=>⟨Bf,λlw hlw=>?_⟩⟩;have s5:Same H4 (Ab H4 tw (.tup [v0,.ref hb,.ref t2])):=Same.new htw;have s6:Same (Ab H4 tw (.tup [v0,.ref hb,.ref t2])) (Ab (Ab H4 tw (.tup [v0,.ref hb,.ref t2])) lw (.lst [V.ref tw])):=Same.new hlw;have s46:=s5.trans s6;have sA:=s14.trans s46;refine q lw [.ref tw] _ sA Ag ?_;unfold CN;rw[As ⟨hl,hf⟩];refine .cons (Du (s6 _ _ Ag) (sA.rd r0) (sA _ _ eb) (sA.rds rb) (s46 _ _ e4) ?_) .nil;rw[G0];exact FL i (sA.rds rc) (.str _)
 refine NL hl ?_;refine Bb ?_;exact⟨A5 _,none' (by unfold CN;rw[Am (λz=>hl z.1)]) H1 s1⟩
def bX (F:Fun K "can_put" "can_put" Kt f fd)(C_is_free:Ca P w K mg base CX0 1 "is_free" Gm Ei Hg)(C_is_open:Ca P w K mg base CX0 3 "is_open" Ho EY (Iz C)):FnOk P w K mg base CX0 4 f fd Hy (Mu C):=by
 refine F.oq Ya λcdv A outer s H vs Q E hr3 h=>?_;obtain⟨x,rs,v,W,i,p,l,rfl,R,g,rv,hi,hl,q⟩:=h;have hr1:Room 1 _:=hr3.mono (by decide);refine⟨_,(Ao (AA (IQ (TR (A0 C_is_free hr1 Ar (Aa (pv 1) Ac))) (IP (A0 C_is_open hr3 Ar (Aa (pv 0) (Aa (pv 1) (Aa (pv 2) Ac)))))))),?_⟩;refine⟨_,rfl,v,W,rfl,rv,_,rfl,_,rfl,?_⟩;cases hh:W.hand with
 | none=>rw[hh]at q;exact AN (q H (Same.refl _))
 | some t=>rw[hh]at q;refine Bb ?_;exact⟨_,rfl,_,rfl,_,rfl,x,rs,v,W,i,p,l,rfl,R,g,rv,hi,hl,λH1 s1=>q H1 s1⟩
def aW (F:Fun K "laid" "laid" Ki f fd)(C_heap_in:Ca P w K mg base CX0 2 "heap_in" Hr EZ (IA C))(C_changed:Ca P w K mg base CX0 2 "changed" Gq Ey (Hh C)):FnOk P w K mg base CX0 3 f fd Hw (Mp C):=by
 refine F.oq scLaid λcdv A outer s H vs Q E hr2 h=>?_;obtain⟨x,rs,v,W,i,p,hp,l,t,rfl,R,g,rv,pt,hh,q⟩:=h;have ae:sizeLine=16777216:=AK;have hlen:=pt.len;have hif:=pt.few;have rv':=rv;obtain⟨c,v0,hb,cl,xs,ys,rfl,ea,r0,eb,rb,ec,rc⟩:=C2 rv;have hv0:=Jx r0;subst hv0;have hlb:=rb.length;rw[Ak]at hlb;have hi:i<xs.length:=by have:=(AG.mp pt.he).1;lia
 have hlm:(hp.map V.str).length=hp.length:=Ak ..;have at0':atI [oV W.hand,V.ref hb,V.ref cl] ((0:Nat):Int)=some (.str t):=by rw[hh];exact Az rfl
 have at1:atI [oV W.hand,V.ref hb,V.ref cl] ((1:Nat):Int)=some (.ref hb):=Az rfl;have at2:atI [oV W.hand,V.ref hb,V.ref cl] ((2:Nat):Int)=some (.ref cl):=Az rfl;refine⟨_,(Aj (AB (i:=3) scLaid.nd (Ax EA (A0 C_heap_in hr2 Ar (Aa (pv 0) (Aa (pv 1) (Aa (pv 2) Ac)))) (BQ (Aa (Aq AJ (pv 1) Ah (λ_ _=>rfl)) Ac)))) (Ao (AA (BQ (Aa CG (Aa (A0 C_changed hr2 Ar (Aa (pv 0) (Aa (Aq AJ (pv 1) Ah (λ_ _=>rfl)) (Aa (pv 2) (Aa (pv 3) Ac))))) (Aa (Aq AJ (pv 1) Ah (λ_ _=>rfl)) Ac))))))),?_⟩;refine⟨_,rfl,_,rfl,_,rfl,x,rs,_,W,i,p,hp,rfl,R,g,rv',pt.pl,pt.he,λt1 H1 s1 et=>?_⟩;refine⟨_,rfl,c,_,_,_,rfl,rfl,SqT.of (s1 _ _ ea),at0',Bf,λp2 hp2=>?_⟩;obtain⟨H2,g0,s2,e2⟩:=BD (H:=H1) (o:=.tup [V.str t]) hp2;rw[g0];refine EE (s2 _ _ (s1 _ _ et)) e2 (by rw[hlm];show _+1<=_;lia) λp3 H3 s3 e3=>?_;have s13:=(s1.trans s2).trans s3;refine⟨_,rfl,_,rfl,c,_,_,_,rfl,rfl,SqT.of (s13 _ _ ea),at1,_,rfl,_,rfl,x,rs,hb,xs,i,p,.ref p3,rfl,R.same s13,g,s13 _ _ eb,hi,by lia,pt.pl,λt2 H4 s4 e4=>?_⟩;have s14:=s13.trans s4;refine⟨_,rfl,c,_,_,_,rfl,rfl,SqT.of (s14 _ _ ea),at2,Bf,λtw htw=>?_⟩;have s5:Same H4 (Ab H4 tw (.tup [V.non,.ref t2,.ref cl])):=Same.new htw;refine q (.ref tw) _ (s14.trans s5) (Du Ag .non (s5 _ _ e4) ?_ (s5 _ _ (s14 _ _ ec)) ((s14.trans s5).rds rc));show RdVs _ _ ((W.heaps.set i (W.heaps.getD i []++[t])).map dH);rw[G0,pt.getD];refine FL i ((s14.trans s5).rds rb) (.tup (s5 _ _ (s4 _ _ e3)) ?_);rw[show hp.map V.str++[V.str t]=(hp++[t]).map V.str by simp];exact RdVs.strs _
def ZS (F:Fun K "put" "put" MF f fd)(C_can_put:Ca P w K mg base CX0 4 "can_put" Kt Hy (Mu C))(C_laid:Ca P w K mg base CX0 3 "laid" Ki Hw (Mp C)):FnOk P w K mg base CX0 5 f fd KL (FK C putF):=by
 refine F.oq XJ λcdv A outer s H vs Q E hr4 h=>?_;obtain⟨x,rs,v,W,i,p,hp,l,rfl,R,g,rv,pt,fh,q⟩:=h;have hr3:Room 3 _:=hr4.mono (by decide);have ae:sizeLine=16777216:=AK;have none':putF W i hp l=[]->∀H':Hp,Same H H'->∀l':Addr,H' l'=none->Q (.ref l') (Ab H' l' (.lst [])):=λe H' s' l' hl'=>q l' [] _ (s'.trans (Same.new hl')) (s'.free hl') Ag (by rw[e];exact .nil);refine⟨_,(Ao (AA (Qq (Cs (A0 C_can_put hr4 Ar (Aa (pv 0) (Aa (pv 1) (Aa (pv 2) Ac))))) (Bk (Aa (A0 C_laid hr3 Ar (Aa (pv 0) (Aa (pv 1) (Aa (pv 2) Ac)))) Ac)) (Bk Ac)))),?_⟩;refine⟨_,rfl,_,rfl,_,rfl,x,rs,v,W,i,p,l,rfl,R,g,rv,pt.pl,pt.li,λH1 s1=>⟨_,rfl,?_⟩⟩;cases hh:W.hand with
 | none=>exact AN ⟨A5 _,none' (by unfold putF;rw[hh]) H1 s1⟩
 | some t=>
  by_cases hl:l = "open"
  ·rw[AR hl];refine Bb ?_;refine⟨_,rfl,_,rfl,_,rfl,x,rs,v,W,i,p,hp,l,t,rfl,R.same s1,g,s1.rd rv,pt,hh,λv' H2 s2 rd=>⟨Bf,λlw hlw=>?_⟩⟩;refine q lw [v'] _ ((s1.trans s2).trans (Same.new hlw)) ((s1.trans s2).free hlw) Ag ?_;unfold putF;rw[hh];dsimp only;rw[As hl];exact .cons ((Same.new hlw).rd rd) .nil
  rw[BC hl];refine AN ⟨A5 _,none' ?_ H1 s1⟩;unfold putF;rw[hh];dsimp only;rw[Am hl]
def ZD {f1 f2:Addr} (F:Fun K "toss" "toss" Kc f fd)(L:Cl K C)(b_places:Binds K d_places ["self"] [])(m_places:Dr K C "places" f_places)(G_places:FnOk P w K mg base CX0 1 f_places d_places ["self"] (Gi C))(D_can_put:Df K mg "can_put" Kt Hy f1 d1)(G_can_put:FnOk P w K mg base CX0 4 f1 d1 Hy (Mu C))(D_laid:Df K mg "laid" Ki Hw f2 d2)(G_laid:FnOk P w K mg base CX0 3 f2 d2 Hw (Mp C)):FnOk P w K mg base CX0 5 f fd KF (FK C DM):=by
 refine F.oq scToss λcdv A outer s H vs Q E hr4 h=>?_;obtain⟨x,rs,v,W,i,p,hp,l,rfl,R,g,rv,pt,fh,q⟩:=h;have hr1:Room 1 _:=hr4.mono (by decide);have hr3:Room 3 _:=hr4.mono (by decide);have ae:sizeLine=16777216:=AK;obtain⟨dx,d1,d2,o,kvs,h1,h2,h3,h4⟩:=R.ex;have none':DM W i hp l=[]->∀H':Hp,Same H H'->∀l':Addr,H' l'=none->Q (.ref l') (Ab H' l' (.lst [])):=λe H' s' l' hl'=>q l' [] _ (s'.trans (Same.new hl')) (s'.free hl') Ag (by rw[e];exact .nil);refine⟨_,(Aj (AQ (CY (Cs (AW G_can_put hr4 (by rfl) D_can_put.m D_can_put.F.kp D_can_put.b .nil Ar (Aa (pv 0) (Aa (pv 1) (Aa (pv 2) Ac)))))) (Ao (AA (Bk Ac))) AS) (Aj (AB (i:=3) scToss.nd (Aq Bc (Gw (pv 0) L.cl m_places G_places hr1 b_places .nil Ar) Ah (λ_ _=>rfl))) (Aj (AB (i:=4) scToss.nd (Qq (AC Bo (pv 2) (pv 3) (AD _)) (Bk (Aa (pv 2) Ac)) (Bk (Aa (pv 2) (Aa (pv 3) Ac))))) (Ao (AA (CZ (N:=["end", "room", "world"]) (sc:=Av Kc) (own:=["end"]) (fr:=["room", "world"]) (js:=[0,1]) BX rfl (BM (pv 4)) (λ_ _ _ _=>AZ (i:=0) (show List.Nodup (["end", "room", "world"]:List Str) by decide +kernel)) (λ_ _ _ _=>B5) (λ_ _ _ _=>(AW G_laid hr3 (by rfl) D_laid.m D_laid.F.kp D_laid.b .nil Ar (Aa (pv 1) (Aa (pv 2) (Aa (pv 0) Ac))))))))))),?_⟩;refine⟨_,rfl,_,rfl,_,rfl,x,rs,v,W,i,p,l,rfl,R,g,rv,pt.pl,pt.li,λH1 s1=>⟨_,rfl,?_⟩⟩;cases hh:W.hand with
 | none=>exact Bb ⟨A5 _,none' (by unfold DM;rw[hh]) H1 s1⟩
 | some t=>
  by_cases hl:l = "open"
  ·rw[AR hl];refine AN ?_;have hip:=(AG.mp pt.pl).1;have hih:=(AG.mp pt.he).1;have hil:=(AG.mp pt.li).1;obtain⟨p0,hp0⟩:∃p0,(plc rs)[0]? = some p0:=⟨_,AH (by lia)⟩;have e0:(((plc rs).map (·.1)).map V.str)[0]? = some (.str p0.1):=by rw[AI,AI,hp0];rfl
   obtain⟨h0,l0,pt0⟩:=pt.at' fh hp0 (by lia) (by lia);refine⟨_,rfl,x,dx,_,rfl,s1 _ _ h1,Fg d1 d2 (by decide +kernel) (by decide +kernel),x,rs,rfl,R.same s1,λlp H2 s2 f2 e2=>?_⟩;have s12:=s1.trans s2;refine⟨lp,_,_,_,rfl,rfl,SqL.of e2,Az e0,?_⟩;dsimp only;refine XF (λσ' H'=>∃(le:Addr) (es:List Br),σ'=[some (.ref x),some v,some (.str p.1),some (.str p0.1),some (.ref le)]/\Same H2 H'/\H' le=some (.lst ((es.map (·.1)).map V.str))/\es.length=(CC i).length/\∀(k:Nat) j pk,(CC i)[k]? = some j->es[k]? = some pk->∃hk lk,Pt rs W j pk hk lk) ?_ (λN hN=>?_);rotate_left
   ·refine⟨_,rfl,_,rfl,rfl,_,rfl,?_⟩;by_cases hpp:p.1=p0.1
    ·refine CJ hpp ?_;have hi0:i=0:=Qj g pt.pl hp0 hpp;refine⟨_,rfl,Bf,λle hle=>hN _ _ ⟨le,[p],rfl,Same.new hle,Ag,?_,λk j pk hk hpk=>?_⟩⟩
     ·unfold CC;rw[As hi0];rfl
     unfold CC at hk;rw[As hi0]at hk;have hk0:k=0:=by have:=(AG.mp hpk).1;simp at this;lia
     subst hk0;cases hk;cases hpk;rw[<- hi0];exact⟨hp,l,pt⟩
    refine CK hpp ?_;have hi0:i≠0:=λz=>hpp (by have e9:=pt.pl;rw[z,hp0]at e9;exact BJ (·.1) (Bs e9).symm);refine⟨_,rfl,_,rfl,Bf,λle hle=>hN _ _ ⟨le,[p,p0],rfl,Same.new hle,Ag,?_,λk j pk hk hpk=>?_⟩⟩
    ·unfold CC;rw[Am hi0];rfl
    unfold CC at hk;rw[Am hi0]at hk;have hk2:=(AG.mp hpk).1;simp at hk2;rcases(by lia:k=0\/k=1)with e | e
    ·subst e;cases hk;cases hpk;exact⟨hp,l,pt⟩
    subst e;cases hk;cases hpk;exact⟨h0,l0,pt0⟩
   rintro _ H3 ⟨le,es,rfl,s3,e3,hel,hall⟩;have s13:=s12.trans s3;have hj2:(CC i).length<=2:=by unfold CC;split <;> simp
   have hem:((es.map (·.1)).map V.str).length=(CC i).length:=by rw[Ak,Ak,hel]
   refine⟨_,rfl,le,rfl,⟨_,SqL.of e3⟩,λD hD=>?_⟩
   refine B8 (n:=(CC i).length) (λk ys H4=>RdVs H4 ys (((CC i).take k).map λj=>dW (E3 t W j))/\ys.length=k/\Same H3 H4/\H4 D=some (.lst ys)) ⟨.nil,rfl,Same.new hD,Ag⟩
    (λk ys H4 hk ⟨_,_,s4,_⟩=>⟨_,((es.map (·.1)).map V.str)[k]'(by lia),SqL.of (s4 _ _ e3),AH (by lia)⟩) (λys H4 hh0=>by obtain⟨_,_,s4,_⟩:=hh0;exact⟨_,SqL.of (s4 _ _ e3),by lia⟩) ?_ ?_
   ·rintro k ys H4o y H4 hk ⟨hrd,hyl,s4,e4⟩ ⟨rfl,hx⟩;have hx1:=hx _ (SqL.of (s4 _ _ e3));have hke:k<es.length:=by lia
    have hx2:y=.str es[k].1:=by rw[AI,AI,AH hke]at hx1;exact(Bs hx1).symm
    subst hx2;obtain⟨hk',lk',ptk⟩:=hall k (CC i)[k] es[k] (AH hk) (AH hke);refine Ce ?_;have s14:=s13.trans s4;refine⟨_,rfl,_,rfl,_,rfl,x,rs,v,W,(CC i)[k],es[k],hk',lk',t,rfl,R.same s14,g,s14.rd rv,ptk,hh,λv' H6 s6 r6=>?_⟩;refine⟨_,s6 _ _ e4,by lia,?_,by simp[hyl],(s4.trans s6).put hD,Ag⟩;rw[BF hk,Ba];have kp:∀b us,H6 b=some (.tup us)->(Ab H6 D (.lst (ys++[v']))) b=some (.tup us):=λb us e=>by rw[Ai (A7 e (s6 _ _ e4) (by intro z;cases z))];exact e
    exact((s6.rds hrd).same kp).append (.cons (r6.same kp) .nil)
   rintro ys H4 ⟨hrd,hyl,s4,e4⟩;rw[BP]at hrd;refine q D ys H4 (s13.trans s4) (s13.free hD) e4 ?_;unfold DM;rw[hh];dsimp only;rw[As hl,By];exact hrd
  rw[BC hl];refine Bb ⟨A5 _,none' ?_ H1 s1⟩;unfold DM;rw[hh];dsimp only;rw[Am hl]
def ZG {f1 f2 f3 f4:Addr} (F:Fun K "take" "take" Mx f fd)(T:Bl mg)(D_heap_in:Df K mg "heap_in" Hr EZ f1 d1)(D_is_free:Df K mg "is_free" Gm Ei f2 d2)(D_is_open:Df K mg "is_open" Ho EY f3 d3)(D_changed:Df K mg "changed" Gq Ey f4 d4)
  (G_heap_in:FnOk P w K mg base CX0 2 f1 d1 EZ (IA C))(G_is_free:FnOk P w K mg base CX0 1 f2 d2 Ei Hg)(G_is_open:FnOk P w K mg base CX0 3 f3 d3 EY (Iz C))(G_changed:FnOk P w K mg base CX0 2 f4 d4 Ey (Hh C)):FnOk P w K mg base CX0 4 f fd KH (FK C Dv):=by
 refine F.oq scTake λcdv A outer s H vs Q E hr3 h=>?_
 obtain⟨x,rs,v,W,i,p,hp,l,rfl,R,g,rv,pt,fh,q⟩:=h
 have hr1:Room 1 _:=hr3.mono (by decide)
 have hr2:Room 2 _:=hr3.mono (by decide)
 have ae:sizeLine=16777216:=AK
 have hlen:=pt.len
 have none':Dv W i hp l=[]->∀H':Hp,Same H H'->∀l':Addr,H' l'=none->Q (.ref l') (Ab H' l' (.lst [])):=λe H' s' l' hl'=>q l' [] _ (s'.trans (Same.new hl')) (s'.free hl') Ag (by rw[e];exact .nil)
 refine⟨_,(Aj (AB (i:=3) scTake.nd (AW G_heap_in hr2 (by rfl) D_heap_in.m D_heap_in.F.kp D_heap_in.b .nil Ar (Aa (pv 0) (Aa (pv 1) (Aa (pv 2) Ac))))) (Aj (AQ (PW.pt (CD (CY (Cs (AW G_is_free hr1 (by rfl) D_is_free.m D_is_free.F.kp D_is_free.b .nil Ar (Aa (pv 1) Ac)))) (CD (CY (Cs (AW G_is_open hr3 (by rfl) D_is_open.m D_is_open.F.kp D_is_open.b .nil Ar (Aa (pv 0) (Aa (pv 1) (Aa (pv 2) Ac)))))) (DU (AC Bo (AV Bp (by rfl) T.len A8 (Aa (pv 3) Ac)) Ah (AD _)))))) (Ao (AA (Bk Ac))) AS) (Ao (AA (Bk (Aa (BQ (Aa (Aq AJ (pv 3) (EX EU Ah) (λ_ _=>rfl)) (Aa (AW G_changed hr2 (by rfl) D_changed.m D_changed.F.kp D_changed.b .nil Ar (Aa (pv 0) (Aa (Aq AJ (pv 1) Ah (λ_ _=>rfl)) (Aa (pv 2) (Aa (Dk Ff (pv 3) Di (Dh (EX EU Ah))) Ac))))) (Aa (Aq AJ (pv 1) Ah (λ_ _=>rfl)) Ac)))) Ac)))))),?_⟩
 refine⟨_,rfl,_,rfl,_,rfl,x,rs,v,W,i,p,hp,rfl,R,g,rv,pt.pl,pt.he,λt H1 s1 et=>?_⟩
 refine⟨_,rfl,v,W,rfl,s1.rd rv,_,rfl,?_⟩
 cases hh:W.hand with
 | some tt=>refine Bb (Bb ?_);exact⟨A5 _,none' (by unfold Dv;rw[Am (λz=>by rw[hh]at z;cases z.1)]) H1 s1⟩
 | none=>
  refine AN ?_;refine⟨_,rfl,_,rfl,_,rfl,x,rs,v,W,i,p,l,rfl,R.same s1,g,s1.rd rv,pt.pl,pt.li,λH2 s2=>⟨_,rfl,?_⟩⟩;have s12:=s1.trans s2;by_cases hl:l = "open"
  ·rw[AR hl];refine AN ?_;have et2:=s12 _ _ et;refine⟨_,rfl,_,_,rfl,.inr ⟨_,SqT.of et2,rfl⟩,rfl,_,rfl,?_⟩;cases hl0:hp.getLast? with
   | none=>have hn:hp=[]:=RV.mp hl0;subst hn;refine Bb ?_;exact⟨A5 _,none' (by unfold Dv;rw[Am (λz=>z.2.2 rfl)]) H2 s12⟩
   | some y=>
    have hne:hp≠[]:=λe=>by rw[e]at hl0;cases hl0
    have hpos:=Io.mpr hne;have hlm:(hp.map V.str).length=hp.length:=Ak ..;refine Bd (λz=>?_) (λ_=>?_)
    ·exfalso;have:=V.int.inj (A4 z);lia
    obtain⟨c,v0,hb,cl,xs,ys,rfl,ea,r0,eb,rb,ec,rc⟩:=C2 rv;have hlb:=rb.length;rw[Ak]at hlb;have hif:=pt.few;have hi:i<xs.length:=by have:=(AG.mp pt.he).1;lia
    have at1:atI [v0,V.ref hb,V.ref cl] ((1:Nat):Int)=some (.ref hb):=Az rfl;have at2:atI [v0,V.ref hb,V.ref cl] ((2:Nat):Int)=some (.ref cl):=Az rfl;have cut:Bh (hp.map V.str) none (some (-1))=(hp.dropLast).map V.str:=by unfold Bh;rw[HT.sIx_none,FA,Gc,MX,hlm,<- DH,List.dropLast_eq_take]
    refine⟨_,rfl,_,rfl,t,_,_,_,rfl,rfl,SqT.of et2,VP (by rw[List.getLast?_map,hl0];rfl),?_⟩;refine⟨_,rfl,_,rfl,c,_,_,_,rfl,rfl,SqT.of (s12 _ _ ea),at1,_,rfl,_,rfl,_,rfl,?_⟩;refine⟨_,rfl,t,_,rfl,SqT.of et2,?_,λp1 hp1=>?_⟩
    ·rw[HT.sIx_none,MX];lia
    rw[cut];obtain⟨H3,g0,s3,e3⟩:=BD (H:=H2) (o:=.tup ((hp.dropLast).map V.str)) hp1;rw[g0];have s13:=s12.trans s3;refine⟨x,rs,hb,xs,i,p,.ref p1,rfl,R.same s13,g,s13 _ _ eb,hi,by lia,pt.pl,λt2 H4 s4 e4=>?_⟩;have s14:=s13.trans s4;refine⟨_,rfl,c,_,_,_,rfl,rfl,SqT.of (s14 _ _ ea),at2,Bf,λtw htw=>⟨Bf,λlw hlw=>?_⟩⟩;have s5:Same H4 (Ab H4 tw (.tup [V.str y,.ref t2,.ref cl])):=Same.new htw;have s6:Same (Ab H4 tw (.tup [V.str y,.ref t2,.ref cl])) (Ab (Ab H4 tw (.tup [V.str y,.ref t2,.ref cl])) lw (.lst [V.ref tw])):=Same.new hlw;have s46:=s5.trans s6;refine q lw [.ref tw] _ (s14.trans s46) ((s14.trans s5).free hlw) Ag ?_;unfold Dv;rw[As ⟨hh,hl,hne⟩,hl0];refine .cons (Du (s6 _ _ Ag) (.str y) (s46 _ _ e4) ?_ (s46 _ _ (s14 _ _ ec)) ((s14.trans s46).rds rc)) .nil;rw[G0];exact FL i ((s14.trans s46).rds rb) (.tup (s46 _ _ (s4 _ _ e3)) (RdVs.strs _))
  rw[BC hl];refine Bb (Bb ?_);exact⟨A5 _,none' (by unfold Dv;rw[Am (λz=>hl z.2.1)]) H2 s12⟩
def ZH {f1 f2 f3 f4:Addr} (F:Fun K "shake" "shake" My f fd)(T:Bl mg)(D_heap_in:Df K mg "heap_in" Hr EZ f1 d1)(D_is_free:Df K mg "is_free" Gm Ei f2 d2)(D_is_open:Df K mg "is_open" Ho EY f3 d3)(D_changed:Df K mg "changed" Gq Ey f4 d4)
  (G_heap_in:FnOk P w K mg base CX0 2 f1 d1 EZ (IA C))(G_is_free:FnOk P w K mg base CX0 1 f2 d2 Ei Hg)(G_is_open:FnOk P w K mg base CX0 3 f3 d3 EY (Iz C))(G_changed:FnOk P w K mg base CX0 2 f4 d4 Ey (Hh C)):FnOk P w K mg base CX0 4 f fd KI (FK C Dw):=by
 refine F.oq scShake λcdv A outer s H vs Q E hr3 h=>?_
 obtain⟨x,rs,v,W,i,p,hp,l,rfl,R,g,rv,pt,fh,q⟩:=h
 have hr1:Room 1 _:=hr3.mono (by decide)
 have hr2:Room 2 _:=hr3.mono (by decide)
 have ae:sizeLine=16777216:=AK
 have hlen:=pt.len
 have hif:=pt.few
 have rv':=rv
 have hlm:(hp.map V.str).length=hp.length:=Ak ..
 have none':Dw W i hp l=[]->∀H':Hp,Same H H'->∀l':Addr,H' l'=none->Q (.ref l') (Ab H' l' (.lst [])):=λe H' s' l' hl'=>q l' [] _ (s'.trans (Same.new hl')) (s'.free hl') Ag (by rw[e];exact .nil)
 refine⟨_,(Aj (AB (i:=3) scShake.nd (AW G_heap_in hr2 (by rfl) D_heap_in.m D_heap_in.F.kp D_heap_in.b .nil Ar (Aa (pv 0) (Aa (pv 1) (Aa (pv 2) Ac))))) (Aj (AQ (PW.pt (CD (CY (Cs (AW G_is_free hr1 (by rfl) D_is_free.m D_is_free.F.kp D_is_free.b .nil Ar (Aa (pv 1) Ac)))) (CD (Cs (AW G_is_open hr3 (by rfl) D_is_open.m D_is_open.F.kp D_is_open.b .nil Ar (Aa (pv 0) (Aa (pv 1) (Aa (pv 2) Ac))))) (DU (AC Hz (AV Bp (by rfl) T.len A8 (Aa (pv 3) Ac)) Ah (AD _)))))) (Ao (AA (Bk Ac))) AS) (Aj (AB (i:=4) scShake.nd (Ax EA (Dk Ff (pv 3) Di (Dh (EX EU Ah))) (BQ (Aa (Aq AJ (pv 3) (EX EU Ah) (λ_ _=>rfl)) (Aa (Aq AJ (pv 3) (EX EU Ah) (λ_ _=>rfl)) Ac))))) (Ao (AA (Bk (Aa (pv 1) (Aa (BQ (Aa CG (Aa (AW G_changed hr2 (by rfl) D_changed.m D_changed.F.kp D_changed.b .nil Ar (Aa (pv 0) (Aa (Aq AJ (pv 1) Ah (λ_ _=>rfl)) (Aa (pv 2) (Aa (pv 4) Ac))))) (Aa (Aq AJ (pv 1) Ah (λ_ _=>rfl)) Ac)))) Ac)))))))),?_⟩
 refine⟨_,rfl,_,rfl,_,rfl,x,rs,v,W,i,p,hp,rfl,R,g,rv,pt.pl,pt.he,λt H1 s1 et=>?_⟩
 refine⟨_,rfl,v,W,rfl,s1.rd rv,_,rfl,?_⟩
 cases hh:W.hand with
 | some tt=>refine Bb (Bb ?_);exact⟨A5 _,none' (by unfold Dw;rw[Am (λz=>by rw[hh]at z;cases z.1)]) H1 s1⟩
 | none=>
  refine AN ?_;refine⟨_,rfl,_,rfl,_,rfl,x,rs,v,W,i,p,l,rfl,R.same s1,g,s1.rd rv,pt.pl,pt.li,λH2 s2=>⟨_,rfl,?_⟩⟩;have s12:=s1.trans s2;by_cases hl:l = "open"
  ·rw[AR hl];refine Bb (Bb ?_);exact⟨A5 _,none' (by unfold Dw;rw[Am (λz=>z.2.1 hl)]) H2 s12⟩
  rw[BC hl];refine AN ?_;have et2:=s12 _ _ et;refine⟨_,rfl,_,_,rfl,.inr ⟨_,SqT.of et2,rfl⟩,_,_,rfl,rfl,_,rfl,?_⟩;refine Bd (λz=>?_) (λz=>?_)
  ·have z':=A4 z;exact⟨A5 _,none' (by unfold Dw;rw[Am (λy=>by lia)]) H2 s12⟩
  have h2:2<=hp.length:=by have:=of_decide_eq_false (Rx.mpr z);lia
  obtain⟨r,b,a,hr⟩:=Sr h2;subst hr;obtain⟨c,v0,hb,cl,xs,ys,rfl,ea,r0,eb,rb,ec,rc⟩:=C2 rv;have hlb:=rb.length;rw[Ak]at hlb;have hi:i<xs.length:=by have:=(AG.mp pt.he).1;lia
  have at1:atI [v0,V.ref hb,V.ref cl] ((1:Nat):Int)=some (.ref hb):=Az rfl;have at2:atI [v0,V.ref hb,V.ref cl] ((2:Nat):Int)=some (.ref cl):=Az rfl;have em:(r++[b,a]).map V.str=r.map V.str++[V.str b,V.str a]:=by simp
  have em':(r++[b,a]).map V.str=(r.map V.str++[V.str b])++[V.str a]:=by simp
  have cut:Bh ((r++[b,a]).map V.str) none (some (-2))=r.map V.str:=by
   unfold Bh;rw[HT.sIx_none,FA,Gc,MW,em];have e:(r.map V.str++[V.str b,V.str a]).length-2=(r.map V.str).length:=by simp
   rw[e,N9]
  have hrl:(r++[b,a]).length=r.length+2:=by simp
  refine⟨_,rfl,_,rfl,_,rfl,t,_,rfl,SqT.of et2,?_,λp1 hp1=>?_⟩
  ·rw[HT.sIx_none,MW];lia
  rw[cut];obtain⟨H3,g0,s3,e3⟩:=BD (H:=H2) (o:=.tup (r.map V.str)) hp1;rw[g0];have et3:=s3 _ _ et2;have am1:atI ((r++[b,a]).map V.str) (-1)=some (.str a):=by rw[em'];exact Re _ _
  have am2:atI ((r++[b,a]).map V.str) (-2)=some (.str b):=by rw[em];exact VQ _ _ _
  refine⟨_,rfl,_,rfl,t,_,_,_,rfl,rfl,SqT.of et3,am1,_,rfl,_,rfl,t,_,_,_,rfl,rfl,SqT.of et3,am2,Bf,λp2 hp2=>?_⟩;obtain⟨H4,g0,s4,e4⟩:=BD (H:=H3) (o:=.tup [V.str a,V.str b]) hp2;rw[g0];refine EE (s4 _ _ e3) e4 (by rw[Ak];show _+2<=_;lia) λp3 H5 s5 e5=>?_;have s15:=s12.trans (s3.trans (s4.trans s5));refine⟨_,rfl,_,rfl,_,rfl,c,_,_,_,rfl,rfl,SqT.of (s15 _ _ ea),at1,_,rfl,_,rfl,x,rs,hb,xs,i,p,.ref p3,rfl,R.same s15,g,s15 _ _ eb,hi,by lia,pt.pl,λt2 H6 s6 e6=>?_⟩;have s16:=s15.trans s6;refine⟨_,rfl,c,_,_,_,rfl,rfl,SqT.of (s16 _ _ ea),at2,Bf,λtw htw=>⟨Bf,λlw hlw=>?_⟩⟩;have s7:Same H6 (Ab H6 tw (.tup [V.non,.ref t2,.ref cl])):=Same.new htw;have s8:Same (Ab H6 tw (.tup [V.non,.ref t2,.ref cl])) (Ab (Ab H6 tw (.tup [V.non,.ref t2,.ref cl])) lw (.lst [V.ref c,V.ref tw])):=Same.new hlw;have s78:=s7.trans s8;have sA:=s16.trans s78;refine q lw [.ref c,.ref tw] _ sA ((s16.trans s7).free hlw) Ag ?_;unfold Dw;rw[As ⟨hh,hl,h2⟩,SQ];refine .cons (sA.rd rv') (.cons (Du (s8 _ _ Ag) .non (s78 _ _ e6) ?_ (s78 _ _ (s16 _ _ ec)) (sA.rds rc)) .nil);show RdVs _ _ ((W.heaps.set i (r++[a,b])).map dH);rw[G0];refine FL i (sA.rds rb) (.tup (s78 _ _ (s6 _ _ e5)) ?_);rw[show r.map V.str++[V.str a,V.str b]=(r++[a,b]).map V.str by simp];exact RdVs.strs _
def ZE {f1 f2 f3 f4:Addr} (F:Fun K "tip" "tip" Mw f fd)(T:Bl mg)(D_heap_in:Df K mg "heap_in" Hr EZ f1 d1)(D_is_free:Df K mg "is_free" Gm Ei f2 d2)(D_is_open:Df K mg "is_open" Ho EY f3 d3)(D_changed:Df K mg "changed" Gq Ey f4 d4)
  (G_heap_in:FnOk P w K mg base CX0 2 f1 d1 EZ (IA C))(G_is_free:FnOk P w K mg base CX0 1 f2 d2 Ei Hg)(G_is_open:FnOk P w K mg base CX0 3 f3 d3 EY (Iz C))(G_changed:FnOk P w K mg base CX0 2 f4 d4 Ey (Hh C)):FnOk P w K mg base CX0 4 f fd KG (OX C):=by
 refine F.oq scTip λcdv A outer s H vs Q E hr3 h=>?_
 obtain⟨x,rs,v,W,i,p,hp,l,j,pj,hq,lq,rfl,R,g,rv,pt,pq,q⟩:=h
 have hr1:Room 1 _:=hr3.mono (by decide)
 have hr2:Room 2 _:=hr3.mono (by decide)
 have ae:sizeLine=16777216:=AK
 have hlen:=pt.len
 have hlenq:=pq.len
 have hif:=pt.few
 have rv':=rv
 have hlm:(hp.map V.str).length=hp.length:=Ak ..
 have none':DO W i hp l j hq lq=[]->∀H':Hp,Same H H'->∀l':Addr,H' l'=none->Q (.ref l') (Ab H' l' (.lst [])):=λe H' s' l' hl'=>q l' [] _ (s'.trans (Same.new hl')) (s'.free hl') Ag (by rw[e];exact .nil)
 refine⟨_,(Aj (AB (i:=4) scTip.nd (AW G_heap_in hr2 (by rfl) D_heap_in.m D_heap_in.F.kp D_heap_in.b .nil Ar (Aa (pv 0) (Aa (pv 1) (Aa (pv 2) Ac))))) (Aj (AQ (PW.pt (CD (CY (Cs (AW G_is_free hr1 (by rfl) D_is_free.m D_is_free.F.kp D_is_free.b .nil Ar (Aa (pv 1) Ac)))) (CD (CY (Cs (AW G_is_open hr3 (by rfl) D_is_open.m D_is_open.F.kp D_is_open.b .nil Ar (Aa (pv 0) (Aa (pv 1) (Aa (pv 2) Ac)))))) (CD (CY (Cs (AW G_is_open hr3 (by rfl) D_is_open.m D_is_open.F.kp D_is_open.b .nil Ar (Aa (pv 0) (Aa (pv 1) (Aa (pv 3) Ac)))))) (DU (AC Bo (AV Bp (by rfl) T.len A8 (Aa (pv 4) Ac)) Ah (AD _))))))) (Ao (AA (Bk Ac))) AS) (Aj (AB (i:=5) scTip.nd (Ax EA (AW G_heap_in hr2 (by rfl) D_heap_in.m D_heap_in.F.kp D_heap_in.b .nil Ar (Aa (pv 0) (Aa (pv 1) (Aa (pv 3) Ac)))) (Zf rfl (by rfl) T.tuple EF (by rfl) T.reversed nL (Aa (pv 4) Ac)))) (Aj (AB (i:=6) scTip.nd (AW G_changed hr2 (by rfl) D_changed.m D_changed.F.kp D_changed.b .nil Ar (Aa (pv 0) (Aa (AW G_changed hr2 (by rfl) D_changed.m D_changed.F.kp D_changed.b .nil Ar (Aa (pv 0) (Aa (Aq AJ (pv 1) Ah (λ_ _=>rfl)) (Aa (pv 2) (Aa (BQ Ac) Ac))))) (Aa (pv 3) (Aa (pv 5) Ac)))))) (Ao (AA (Bk (Aa (BQ (Aa CG (Aa (pv 6) (Aa (Aq AJ (pv 1) Ah (λ_ _=>rfl)) Ac)))) Ac)))))))),?_⟩
 refine⟨_,rfl,_,rfl,_,rfl,x,rs,v,W,i,p,hp,rfl,R,g,rv,pt.pl,pt.he,λt H1 s1 et=>?_⟩
 refine⟨_,rfl,v,W,rfl,s1.rd rv,_,rfl,?_⟩
 cases hh:W.hand with
 | some tt=>refine Bb (Bb ?_);exact⟨A5 _,none' (by unfold DO;rw[Am (λz=>by rw[hh]at z;cases z.1)]) H1 s1⟩
 | none=>
  refine AN ?_;refine⟨_,rfl,_,rfl,_,rfl,x,rs,v,W,i,p,l,rfl,R.same s1,g,s1.rd rv,pt.pl,pt.li,λH2 s2=>⟨_,rfl,?_⟩⟩;have s12:=s1.trans s2;by_cases hl:l = "open"
  ·rw[AR hl];refine AN ?_;refine⟨_,rfl,_,rfl,_,rfl,x,rs,v,W,j,pj,lq,rfl,R.same s12,g,s12.rd rv,pq.pl,pq.li,λH3 s3=>⟨_,rfl,?_⟩⟩;have s13:=s12.trans s3;by_cases hlq:lq = "open"
   ·rw[AR hlq];refine AN ?_;have et3:=s13 _ _ et;refine⟨_,rfl,_,_,rfl,.inr ⟨_,SqT.of et3,rfl⟩,rfl,_,rfl,?_⟩;by_cases hne:hp=[]
    ·subst hne;refine Bb ?_;exact⟨A5 _,none' (by unfold DO;rw[Am (λz=>z.2.2.2 rfl)]) H3 s13⟩
    refine Bd (λz=>?_) (λ_=>?_)
    ·exfalso;have:=V.int.inj (A4 z);have:=Io.mpr hne;lia
    obtain⟨c,v0,hb,cl,xs,ys,rfl,ea,r0,eb,rb,ec,rc⟩:=C2 rv;have hlb:=rb.length;rw[Ak]at hlb;have hi:i<xs.length:=by have:=(AG.mp pt.he).1;lia
    have hj:j<xs.length:=by have:=(AG.mp pq.he).1;lia
    have at1:atI [v0,V.ref hb,V.ref cl] ((1:Nat):Int)=some (.ref hb):=Az rfl;have at2:atI [v0,V.ref hb,V.ref cl] ((2:Nat):Int)=some (.ref cl):=Az rfl;refine⟨_,rfl,_,rfl,_,rfl,x,rs,_,W,j,pj,hq,rfl,R.same s13,g,s13.rd rv',pq.pl,pq.he,λt5 H4 s4 et5=>?_⟩;have s14:=s13.trans s4;refine⟨_,rfl,t,_,rfl,SqT.of (s14 _ _ et),(λz=>hne (List.map_eq_nil_iff.mp z)),λp1 hp1=>?_⟩;obtain⟨H5,g0,s5,e5⟩:=BD (H:=H4) (o:=.tup (hp.map V.str).reverse) hp1;rw[g0];refine EE (s5 _ _ (s4 _ _ et5)) e5 (by rw[Ip,Ak,Ak];lia) λp3 H6 s6 e6=>?_;have s16:=s14.trans (s5.trans s6);refine⟨_,rfl,_,rfl,_,rfl,c,_,_,_,rfl,rfl,SqT.of (s16 _ _ ea),at1,_,rfl,A5 _,λp4 hp4=>?_⟩;obtain⟨H7,g0,s7,e7⟩:=BD (H:=H6) (o:=.tup []) hp4;rw[g0];have s17:=s16.trans s7;refine⟨x,rs,hb,xs,i,p,.ref p4,rfl,R.same s17,g,s17 _ _ eb,hi,by lia,pt.pl,λt6 H8 s8 e8=>?_⟩;have s18:=s17.trans s8;refine⟨_,rfl,_,rfl,x,rs,t6,_,j,pj,.ref p3,rfl,R.same s18,g,e8,by rw[E8];lia,by rw[E8];lia,pq.pl,λt7 H9 s9 e9=>?_⟩;have s19:=s18.trans s9;refine⟨_,rfl,_,rfl,c,_,_,_,rfl,rfl,SqT.of (s19 _ _ ea),at2,Bf,λtw htw=>⟨Bf,λlw hlw=>?_⟩⟩;have sB:Same H9 (Ab H9 tw (.tup [V.non,.ref t7,.ref cl])):=Same.new htw;have sC:Same (Ab H9 tw (.tup [V.non,.ref t7,.ref cl])) (Ab (Ab H9 tw (.tup [V.non,.ref t7,.ref cl])) lw (.lst [V.ref tw])):=Same.new hlw;have sBC:=sB.trans sC;have sA:=s19.trans sBC;refine q lw [.ref tw] _ sA ((s19.trans sB).free hlw) Ag ?_;unfold DO;rw[As ⟨hh,hl,hlq,hne⟩];refine .cons (Du (sC _ _ Ag) .non (sBC _ _ e9) ?_ (sBC _ _ (s19 _ _ ec)) (sA.rds rc)) .nil;show RdVs _ _ (((W.heaps.set i []).set j (hq++hp.reverse)).map dH);rw[G0,G0];have s89:=(s8.trans s9).trans sBC;refine FL j (FL i (sA.rds rb) (.tup (s89 _ _ e7) .nil)) (.tup (s89 _ _ (s7 _ _ e6)) ?_);rw[show hq.map V.str++(hp.map V.str).reverse=(hq++hp.reverse).map V.str by simp];exact RdVs.strs _
   rw[BC hlq];refine Bb (Bb ?_);exact⟨A5 _,none' (by unfold DO;rw[Am (λz=>hlq z.2.2.1)]) H3 s13⟩
  rw[BC hl];refine Bb (Bb ?_);exact⟨A5 _,none' (by unfold DO;rw[Am (λz=>hl z.2.1)]) H2 s12⟩
def Z3 (F:Fun K "move_things" "move_things" MI f fd)(C_take:Ca P w K mg base CX0 4 "take" Mx KH (FK C Dv))(C_put:Ca P w K mg base CX0 5 "put" MF KL (FK C putF))(C_toss:Ca P w K mg base CX0 5 "toss" Kc KF (FK C DM))(C_shake:Ca P w K mg base CX0 4 "shake" My KI (FK C Dw)):FnOk P w K mg base CX0 6 f fd KO (Pb C):=by
 refine F.oq XO λcdv A outer s H vs Q E hr5 h=>?_;obtain⟨x,rs,v,W,w,i,p,hp,l,rfl,R,g,rv,pt,fh,q⟩:=h;have hr4:Room 4 _:=hr5.mono (by decide);refine⟨_,(Aj (AQ (AC Bo (pv 2) AE (AD _)) (Ao (AA (A0 C_take hr4 Ar (Aa (pv 0) (Aa (pv 1) (Aa (pv 3) Ac)))))) AS) (Aj (AQ (AC Bo (pv 2) AE (AD _)) (Ao (AA (A0 C_put hr5 Ar (Aa (pv 0) (Aa (pv 1) (Aa (pv 3) Ac)))))) AS) (Aj (AQ (AC Bo (pv 2) AE (AD _)) (Ao (AA (A0 C_toss hr5 Ar (Aa (pv 0) (Aa (pv 1) (Aa (pv 3) Ac)))))) AS) (Ao (AA (A0 C_shake hr4 Ar (Aa (pv 0) (Aa (pv 1) (Aa (pv 3) Ac))))))))),?_⟩;unfold FX at q;refine⟨_,rfl,rfl,_,rfl,?_⟩;by_cases h1:w = "take"
 ·rw[As h1]at q;exact CJ h1 ⟨_,rfl,_,rfl,_,rfl,x,rs,v,W,i,p,hp,l,rfl,R,g,rv,pt,fh,q⟩
 rw[Am h1]at q;refine CK h1 ?_;refine⟨_,rfl,rfl,_,rfl,?_⟩;by_cases h2:w = "put"
 ·rw[As h2]at q;exact CJ h2 ⟨_,rfl,_,rfl,_,rfl,x,rs,v,W,i,p,hp,l,rfl,R,g,rv,pt,fh,q⟩
 rw[Am h2]at q;refine CK h2 ?_;refine⟨_,rfl,rfl,_,rfl,?_⟩;by_cases h3:w = "toss"
 ·rw[As h3]at q;exact CJ h3 ⟨_,rfl,_,rfl,_,rfl,x,rs,v,W,i,p,hp,l,rfl,R,g,rv,pt,fh,q⟩
 rw[Am h3]at q;refine CK h3 ?_;exact⟨_,rfl,_,rfl,_,rfl,x,rs,v,W,i,p,hp,l,rfl,R,g,rv,pt,fh,q⟩
def Lj (x y:Str):PyData.eqv (.str x) (.str y)=decide (x=y):=by
 rw[PyData.eqv];by_cases h:x=y
 ·simp[h]
 simp[h]
theorem Lk {α:Type}[DecidableEq α]{g:α->PyData}(hg:∀a b,PyData.eqv (g a) (g b)=decide (a=b)):∀xs ys:List α,PyData.eqvAll (xs.map g) (ys.map g)=decide (xs=ys)
 | [],[]=>by(simp[PyData.eqvAll])
 | [],_::_=>by(simp[PyData.eqvAll])
 | _::_,[]=>by(simp[PyData.eqvAll])
 | x::xs,y::ys=>by rw[A9,A9,PyData.eqvAll,hg,Lk hg xs ys,<- Rp];simp
def QT {α:Type}[DecidableEq α]{g:α->PyData}(hg:∀a b,PyData.eqv (g a) (g b)=decide (a=b))(xs ys:List α):PyData.eqv (.tuple (xs.map g)) (.tuple (ys.map g))=decide (xs=ys):=by rw[PyData.eqv,Lk hg]
def lP (xs ys:List Str):PyData.eqv (dH xs) (dH ys)=decide (xs=ys):=QT Lj xs ys
theorem lJ:∀a b:Option Str,PyData.eqv (dO a) (dO b)=decide (a=b)
 | none,none=>by simp[dO,PyData.eqv]
 | none,some _=>by simp[dO,PyData.eqv]
 | some _,none=>by simp[dO,PyData.eqv]
 | some x,some y=>by show PyData.eqv (.str x) (.str y)=_;rw[Lj];simp
def U6 (a b:Wl):PyData.eqv (dW a) (dW b)=decide (a=b):=by unfold dW;rw[PyData.eqv,PyData.eqvAll,PyData.eqvAll,PyData.eqvAll,PyData.eqvAll,lJ,QT lP,QT Lj,Bool.and_true,<- Rp,<- Rp];obtain⟨a1,a2,a3⟩:=a;obtain⟨b1,b2,b3⟩:=b;simp
theorem VT (W:Wl):∀Ws:List Wl,((Ws.map dW).any λe=>PyData.eqv e (dW W))=decide (W∈Ws)
 | []=>rfl
 | V::Ws=>by
  rw[A9,JH,VT W Ws,U6];by_cases h:V=W
  ·subst h;simp
  have h':¬W=V:=λe=>h e.symm;simp[h,h']
def Vj (W:Wl):(dW W).depth<=3:=by
 have d1:(dO W.hand).depth<=0:=by
  cases W.hand with
  | none=>rw[dO,PyData.depth];exact Au 0
  | some x=>rw[dO,PyData.depth];exact Au 0
 have d2:=HX (g:=dH) (n:=1) (xs:=W.heaps) λx _=>Vk x;have d3:=NP W.lids;unfold dW;rw[PyData.depth,PyData.depthAll,PyData.depthAll,PyData.depthAll,PyData.depthAll,PyData.depth,PyData.depth];lia
def PV {Ws:List Wl}(h:∀W∈Ws,Ok W):shaped (.list (Ws.map dW))=true:=by
 refine Mv ?_ ?_
 ·rw[PyData.canLay0];exact GB λW hW=>GM (Ka (h W hW))
 rw[PyData.depth];have:=HX (g:=dW) (n:=3) (xs:=Ws) λW _=>Vj W;lia
theorem UY:∀ys:List Bool,(ys.map V.bl).all E6=true
 | []=>rfl
 | _::ys=>by rw[A9,JK,UY ys];rfl
def Ee (I:L2.St->Hp->Prop)(hR:∀σ' H',I σ' H'->R D σ' H')(hs:∀N:L2.St->Hp->Prop,(∀σ' H',I σ' H'->N σ' H')->s { D with nx:=N } σ H):OP s R D σ H:=hs (R D) hR
end
end K19
namespace K19
open PySem L2 Tx Rk PyProof.Rows PySem.SeqAt
open PySem.PyData (strOk)
end K19
namespace K19
open PySem L2 Tx Rk PyProof.Rows PySem.SeqAt
open PySem.PyData (strOk)
section
variable {P:Program}{w:World}{K:W.Frag}{mg:Str->Option Value}{base:Heap}
def FU:List Str:=["take", "put", "toss", "tip", "shake", "open", "shut", "lock", "unlock"]
def Nr {w:Str}(h:w∈FU):w∈Gz\/w∈lidW:=by simp only[FU,Gz,lidW,AL,Cn,Ck]at h ⊢;rcases h with e | e | e | e | e | e | e | e | e <;> simp[e]
def iJ {w:Str}(h:w∈Gz):w∉lidW:=by rcases Jq h with e | e | e | e | e <;> (rw[e];decide +kernel)
def FV (w:Str)(p:Br)(W:Wl)(i:Nat)(hp:List Str)(l:Str)(j:Nat)(hq:List Str)(lq:Str):List Wl:=if w∈lidW then CN w p W i l else Cb w W i hp l j hq lq
inductive Mi (C:Addr)(vs:List V)(H:Hp)(Q:VK)(E0_:XK):Prop
 | mk (x:Addr) (rs:List Ro) (v:V) (W:Wl) (line w:Str) (i:Nat) (p:Br) (hp:List Str) (l:Str) (j:Nat) (pj:Br) (hq:List Str) (lq:Str) (c0:vs=[.ref x,.str line,v]) (c1:RoomAt C H x rs) (c2:Good rs) (c3:RdV H v (dW W)) (c4:Wd line (C9 w p.1 pj.1)) (c5:line.length<=1000) (c6:Pt rs W i p hp l) (c7:Pt rs W j pj hq lq) (c8:(w = "tip" -> i≠j)) (c9:w∈FU) (c10:(∀h∈W.heaps,h.length<=100)) (c11:W.lids.length<=100) (c12:∀(lw:Addr) (us:List V) (H':Hp),Same H H'->H' lw=some (.lst us)->RdVs H' us ((FV w p W i hp l j hq lq).map dW)->Q (.ref lw) H'):Mi C vs H Q E0_
theorem Jw:∀{rs:List Ro}{p:Br},p∈plc rs->p.2.2.isSome=true->p.2.1=true
 | .pl n::r,p,h,e=>by
  rcases(AL.mp h)with z | z
  ·rw[z]at e;cases e
  exact Jw (rs:=r) z e
 | .bx n::r,p,h,e=>by
  rcases(AL.mp h)with z | z
  ·rw[z]at e;cases e
  exact Jw (rs:=r) z e
 | .lk n k::r,p,h,e=>by
  rcases(AL.mp h)with z | z
  ·rw[z]
  exact Jw (rs:=r) z e
 | .th n s::r,p,h,e=>Jw (rs:=r) h e
def Lh {xss:List (List Str)}:∀{i:Nat}(_:i<xss.length) (z:List Str),(xss.set i z).flatten.Perm (z++(xss.set i []).flatten):=by
 induction xss with
 | nil=>intro i h;cases h
 | cons y r ih=>
  intro i h z;cases i with
  | zero=>show(z++r.flatten).Perm (z++([]++r.flatten));exact .refl _
  | succ i=>show(y++(r.set i z).flatten).Perm (z++(y++(r.set i []).flatten));refine(F8 y (ih (Nat.lt_of_succ_lt_succ h) z)).trans ?_;(rw[<- De,<- De]);(exact LN _ Ow)
def Li {xss:List (List Str)}{i:Nat}{hp:List Str}(h:xss[i]? = some hp):xss.flatten.Perm (hp++(xss.set i []).flatten):=by
 (obtain⟨hi,e⟩:=AG.mp h);have e2:xss.set i hp=xss:=by rw[<- e];exact List.set_getElem_self hi
 have:=Lh hi hp;rw[e2]at this;exact this
def NN (fw:Fw rs W)(sz:Sz W (plc rs).length)(h1:(Z.hand.toList++Z.heaps.flatten).Perm (W.hand.toList++W.heaps.flatten))(h2:Z.heaps.length=W.heaps.length)(h3:Z.lids=W.lids):Fw rs Z/\Sz Z (plc rs).length:=
 ⟨⟨h1.trans fw.perm,by rw[h3];exact fw.lids⟩,h2.trans sz.1,by rw[h3];exact sz.2⟩
def Uy {t:Str}{k:Nat}(fw:Fw rs W)(sz:Sz W (plc rs).length)(hh:W.hand=some t)(hk:k<W.heaps.length):Fw rs (E3 t W k)/\Sz (E3 t W k) (plc rs).length:=by
 have hit:W.heaps[k]? = some (W.heaps.getD k []):=by rw[Cz,AH hk];rfl
 refine NN fw sz ?_ (E8 ..) rfl;rw[hh];show([]++(W.heaps.set k (W.heaps.getD k []++[t])).flatten).Perm ([t]++W.heaps.flatten);refine(Lh hk _).trans ?_;refine LA ?_ (F8 [t] (Li hit).symm);rw[<- De];(exact LN _ Ow)
def cH {rs:List Ro}{W:Wl}{w:Str}{i j:Nat}{p pj:Br}{hp hq:List Str}{l lq:Str}(fw:Fw rs W)(sz:Sz W (plc rs).length)(pt:Pt rs W i p hp l)(pq:Pt rs W j pj hq lq)(hij:w = "tip" -> i≠j)(hw:w∈FU):∀Z∈FV w p W i hp l j hq lq,Fw rs Z/\Sz Z (plc rs).length:=by
 have hih:=(AG.mp pt.he).1;have hil:=(AG.mp pt.li).1;have hpm:=Bz pt.pl;intro Z hZ;unfold FV at hZ;split at hZ
 ·rename_i hl;unfold CN at hZ;split at hZ
  ·rename_i hc;rw[AX.mp hZ];refine⟨⟨fw.perm,λk pk lk hk hlk=>?_⟩,sz.1,(E8 ..).trans sz.2⟩;have hlk':(W.lids.set i (EG w))[k]? = some lk:=hlk;by_cases e:i=k
   ·subst e;rw[JX hil]at hlk';have e1:=Bs hlk';rw[pt.pl]at hk;have e2:=Bs hk;subst e2;subst e1;have hf:=hc.2;unfold Em at hf;rcases NB hl with e | e | e | e
    ·subst e;exact .inl (by decide +kernel)
    ·subst e;rw[Am (by decide +kernel),BZ]at hf;exact .inr (.inl ⟨by decide +kernel,hf.2⟩)
    ·subst e;rw[As (by decide +kernel),BZ]at hf;refine .inr (.inr ⟨by decide +kernel,?_⟩);cases hk2:p.2.2 with
     | some _=>rfl
     | none=>
      exfalso;have h2:=A4 hf.2;rw[hk2]at h2;cases hh:W.hand with
      | none=>rw[hh]at hf;cases hf.1
      | some t=>rw[hh]at h2;cases h2
    subst e;rw[As (by decide +kernel),BZ]at hf;refine .inr (.inl ⟨by decide +kernel,Jw hpm ?_⟩);cases hk2:p.2.2 with
    | some _=>rfl
    | none=>
     exfalso;have h2:=A4 hf.2;rw[hk2]at h2;cases hh:W.hand with
     | none=>rw[hh]at hf;cases hf.1
     | some t=>rw[hh]at h2;cases h2
   rw[JU e]at hlk';exact fw.lids k pk lk hk hlk'
  cases hZ
 unfold Cb at hZ;split at hZ
 ·rename_i ht;unfold DO at hZ;split at hZ
  ·rename_i hc;rw[AX.mp hZ];refine NN fw sz ?_ (by show((W.heaps.set i []).set j _).length=_;rw[E8,E8]) rfl;rw[hc.1];show([]++((W.heaps.set i []).set j (hq++hp.reverse)).flatten).Perm ([]++W.heaps.flatten);have hj:(W.heaps.set i [])[j]? = some hq:=by rw[JU (hij ht)];exact pq.he
   refine(Lh (AG.mp hj).1 _).trans ?_;refine LA ?_ (Li pt.he).symm;refine LA ?_ (F8 hp (Li hj).symm);rw[<- De];refine LN _ ?_;exact(F8 hq (Rv hp)).trans Ow
  cases hZ
 unfold FX at hZ;split at hZ
 ·unfold Dv at hZ;split at hZ
  ·rename_i hc;rw[AX.mp hZ];refine NN fw sz ?_ (by show(W.heaps.set i _).length=_;rw[E8]) rfl
   obtain⟨y,hy⟩:∃y,hp.getLast? = some y:=by
    cases hg:hp.getLast? with
    | none=>exact absurd (RV.mp hg) hc.2.2
    | some y=>exact⟨y,rfl⟩
   obtain⟨ys,e⟩:=VY.mp hy;rw[hc.1];show(hp.getLast?.toList++(W.heaps.set i hp.dropLast).flatten).Perm ([]++W.heaps.flatten);rw[hy];refine(F8 _ (Lh hih _)).trans ?_;refine LA ?_ (Li pt.he).symm;rw[<- De];refine LN _ ?_;rw[e,List.dropLast_concat];exact Ow
  cases hZ
 split at hZ
 ·unfold putF at hZ;split at hZ
  ·rename_i t ht;split at hZ
   ·rw[AX.mp hZ];exact Uy fw sz ht hih
   cases hZ
  cases hZ
 split at hZ
 ·unfold DM at hZ;split at hZ
  ·rename_i t ht;split at hZ
   ·obtain⟨k,hk,e⟩:=Bi.mp hZ;rw[<- e];refine Uy fw sz ht ?_;unfold CC at hk;split at hk
    ·rw[AX.mp hk];lia
    rcases(AL.mp hk)with e | e
    ·rw[e];exact hih
    rw[AX.mp e];lia
   cases hZ
  cases hZ
 unfold Dw at hZ;split at hZ
 ·rename_i hc;rcases(AL.mp hZ)with e | e
  ·rw[e];exact⟨fw,sz⟩
  rw[AX.mp e];refine NN fw sz ?_ (by show(W.heaps.set i _).length=_;rw[E8]) rfl;rw[hc.1];show([]++(W.heaps.set i (Hf hp)).flatten).Perm ([]++W.heaps.flatten);refine(Lh hih _).trans (LA (LN _ ?_) (Li pt.he).symm);unfold Hf;refine(F8 _ (Rv _)).trans ?_;rw[DG]
 cases hZ
inductive J8 (K:W.Frag)(vs:List V)(H:Hp)(Q:VK)(E0_:XK):Prop
 | mk (a:Addr) (ns:List Int) (c0:vs=[.ref a]) (c1:SqL K H a (ns.map V.int)) (c2:ns.length<=63) (c3:∀H',Q (.bl true) H'):J8 K vs H Q E0_
abbrev Qv:List Str:=["_law_script"]
abbrev dQ:List Str:=BI Qv ["_law_places", "_law_things", "_law_drawn", "_law_some", "_law_deeds", "_law_handed", "_law_atlas", "_law_told", "_law_first", "_law_known", "_law_reached", "_law_k", "_law_world_here"]
def scLaw:AM dQ Qv (Av Hl):=AO
def ZC (F:Fun K "turns" "turns" Kb f fd)(DL:Dl P w K mg aL t1 t2 t3 t4)(C_read_deed:Ca P w K mg base CX0 2 "read_deed" IG IU (Mj C))(C_tip:Ca P w K mg base CX0 4 "tip" Mw KG (OX C))(C_move_things:Ca P w K mg base CX0 6 "move_things" MI KO (Pb C))(C_move_lid:Ca P w K mg base CX0 4 "move_lid" MJ KP (Pc C)):FnOk P w K mg base CX0 7 f fd IR (Mi C):=by
 refine F.oq scTurns λcdv A outer s H vs Q E hr6 h=>?_;obtain⟨x,rs,v,W,line,w,i,p,hp,l,j,pj,hq,lq,rfl,R,g,rv,hw,ln,pt,pq,hij,hwn,fh,hll,q⟩:=h;have hr2:Room 2 _:=hr6.mono (by decide);have hr4:Room 4 _:=hr6.mono (by decide);refine⟨_,(Aj (AB (i:=3) scTurns.nd (A0 C_read_deed hr2 Ar (Aa (pv 0) (Aa (pv 1) Ac)))) (Aj (AQ (AC Bo (Aq Bc (pv 3) Ah (λ_ _=>rfl)) AE (AD _)) (Ao (AA (A0 C_tip hr4 Ar (Aa (pv 0) (Aa (pv 2) (Aa (Aq Bc (pv 3) Ah (λ_ _=>rfl)) (Aa (Aq Bc (pv 3) Ah (λ_ _=>rfl)) Ac))))))) AS) (Aj (AQ (FM (Zm (Aq Bc (pv 3) Ah (λ_ _=>rfl)) (C0 (v:=.ref aL) (by rfl) DL.lm rfl))) (Ao (AA (A0 C_move_lid hr4 Ar (Aa (pv 0) (Aa (pv 2) (Aa (Aq Bc (pv 3) Ah (λ_ _=>rfl)) (Aa (Aq Bc (pv 3) Ah (λ_ _=>rfl)) Ac))))))) AS) (Ao (AA (A0 C_move_things hr6 Ar (Aa (pv 0) (Aa (pv 2) (Aa (Aq Bc (pv 3) Ah (λ_ _=>rfl)) (Aa (Aq Bc (pv 3) Ah (λ_ _=>rfl)) Ac)))))))))),?_⟩;unfold FV at q;by_cases htip:w = "tip"
 ·rw[Am (by rw[htip];decide +kernel)]at q;unfold Cb at q;rw[As htip]at q;unfold C9 at hw;rw[As htip]at hw;have hnd:[p.1,pj.1].Nodup:=by have hne:p.1≠pj.1:=λe=>hij htip (Qj g pt.pl pq.pl e);simp[hne]
  have dk:GE rs w [p.1,pj.1]=true:=by
   unfold GE;have h2:CF w=V.int 2:=by rw[htip];decide +kernel
   rw[show decide (CF w=V.int (([p.1,pj.1].length:Nat):Int))=true from AR h2,AR hnd];rw[show([p.1,pj.1].all λp=>decide (p∈(plc rs).map (·.1)))=true from ?_]
   ·rfl
   rw[Fd];intro y hy;refine AR ?_;rcases(AL.mp hy)with e | e
   ·rw[e];exact Cy (Bz pt.pl)
   rw[AX.mp e];exact Cy (Bz pq.pl)
  refine⟨_,rfl,_,rfl,x,rs,line,_,_,rfl,R,hw,ln,by show 2<=100;decide,dk,λlw H1 s1 el=>?_⟩;have a0:atI (([w,p.1,pj.1]:List Str).map V.str) ((0:Nat):Int)=some (.str w):=Az rfl;have a1:atI (([w,p.1,pj.1]:List Str).map V.str) ((1:Nat):Int)=some (.str p.1):=Az rfl;have a2:atI (([w,p.1,pj.1]:List Str).map V.str) ((2:Nat):Int)=some (.str pj.1):=Az rfl;refine⟨_,rfl,lw,_,_,_,rfl,rfl,SqL.of el,a0,rfl,_,rfl,?_⟩;refine CJ htip ?_;exact⟨_,rfl,_,rfl,_,rfl,lw,_,_,_,rfl,rfl,SqL.of el,a1,_,rfl,lw,_,_,_,rfl,rfl,SqL.of el,a2,x,rs,v,W,i,p,hp,l,j,pj,hq,lq,rfl,R.same s1,g,s1.rd rv,pt,pq,λlr us H2 s2 _ e2 r2=>q lr us H2 (s1.trans s2) e2 r2⟩
 unfold C9 at hw;rw[Am htip]at hw
 have hpl:CF w=V.int 1:=by
  rcases Nr hwn with hm | hm
  ·rcases Jq hm with e | e | e | e | e
   ·rw[e];decide +kernel
   ·rw[e];decide +kernel
   ·rw[e];decide +kernel
   ·exact absurd e htip
   rw[e];decide +kernel
  exact Uo hm
 refine⟨_,rfl,_,rfl,x,rs,line,_,_,rfl,R,hw,ln,by show 1<=100;decide,Vf pt.pl hpl,λlw H1 s1 el=>?_⟩;have a0:atI (([w,p.1]:List Str).map V.str) ((0:Nat):Int)=some (.str w):=Az rfl;have a1:atI (([w,p.1]:List Str).map V.str) ((1:Nat):Int)=some (.str p.1):=Az rfl;refine⟨_,rfl,lw,_,_,_,rfl,rfl,SqL.of el,a0,rfl,_,rfl,?_⟩;refine CK htip ?_;refine⟨_,rfl,lw,_,_,_,rfl,rfl,SqL.of el,a0,aL,_,(Sum.inr w:Af),rfl,DL.ld,rfl,_,rfl,?_⟩;rcases Nr hwn with hm | hm
 ·rw[Am (iJ hm)]at q;unfold Cb at q;rw[Am htip]at q;rw[iG hm];refine AN ?_;exact⟨_,rfl,_,rfl,_,rfl,lw,_,_,_,rfl,rfl,SqL.of el,a0,_,rfl,lw,_,_,_,rfl,rfl,SqL.of el,a1,x,rs,v,W,w,i,p,hp,l,rfl,R.same s1,g,s1.rd rv,pt,fh,λlr us H2 s2 _ e2 r2=>q lr us H2 (s1.trans s2) e2 r2⟩
 rw[As hm]at q;obtain⟨t,hv,_⟩:=DL.got hm;rw[hv];refine Bb ?_;exact⟨_,rfl,_,rfl,_,rfl,lw,_,_,_,rfl,rfl,SqL.of el,a0,_,rfl,lw,_,_,_,rfl,rfl,SqL.of el,a1,x,rs,v,W,w,i,p,hp,l,rfl,R.same s1,g,s1.rd rv,pt,hll,hm,λlr us H2 s2 e2 r2=>q lr us H2 (s1.trans s2) e2 r2⟩
def R1 (ns:List Int):Prop:=∀n∈ns,0<=n/\n<200
def bt (ns:List Int):Nat:=ns.foldl (λm n=>m|||2^n.toNat) 0
def T1 (a b:Nat):Builtin.bitOr (a:Int) b=((a|||b:Nat):Int):=by
 have h1:¬(0:Int)<=Builtin.bitNot a:=by unfold Builtin.bitNot;lia
 have h2:¬(0:Int)<=Builtin.bitNot b:=by unfold Builtin.bitNot;lia
 have h3:∀x:Int,Builtin.bitNot (Builtin.bitNot x)=x:=λx=>by unfold Builtin.bitNot;lia
 unfold Builtin.bitOr Builtin.bitAnd;rw[BC h1,BC h2];dsimp only;rw[h3,h3,h3,Co,Co]
def VG (ns:List Int)(n:Int):bt (ns++[n])=bt ns|||2^n.toNat:=by unfold bt;rw[List.foldl_append];rfl
def Y3 (k:Nat):(2:Int)^k=((2^k:Nat):Int):=by rw[Int.natCast_pow];rfl
theorem Qd :∀ns:List Int,RdVs H (ns.map V.int) (ns.map PyData.int)
 | []=>.nil
 | n::r=>.cons (.int n) (Qd r)
def lH (n:Int):PyData.eqv (.int n) (.int n)=true:=by simp[PyData.eqv]
theorem U7:∀ns:List Int,PyData.eqvAll (ns.map PyData.int) (ns.map PyData.int)=true
 | []=>by simp[PyData.eqvAll]
 | n::r=>by rw[A9,PyData.eqvAll,lH,U7 r];rfl
def lG (ns:List Int):PyData.eqv (.list (ns.map PyData.int)) (.list (ns.map PyData.int))=true:=by rw[PyData.eqv,U7]
theorem Ux:∀ns:List Int,PyData.canLayAll0 (ns.map PyData.int)=true
 | []=>by rw[FE,PyData.canLayAll0]
 | n::r=>by rw[A9,PyData.canLayAll0,Ux r,PyData.canLay0];rfl
theorem Vi:∀ns:List Int,PyData.depthAll (ns.map PyData.int)<=0
 | []=>by rw[FE,PyData.depthAll];exact A5 _
 | n::r=>by have h:=Vi r;rw[A9,PyData.depthAll,PyData.depth];lia
def S7 (ns:List Int):shaped (.list (ns.map PyData.int))=true:=by unfold shaped;rw[PyData.canLay0,Ux,PyData.depth];have:=Vi ns;(rw[AR (by lia)]);rfl
def mG (ns:List Int):∃ds:List Int,SK.dd (BV (ns.map (Sum.inl:Int->Af))) (ns.map (Sum.inl:Int->Af)).length=ds.map Sum.inl/\ds.Nodup/\(∀n,n∈ds↔n∈ns)/\ds.length<=ns.length:=by
 have hl:(ns.map (Sum.inl:Int->Af)).length=ns.length:=Ak ..;rw[hl]
 have go:∀i,i<=ns.length->∃ds:List Int,SK.dd (BV (ns.map (Sum.inl:Int->Af))) i=ds.map Sum.inl/\ds.Nodup/\(∀n,n∈ds↔n∈ns.take i)/\ds.length<=i:=by
  intro i;induction i with
  | zero=>exact λ_=>⟨[],rfl,GS,λn=>by simp,Au _⟩
  | succ i ih=>
   intro hi;have hi2:i<ns.length:=hi;obtain⟨ds,e,nd,me,le⟩:=ih (by lia);have ev:BV (ns.map (Sum.inl:Int->Af)) i=Sum.inl ns[i]:=by simp[BV,List.getD,hi2]
   have htk:=BF hi2;have hin:(Sum.inl ns[i]:Af)∈ds.map (Sum.inl:Int->Af)↔ns[i]∈ds:=by rw[Bi];exact⟨λ⟨m,hm,e⟩=>by cases e;exact hm,λh=>⟨_,h,rfl⟩⟩
   by_cases hm:ns[i]∈ds
   ·refine⟨ds,?_,nd,λn=>?_,by lia⟩
    ·unfold SK.dd;rw[e,ev,As (hin.mpr hm)]
    rw[htk,BK,AX,me n];exact⟨.inl,λz=>z.elim id λz=>by rw[z];exact(me _).mp hm⟩
   refine⟨ds++[ns[i]],?_,QC nd hm,λn=>?_,by rw[AY];exact Nat.succ_le_succ le⟩
   ·unfold SK.dd;rw[e,ev,Am λz=>hm (hin.mp z),Ba];rfl
   rw[htk,BK,BK,me n]
 obtain⟨ds,e,nd,me,le⟩:=go ns.length (Au _);rw[BP]at me;exact⟨ds,e,nd,me,le⟩
inductive J7 (K:W.Frag)(vs:List V)(H:Hp)(Q:VK)(E0_:XK):Prop
 | mk (a:Addr) (ns:List Int) (c0:vs=[.ref a]) (c1:SqL K H a (ns.map V.int)) (c2:R1 ns) (c3:Q (.int (bt ns:Nat)) H):J7 K vs H Q E0_
abbrev Hv:List Str:=["worlds"]
abbrev cQ:List Str:=BI Hv ["some", "world"]
def scSetOf:AM cQ Hv (Av IE):=AO
abbrev Zn:List Str:=["some"]
def ZI (F:Fun K "set_of" "set_of" IE f fd):FnOk P w K mg base CX0 1 f fd Hv (J7 K):=by
 refine F.oq scSetOf λcdv A outer s H vs Q E hr h=>?_;obtain⟨a,ns,rfl,hS,wd,q⟩:=h;refine⟨_,(Aj (AB (i:=1) scSetOf.nd Ah) (Aj (BU BS rfl (BM (pv 0)) (AZ (i:=2) scSetOf.nd) (Ao (AB (i:=1) scSetOf.nd (Ax T3 (pv 1) (Ax Zo Ah (pv 2)))))) (Ao (AA (pv 1))))),?_⟩;refine⟨_,rfl,a,rfl,⟨_,hS⟩,Dn (K:=K) (a:=a) (xs:=ns.map V.int) (λi σ H2=>∃v2:Option V,σ = [some (.ref a),some (.int (bt (ns.take i):Nat)),v2]/\H2=H) ⟨none,rfl,rfl⟩ (λi σ H2 _ hh0=>by obtain⟨_,_,e⟩:=hh0;rw[e];exact hS) ?_ ?_⟩
 ·rintro i x σ H2 hx ⟨v2,rfl,e⟩;rw[AI]at hx;obtain⟨n,en,rfl⟩:=JN.mp hx;have hi:i<ns.length:=(AG.mp en).1;have hni:ns[i]=n:=(AG.mp en).2;have hw:=wd n (Bz en);have key:Builtin.bitOr ((bt (ns.take i):Nat):Int) (1*2^n.toNat)=((bt (ns.take (i+1)):Nat):Int):=by rw[BF hi,hni,VG,one_mul,Y3,T1]
  refine⟨_,rfl,_,rfl,_,_,rfl,rfl,⟨hw.1,by lia,by decide⟩,_,_,rfl,rfl,?_⟩;exact⟨some (.int n),by rw[<- key];rfl,e⟩
 rintro σ H2 ⟨v2,rfl,e⟩;rw[show(ns.map V.int).length=ns.length from Ak ..,BP,e];exact⟨_,rfl,q⟩
structure Mc (mg:Str->Option Value):Prop where
 mw:∃t,mg "MOST_WORLDS" = some (.int 200 t)
 ms:∃t,mg "MOST_STEPS" = some (.int 40 t)
 mn:∃t,mg "MOST_SIGNS" = some (.int 30 t)
 mp:∃t,mg "MOST_PRICE" = some (.int 1000000000 t)
inductive StV (H:Hp)(v:V)(n:Str)(p:Int)(t:Addr):Prop
 | mk (a:Addr) (e:v=.ref a) (h:H a=some (.tup [.str n,.int p,.ref t])):StV H v n p t
def StV.same {t:Addr}(s:Same H H')(h:StV H v n p t):StV H' v n p t:=by obtain⟨a,e,h⟩:=h;exact⟨a,e,s _ _ h⟩
structure A2 {α:Type}(R:V->α->Prop)(vs:List V)(ts:List α):Prop where
 len:vs.length=ts.length
 got:∀(i:Nat) v t,vs[i]? = some v->ts[i]? = some t->R v t
def A2.mono {α:Type}{R S:V->α->Prop}{vs:List V}{ts:List α}(h:A2 R vs ts)(m:∀v t,v∈vs->R v t->S v t):A2 S vs ts:=⟨h.len,λi v t hv ht=>m v t (Bz hv) (h.got i v t hv ht)⟩
def A2.at {α:Type}{R:V->α->Prop}{vs:List V}{ts:List α}(h:A2 R vs ts){i:Nat}{v:V}(hv:vs[i]? = some v):∃t,ts[i]? = some t/\t∈ts/\R v t:=by
 have hl:=(AG.mp hv).1;have hl2:i<ts.length:=by rw[<- h.len];exact hl
 exact⟨ts[i],AH hl2,BY hl2,h.got i v _ hv (AH hl2)⟩
def A2.app {α:Type}{R:V->α->Prop}{vs vs':List V}{ts ts':List α}(h:A2 R vs ts)(h':A2 R vs' ts'):A2 R (vs++vs') (ts++ts'):=⟨by rw[AY,AY,h.len,h'.len],λi v t hv ht=>by
 by_cases hi:i<vs.length
 ·rw[Dq hi]at hv;rw[Dq (by rw[<- h.len];exact hi)]at ht;exact h.got i v t hv ht
 rw[ES (by lia)]at hv;rw[ES (by rw[<- h.len];lia),<- h.len]at ht;exact h'.got _ v t hv ht⟩
structure Dee where
 name:Str
 price:Int
 tab:List (List Int)
structure Loo where
 name:Str
 price:Int
 tab:List (Option Str)
def oS:Option Str->V
 | none=>.non
 | some x=>.str x
inductive EnV (H:Hp)(v:V)(ns:List Int):Prop
 | mk (b:Addr) (e:v=.ref b) (h:H b=some (.lst (ns.map V.int))):EnV H v ns
inductive DeV (H:Hp)(v:V)(d:Dee):Prop
 | mk (t:Addr) (es:List V) (s:StV H v d.name d.price t) (ht:H t=some (.lst es)) (he:A2 (EnV H) es d.tab):DeV H v d
inductive LoV (H:Hp)(v:V)(l:Loo):Prop
 | mk (t:Addr) (s:StV H v l.name l.price t) (ht:H t=some (.lst (l.tab.map oS))):LoV H v l
inductive PN (vs:List V)(H:Hp)(Q:VK)(E0_:XK):Prop
 | mk (m:Int) (c0:vs=[.int m]) (c1:1<=m) (c2:m<=200) (c3:Q .non H):PN  vs H Q E0_
inductive Mt (vs:List V)(H:Hp)(Q:VK)(E0_:XK):Prop
 | mk (x:Str) (c0:vs=[.str x]) (c1:1<=x.length) (c2:x.length<=30) (c3:Q .non H):Mt  vs H Q E0_
inductive Ms (vs:List V)(H:Hp)(Q:VK)(E0_:XK):Prop
 | mk (p:Int) (c0:vs=[.int p]) (c1:1<=p) (c2:p<=1000000000) (c3:Q .non H):Ms  vs H Q E0_
inductive Mr (vs:List V)(H:Hp)(Q:VK)(E0_:XK):Prop
 | mk (m:Int) (n:V) (t:Addr) (xs:List V) (c0:vs=[.int m,n,.ref t]) (c1:H t=some (.lst xs)) (c2:(xs.length:Int)=m) (c3:Q .non H):Mr  vs H Q E0_
inductive PQ (vs:List V)(H:Hp)(Q:VK)(E0_:XK):Prop
 | mk (m:Int) (n:V) (b:Addr) (ns:List Int) (c0:vs=[.int m,n,.ref b]) (c1:H b=some (.lst (ns.map V.int))) (c2:ns.Pairwise (· < ·)) (c3:(∀x∈ns,0<=x/\x<m)) (c4:ns.length<=60) (c5:∀H':Hp,Same H H'->Q .non H'):PQ  vs H Q E0_
abbrev Jl:List Str:=["many"]
abbrev fU:List Str:=Jl
def X7:AM fU Jl (Av M3):=AO
abbrev Jk:List Str:=["name"]
abbrev fQ:List Str:=Jk
def X6:AM fQ Jk (Av Kq):=AO
abbrev Jj:List Str:=["price"]
abbrev fO:List Str:=Jj
def X5:AM fO Jj (Av Kp):=AO
abbrev Ji:List Str:=["many", "name", "table"]
abbrev fH:List Str:=Ji
def X4:AM fH Ji (Av Ko):=AO
abbrev K0:List Str:=["many", "name", "entry"]
abbrev fV:List Str:=K0
def X8:AM fV K0 (Av Kr):=AO
abbrev Gx:List Str:=["deeds", "looks"]
abbrev fM:List Str:=BI Gx ["steps", "names", "step"]
def scCheckSteps:AM fM Gx (Av Gp):=AO
structure LX (s:Str×Int):Prop where
 n1:1<=s.1.length
 n2:s.1.length<=30
 p1:1<=s.2
 p2:s.2<=1000000000
inductive PM (vs:List V)(H:Hp)(Q:VK)(E0_:XK):Prop
 | mk (a b:Addr) (ds ls:List V) (st:List (Str×Int)) (c0:vs=[.ref a,.ref b]) (c1:H a=some (.lst ds)) (c2:H b=some (.lst ls)) (c3:A2 (λv s=>∃t,StV H v s.1 s.2 t) (ds++ls) st) (c4:ds.length<=40) (c5:ls.length<=40) (c6:(st.map (·.1)).Nodup) (c7:(∀s∈st,LX s)) (c8:∀H':Hp,Same H H'->Q .non H'):PM  vs H Q E0_
structure KA {α:Type}(nm:α->Str)(R:V->α->Prop)(kvs:List (Af×V))(ds:List α):Prop where
 len:kvs.length=ds.length
 got:∀(i:Nat) kv d,kvs[i]? = some kv->ds[i]? = some d->kv.1=Sum.inr (nm d)/\R kv.2 d
def KA.nil {α:Type}{nm:α->Str}{R:V->α->Prop}:KA nm R [] []:=⟨rfl,λi kv d h _=>by cases h⟩
def KA.mono {α:Type}{nm:α->Str}{R S:V->α->Prop}{kvs:List (Af×V)}{ds:List α}(h:KA nm R kvs ds)(m:∀v d,d∈ds->R v d->S v d):KA nm S kvs ds:=⟨h.len,λi kv d h1 h2=>⟨(h.got i kv d h1 h2).1,m _ _ (Bz h2) (h.got i kv d h1 h2).2⟩⟩
def KA.snoc {α:Type}{nm:α->Str}{R:V->α->Prop}{kvs:List (Af×V)}{ds:List α}{d:α}{v:V}(h:KA nm R kvs ds)(r:R v d):KA nm R (kvs++[(Sum.inr (nm d),v)]) (ds++[d]):=⟨by simp[h.len],λi kv x hk hx=>by
 by_cases hi:i<kvs.length
 ·rw[Dq hi]at hk;rw[Dq (by rw[<- h.len];exact hi)]at hx;exact h.got i kv x hk hx
 rw[ES (by lia)]at hk;rw[ES (by rw[<- h.len];lia),<- h.len]at hx;have h0:i-kvs.length=0:=by have:=(AG.mp hk).1;simp at this;lia
 rw[h0]at hk hx;cases hk;cases hx;exact⟨rfl,r⟩⟩
def KA.keysE {α:Type}{nm:α->Str}{R:V->α->Prop}{kvs:List (Af×V)}{ds:List α}(h:KA nm R kvs ds):kvs.map (·.1)=ds.map λd=>(Sum.inr (nm d):Af):=by
 apply List.ext_getElem?;intro i;rw[AI,AI];cases hk:kvs[i]? with
 | none=>have:kvs.length<=i:=List.getElem?_eq_none_iff.mp hk;rw[Ru (by rw[<- h.len];exact this)];rfl
 | some kv=>
  have hl:=(AG.mp hk).1;have hl2:i<ds.length:=by rw[<- h.len];exact hl
  rw[AH hl2];show some kv.1=some _;rw[(h.got i kv _ hk (AH hl2)).1]
theorem KA.none {α:Type}{nm:α->Str}{R:V->α->Prop}{kvs:List (Af×V)}{ds:List α}(h:KA nm R kvs ds){x:Str}(hx:x∉ds.map nm):Ay kvs (Sum.inr x:Af)=none:=by
 cases e:Ay kvs (Sum.inr x:Af)with
 | none=>rfl
 | some v=>exfalso;have:=Ma e;rw[h.keysE]at this;obtain⟨d,hd,ed⟩:=Bi.mp this;exact hx (Bi.mpr ⟨d,hd,Cv ed⟩)
def Wn {kvs:List (Af×V)}(nd:(kvs.map (·.1)).Nodup){i:Nat}{kv:Af×V}(h:kvs[i]? = some kv):Ay kvs kv.1=some kv.2:=by
 induction (kvs) generalizing i with
 | nil=>cases h
 | cons p r ih=>
  rw[A9]at nd;(obtain⟨n1,n2⟩:=Bq.mp nd);cases i with
  | zero=>cases h;exact B0 rfl
  | succ i=>have h':r[i]? = some kv:=h;rw[Bn (λe=>n1 (by rw[e];exact Bi.mpr ⟨kv,Bz h',rfl⟩))];exact ih n2 h'
inductive OuV (H:Hp)(v:V)(d:Dee):Prop
 | mk (t:Addr) (e:v=.ref t) (h:H t=some (.tup (d.tab.map λn=>V.int (bt n:Nat)))):OuV H v d
inductive AnV (H:Hp)(v:V)(l:Loo):Prop
 | mk (t:Addr) (e:v=.ref t) (h:H t=some (.tup (l.tab.map oS))):AnV H v l
structure DeOk (many:Nat)(d:Dee):Prop where
 len:d.tab.length=many
 up:∀e∈d.tab,e.Pairwise (· < ·)
 inn:∀e∈d.tab,∀x∈e,0<=x/\x<(many:Int)
 few:∀e∈d.tab,e.length<=60
def DeOk.wd (h:DeOk many d)(m:many<=200):∀e∈d.tab,R1 e:=λe he n hn=>⟨(h.inn e he n hn).1,by have:=(h.inn e he n hn).2;lia⟩
inductive O6 (vs:List V)(H:Hp)(Q:VK)(E0_:XK):Prop
 | mk (m:Nat) (a:Addr) (us:List V) (ds:List Dee) (c0:vs=[.int (m:Int),.ref a]) (c1:m<=200) (c2:H a=some (.lst us)) (c3:A2 (DeV H) us ds) (c4:(∀d∈ds,DeOk m d)) (c5:(ds.map Dee.name).Nodup) (c6:ds.length<=40) (c7:∀(d:Addr) (kvs:List (Af×V)) (H':Hp),Same H H'->H d=none->H' d=some (.dK kvs)->KA Dee.name (OuV H') kvs ds->Q (.ref d) H'):O6  vs H Q E0_
inductive O4 (vs:List V)(H:Hp)(Q:VK)(E0_:XK):Prop
 | mk (m:Nat) (a:Addr) (us:List V) (ls:List Loo) (c0:vs=[.int (m:Int),.ref a]) (c1:m<=200) (c2:H a=some (.lst us)) (c3:A2 (LoV H) us ls) (c4:(∀l∈ls,l.tab.length=m)) (c5:(ls.map Loo.name).Nodup) (c6:ls.length<=40) (c7:∀(d:Addr) (kvs:List (Af×V)) (H':Hp),Same H H'->H d=none->H' d=some (.dK kvs)->KA Loo.name (AnV H') kvs ls->Q (.ref d) H'):O4  vs H Q E0_
abbrev IT:List Str:=["many", "deeds"]
abbrev cU:List Str:=BI IT ["found", "deed", "name", "table", "entry"]
def scReadDeeds:AM cU IT (Av Ke):=AO
abbrev IS:List Str:=["many", "looks"]
abbrev cS:List Str:=BI IS ["found", "look"]
def scReadLooks:AM cS IS (Av MD):=AO
def OuV.keep (k:∀b xs,H b=some (.tup xs)->H' b=some (.tup xs))(h:OuV H v d):OuV H' v d:=by obtain⟨t,e,h⟩:=h;exact⟨t,e,k _ _ h⟩
def AnV.keep (k:∀b xs,H b=some (.tup xs)->H' b=some (.tup xs))(h:AnV H v l):AnV H' v l:=by obtain⟨t,e,h⟩:=h;exact⟨t,e,k _ _ h⟩
def bQ (F:Fun K "check_many" "check_many" M3 f fd)(M:Mc mg):FnOk P w K mg base CX0 1 f fd Jl PN:=by obtain⟨t1,m1⟩:=M.mw;refine F.oq X7 λcdv A outer s H vs Q E hr h=>?_;obtain⟨m,rfl,h1,h2,q⟩:=h;refine⟨_,(Ao (AQ (CY (Qi HK HK Ah (pv 0) (C0 (v:=.int 200) (by rfl) m1 ⟨_,rfl⟩))) Ci AS)),?_⟩;refine⟨_,rfl,_,_,rfl,rfl,_,rfl,?_⟩;rw[AR h1];refine Bb ?_;refine⟨_,_,rfl,rfl,_,rfl,?_⟩;rw[AR h2];exact AN q
def bP (F:Fun K "check_name" "check_name" Kq f fd)(T:Bl mg)(M:Mc mg):FnOk P w K mg base CX0 1 f fd Jk Mt:=by obtain⟨t1,m1⟩:=M.mn;refine F.oq X6 λcdv A outer s H vs Q E hr h=>?_;obtain⟨x,rfl,h1,h2,q⟩:=h;have ae:sizeLine=16777216:=AK;refine⟨_,(Ao (AQ (CY (Qi HK HK Ah (AV Bp (by rfl) T.len A8 (Aa (pv 0) Ac)) (C0 (v:=.int 30) (by rfl) m1 ⟨_,rfl⟩))) Ci AS)),?_⟩;refine⟨_,rfl,_,_,rfl,⟨by lia,rfl⟩,_,_,rfl,rfl,_,rfl,?_⟩;rw[AR (show(1:Int)<=(x.length:Int) by lia)];refine Bb ?_;refine⟨_,_,rfl,rfl,_,rfl,?_⟩;rw[AR (show(x.length:Int)<=30 by lia)];exact AN q
def bO (F:Fun K "check_price" "check_price" Kp f fd)(M:Mc mg):FnOk P w K mg base CX0 1 f fd Jj Ms:=by obtain⟨t1,m1⟩:=M.mp;refine F.oq X5 λcdv A outer s H vs Q E hr h=>?_;obtain⟨m,rfl,h1,h2,q⟩:=h;refine⟨_,(Ao (AQ (CY (Qi HK HK Ah (pv 0) (C0 (v:=.int 1000000000) (by rfl) m1 ⟨_,rfl⟩))) Ci AS)),?_⟩;refine⟨_,rfl,_,_,rfl,rfl,_,rfl,?_⟩;rw[AR h1];refine Bb ?_;refine⟨_,_,rfl,rfl,_,rfl,?_⟩;rw[AR h2];exact AN q
def bK (F:Fun K "check_table" "check_table" Ko f fd)(T:Bl mg):FnOk P w K mg base CX0 1 f fd Ji Mr:=by refine F.oq X4 λcdv A outer s H vs Q E hr h=>?_;obtain⟨m,n,t,xs,rfl,ht,hm,q⟩:=h;refine⟨_,(Ao (AQ (AC Gy (AV Bp (by rfl) T.len A8 (Aa (pv 2) Ac)) (pv 0) (AD _)) Ci AS)),?_⟩;refine⟨_,rfl,_,_,rfl,.inl ⟨_,SqL.of ht,rfl⟩,_,rfl,rfl,_,rfl,?_⟩;rw[hm];refine Bd (λz=>?_) (λ_=>q);simp at z
def bS (F:Fun K "check_entry" "check_entry" Kr f fd)(T:Bl mg):FnOk P w K mg base CX0 1 f fd K0 PQ:=by
 refine F.oq X8 λcdv A outer s H vs Q E hr h=>?_;obtain⟨m,n,b,ns,rfl,hb,hp,hx,hl,q⟩:=h;have af:=hr.units;have ae:sizeLine=16777216:=AK;refine⟨_,(Aj (AQ (AC (T5 af) (BW Fz (by rfl) T.list DV (Aa (pv 2) Ac)) (AV (nE rfl) (by rfl) T.sorted Q9 (Aa (BW (nG rfl) (by rfl) T.set Lm (Aa (pv 2) Ac)) Ac)) (AD _)) Ci AS) (Ao (AQ (CY (Cs (AV (Q8 rfl) (by rfl) T.all Rb (Aa (CZ (N:=["world", "many"]) (sc:=Av Kr) (own:=["world"]) (fr:=["many"]) (js:=[0]) BX rfl (BM (pv 2)) (λ_ _ _ _=>AZ (i:=0) (show List.Nodup (["world", "many"]:List Str) by decide +kernel)) (λ_ _ _ _=>B5) (λ_ _ _ _=>(Zl HK Hz Ah (pv 0) (pv 1)))) Ac)))) Ci AS))),?_⟩;refine⟨_,rfl,b,_,rfl,.inl (SqL.of hb),λl1 hl1=>?_⟩;obtain⟨H1,g0,s1,e1⟩:=BD (H:=H) (o:=.lst (ns.map V.int)) hl1;rw[g0];have hb1:=s1 _ _ hb;obtain⟨ds,ed,nd,me,ld⟩:=mG ns;have ek:ns.map V.int=(ns.map (Sum.inl:Int->Af)).map kV:=by rw[By];rfl
 refine⟨_,rfl,b,ns.map Sum.inl,rfl,SqL.of (by rw[<- ek];exact hb1),by rw[Ak];lia,λst hst=>?_⟩;rw[ed];have s2:Same H1 (Ab H1 st (Gj P w st (ds.map Sum.inl))):=Same.new hst;refine⟨st,ds,rfl,Ag,nd,by lia,λl2 zs hl2 pm so=>?_⟩;have hz:zs=ns:=by have pn:ds.Perm ns:=(perm_ext_iff_of_nodup nd (hp.imp λh=>Int.ne_of_lt h)).mpr me;exact List.Perm.eq_of_pairwise (le:=(·<=·)) (λa b _ _ h1 h2=>by lia) so (hp.imp λh=>Int.le_of_lt h) (pm.trans pn)
 subst hz;have s3:Same H1 (Ab (Ab H1 st (Gj P w st (ds.map Sum.inl))) l2 (.lst (zs.map V.int))):=Same.put (H':=Ab H1 st (Gj P w st (ds.map Sum.inl))) (o:=.lst (zs.map V.int)) s2 (s2.free hl2);have e3:(Ab (Ab H1 st (Gj P w st (ds.map Sum.inl))) l2 (.lst (zs.map V.int))) l2=some (.lst (zs.map V.int)):=Ag;refine⟨l1,l2,_,_,_,_,rfl,rfl,s3 _ _ e1,e3,Qd _,Qd _,S7 _,S7 _,_,rfl,?_⟩;rw[lG];refine AN ?_;have hb2:=s3 _ _ hb1;refine⟨_,rfl,b,rfl,⟨_,SqL.of hb2⟩,λD hD=>?_⟩
 refine B8 (n:=zs.length) (λi ys H3=>ys=(replicate i true).map V.bl/\Same (Ab (Ab H1 st (Gj P w st (ds.map Sum.inl))) l2 (.lst (zs.map V.int))) H3/\H3 D=some (.lst ys)) ⟨rfl,Same.new hD,Ag⟩
  (λi ys H3 hi hh0=>by obtain⟨_,s4,_⟩:=hh0;exact⟨_,.int zs[i],SqL.of (s4 _ _ hb2),by simp[hi]⟩) (λys H3 hh0=>by obtain⟨_,s4,_⟩:=hh0;exact⟨_,SqL.of (s4 _ _ hb2),by simp⟩) ?_ ?_
 ·rintro i ys H3 y H4 hi ⟨rfl,s4,e4⟩ ⟨rfl,hy⟩;refine Ce ?_;have hy2:y=.int zs[i]:=by have:=hy _ (SqL.of (s4 _ _ hb2));rw[AI,AH hi]at this;(exact(Bs this).symm)
  subst hy2;obtain⟨x0,x1⟩:=hx _ (BY hi);refine⟨_,rfl,_,_,rfl,rfl,_,rfl,?_⟩;rw[AR x0];refine Bb ?_;refine⟨_,rfl,_,_,rfl,rfl,?_⟩;rw[AR x1];refine⟨_,e4,by rw[Ak,F5];lia,?_,s4.put hD,Ag⟩;rw[RJ,Ba];rfl
 rintro ys H3 ⟨rfl,s4,e4⟩;refine⟨D,_,rfl,SqL.of e4,_,rfl,?_⟩;rw[show(replicate zs.length true).all (λb=>b)=true from Fd.mpr λb hb=>(Im.mp hb).2];exact AN (q H3 ((s1.trans s3).trans s4))
def bN (F:Fun K "check_steps" "check_steps" Gp f fd)(T:Bl mg)(M:Mc mg)(C_check_name:Ca P w K mg base CX0 1 "check_name" Kq Jk Mt)(C_check_price:Ca P w K mg base CX0 1 "check_price" Kp Jj Ms):FnOk P w K mg base CX0 2 f fd Gx PM:=by
 obtain⟨t1,m1⟩:=M.ms;refine F.oq scCheckSteps λcdv A outer s H vs Q E hr1 h=>?_;obtain⟨a,b,ds,ls,st,rfl,ha,hb,hst,fd',fl,nd,ok,q⟩:=h;have ae:sizeLine=16777216:=AK;refine⟨_,(Aj (AQ (PW.pt (CD (AC Ez (AV Bp (by rfl) T.len A8 (Aa (pv 0) Ac)) (C0 (v:=.int 40) (by rfl) m1 ⟨_,rfl⟩) (AD _)) (DU (AC Ez (AV Bp (by rfl) T.len A8 (Aa (pv 1) Ac)) (C0 (v:=.int 40) (by rfl) m1 ⟨_,rfl⟩) (AD _))))) Ci AS) (Aj (AB (i:=2) scCheckSteps.nd (Ax Jo (BW Fz (by rfl) T.list DV (Aa (pv 0) Ac)) (BW Fz (by rfl) T.list DV (Aa (pv 1) Ac)))) (Aj (FP (i:=3) (N:=["step"]) (sc:=Av Gp) (own:=["step"]) (fr:=[]) (js:=[]) scCheckSteps.nd rfl rfl BX rfl (BM (pv 2)) (λ_ _ _ _=>AZ (i:=0) (show List.Nodup (["step"]:List Str) by decide +kernel)) (λ_ _ _ _=>B5) (λ_ _ _ _=>(Aq (EC K rfl) (pv 0) Ah (λ_ _=>rfl)))) (Aj (AQ (AC Hz (AV NT (by rfl) T.len A8 (Aa (BW (NS rfl) (by rfl) T.set Lm (Aa (pv 3) Ac)) Ac)) (AV Bp (by rfl) T.len A8 (Aa (pv 3) Ac)) (AD _)) Ci AS) (Ao (BU BS rfl (BM (pv 2)) (AZ (i:=4) scCheckSteps.nd) (Aj (B1 (A0 C_check_name hr1 Ar (Aa (Aq AJ (pv 4) Ah (λ_ _=>rfl)) Ac))) (Ao (B1 (A0 C_check_price hr1 Ar (Aa (Aq AJ (pv 4) Ah (λ_ _=>rfl)) Ac))))))))))),?_⟩;refine⟨_,rfl,_,_,rfl,.inl ⟨_,SqL.of ha,rfl⟩,_,_,rfl,rfl,_,rfl,?_⟩;refine Bd (λz=>?_) (λ_=>?_)
 ·exfalso;have:=A4 z;lia
 refine⟨_,rfl,_,_,rfl,.inl ⟨_,SqL.of hb,rfl⟩,_,_,rfl,rfl,_,rfl,?_⟩;refine Bd (λz=>?_) (λ_=>?_)
 ·exfalso;have:=A4 z;lia
 refine⟨_,rfl,a,_,rfl,.inl (SqL.of ha),λl1 hl1=>?_⟩;obtain⟨H1,g0,s1,e1⟩:=BD (H:=H) (o:=.lst ds) hl1;rw[g0];refine⟨_,rfl,b,_,rfl,.inl (SqL.of (s1 _ _ hb)),λl2 hl2=>?_⟩;obtain⟨H2,g0,s2,e2⟩:=BD (H:=H1) (o:=.lst ls) hl2;rw[g0];refine⟨l1,l2,_,_,rfl,rfl,s2 _ _ e1,e2,by lia,λl3 hl3=>?_⟩;obtain⟨H3,g0,s3,e3⟩:=BD (H:=H2) (o:=.lst (ds++ls)) hl3;rw[g0];have s13:=(s1.trans s2).trans s3;have hst3:=hst.mono λv s _ ⟨t,r⟩=>(⟨t,r.same s13⟩:∃t,StV H3 v s.1 s.2 t);have hsl2:=hst.len;have hdl:(ds++ls).length<=80:=by rw[AY];lia
 generalize ds++ls=xs at e3 hst3 hsl2 hdl;refine⟨_,rfl,l3,rfl,⟨_,SqL.of e3⟩,λD hD=>?_⟩
 refine B8 (n:=xs.length) (λi ys H4=>ys=((st.take i).map (·.1)).map V.str/\Same H3 H4/\H4 D=some (.lst ys)) ⟨rfl,Same.new hD,Ag⟩
  (λi ys H4 hi hh0=>by obtain⟨_,s4,_⟩:=hh0;exact⟨_,xs[i],SqL.of (s4 _ _ e3),by simp[hi]⟩) (λys H4 hh0=>by obtain⟨_,s4,_⟩:=hh0;exact⟨_,SqL.of (s4 _ _ e3),by simp⟩) ?_ ?_
 ·rintro i ys H4 y H5 hi ⟨rfl,s4,e4⟩ ⟨rfl,hy⟩;refine Ce ?_;obtain⟨sp,hsp,hmem,t,a',rfl,et⟩:=hst3.at (hy _ (SqL.of (s4 _ _ e3)));have Bx:atI [V.str sp.1,V.int sp.2,V.ref t] ((0:Nat):Int)=some (.str sp.1):=Az rfl;refine⟨_,rfl,a',_,_,_,rfl,rfl,SqT.of (s4 _ _ et),Bx,_,e4,by simp only[Ak,Bu];lia,?_,s4.put hD,Ag⟩;obtain⟨hi2,e⟩:=AG.mp hsp;rw[BF hi2,Ba,Ba,e];rfl
 rintro ys H4 ⟨rfl,s4,e4⟩;rw[hsl2,BP]at e4;have hnl:(st.map (·.1)).length=st.length:=Ak ..;have ek:(st.map (·.1)).map V.str=((st.map (·.1)).map (Sum.inr:Str->Af)).map kV:=by rw[By,By,By];rfl
 have hdd:=PX nd;have hks:((st.map (·.1)).map (Sum.inr:Str->Af)).length=st.length:=by rw[Ak,Ak]
 refine⟨_,rfl,D,(st.map (·.1)).map Sum.inr,rfl,SqL.of (by rw[<- ek];exact e4),by lia,λst' hst'=>?_⟩;have s5:Same H4 (Ab H4 st' (Hk P w st' (SK.dd (BV ((st.map (·.1)).map (Sum.inr:Str->Af))) ((st.map (·.1)).map (Sum.inr:Str->Af)).length).length)):=Same.new hst';refine⟨st',_,rfl,Ag,_,rfl,_,_,rfl,.inl ⟨_,SqL.of (s5 _ _ e4),rfl⟩,_,_,rfl,rfl,_,rfl,?_⟩;have hml:((st.map (·.1)).map V.str).length=(st.map (·.1)).length:=Ak ..;refine Bd (λhlt=>?_) (λ_=>?_)
 ·exfalso;have:=A4 hlt;rw[hml,hdd]at this;lia
 have s45:=s4.trans s5;have e35:=s45 _ _ e3;refine⟨_,rfl,l3,rfl,⟨_,SqL.of e35⟩,Dn (K:=K) (a:=l3) (xs:=xs) (λi σ H6=>∃v4:Option V,σ = [some (.ref a),some (.ref b),some (.ref l3),some (.ref D),v4]/\Same H3 H6) ⟨none,rfl,s45⟩ (λi σ H6 _ hh0=>by obtain⟨_,_,s6⟩:=hh0;exact SqL.of (s6 _ _ e3)) ?_ ?_⟩
 ·rintro i y σ H6 hy ⟨v4,rfl,s6⟩;obtain⟨sp,hsp,hmem,t,a',rfl,et⟩:=hst3.at hy;have Bx:atI [V.str sp.1,V.int sp.2,V.ref t] ((0:Nat):Int)=some (.str sp.1):=Az rfl;have at1:atI [V.str sp.1,V.int sp.2,V.ref t] ((1:Nat):Int)=some (.int sp.2):=Az rfl;have et6:=s6 _ _ et;have o:=ok _ hmem;refine⟨_,rfl,a',_,_,_,rfl,rfl,SqT.of et6,Bx,sp.1,rfl,o.n1,o.n2,?_⟩;refine⟨_,rfl,a',_,_,_,rfl,rfl,SqT.of et6,at1,sp.2,rfl,o.p1,o.p2,?_⟩;exact⟨_,rfl,s6⟩
 rintro σ H6 ⟨v4,rfl,s6⟩;exact q H6 (s13.trans s6)
def ZM (F:Fun K "read_looks" "read_looks" MD f fd)(T:Bl mg)(C_check_table:Ca P w K mg base CX0 1 "check_table" Ko Ji Mr):FnOk P w K mg base CX0 2 f fd IS O4:=by
 refine F.oq scReadLooks λcdv A outer s H vs Q E hr1 h=>?_;obtain⟨m,a,us,ls,rfl,hm,ha,hl,ok,nd,few,q⟩:=h;have hu:=CL hr1;have ae:sizeLine=16777216:=AK;have hul:=hl.len;refine⟨_,(Aj (AB (i:=2) scReadLooks.nd FR) (Aj (BU BS rfl (BM (pv 1)) (AZ (i:=3) scReadLooks.nd) (Aj (B1 (A0 C_check_table hr1 Ar (Aa (pv 0) (Aa (Aq AJ (pv 3) Ah (λ_ _=>rfl)) (Aa (Aq AJ (pv 3) Ah (λ_ _=>rfl)) Ac))))) (Ao (Dg hu (pv 2) (Aq AJ (pv 3) Ah (λ_ _=>rfl)) (BW JB (by rfl) T.tuple EF (Aa (Aq AJ (pv 3) Ah (λ_ _=>rfl)) Ac)) rfl)))) (Ao (AA (pv 2))))),?_⟩;intro d hd;have s0:Same H (Ab H d (.dK [])):=Same.new hd;refine⟨_,rfl,a,rfl,⟨_,SqL.of (s0 _ _ ha)⟩,Dn (K:=K) (a:=a) (xs:=us) (λi σ H2=>∃(v3:Option V) (kvs:List (Af×V)),σ = [some (.int (m:Int)),some (.ref a),some (.ref d),v3]/\Same H H2/\H2 d=some (.dK kvs)/\KA Loo.name (AnV H2) kvs (ls.take i)) ⟨none,[],rfl,s0,Ag,by rw[GO];exact KA.nil⟩ (λi σ H2 _ hh0=>by obtain⟨_,_,_,s2,_⟩:=hh0;exact SqL.of (s2 _ _ ha)) ?_ ?_⟩
 ·rintro i y σ H2 hy ⟨v3,kvs,rfl,s2,e2,ka⟩;obtain⟨l,hli,hlm,t,⟨a',rfl,et⟩,ht⟩:=hl.at hy;have Bx:atI [V.str l.name,V.int l.price,V.ref t] ((0:Nat):Int)=some (.str l.name):=Az rfl;have at2:atI [V.str l.name,V.int l.price,V.ref t] ((2:Nat):Int)=some (.ref t):=Az rfl;have et2:=s2 _ _ et;have ht2:=s2 _ _ ht;have htl:(l.tab.map oS).length=m:=by rw[Ak];exact ok l hlm
  have hkl:=ka.len;rw[Bu]at hkl;obtain⟨hi2,ei⟩:=AG.mp hli
  have hnone:Ay kvs (Sum.inr l.name:Af)=none:=ka.none λz=>by
   have hnd:((ls.take (i+1)).map Loo.name).Nodup:=by rw[DH];exact GG (Gf _ _) nd
   rw[BF hi2,ei,Ba]at hnd;exact(Cw.mp hnd).2.2 _ z l.name (AX.mpr rfl) rfl
  refine⟨_,rfl,_,rfl,a',_,_,_,rfl,rfl,SqT.of et2,Bx,_,rfl,a',_,_,_,rfl,rfl,SqT.of et2,at2,_,_,t,_,rfl,ht2,by rw[htl],?_⟩;refine⟨_,rfl,a',_,_,_,rfl,rfl,SqT.of et2,at2,t,_,rfl,.inl ⟨SqL.of ht2,λtp htp=>?_⟩⟩;have s3:Same H2 (Ab H2 tp (.tup (l.tab.map oS))):=Same.new htp;refine⟨_,rfl,_,rfl,a',_,_,_,rfl,rfl,SqT.of (s3 _ _ et2),Bx,d,_,rfl,DPut.k (k:=(Sum.inr l.name:Af)) (s3 _ _ e2) (by lia),?_⟩;rw[Eg _ hnone];refine⟨_,_,rfl,(s2.trans s3).put hd,Ag,?_⟩;have dt:tp≠d:=(AF e2 htp).symm;rw[BF hi2,ei];refine KA.snoc (ka.mono λv x _ r=>r.keep λb xs e=>?_) ⟨tp,rfl,by rw[Ai dt];exact Ag⟩;rw[Ai (A7 e e2 (by intro z;cases z))];exact s3 _ _ e
 rintro σ H2 ⟨v3,kvs,rfl,s2,e2,ka⟩;rw[hul,BP]at ka;exact⟨_,rfl,q d kvs H2 s2 hd e2 ka⟩
def ZQ (F:Fun K "read_deeds" "read_deeds" Ke f fd)(T:Bl mg)(C_check_table:Ca P w K mg base CX0 1 "check_table" Ko Ji Mr)(C_check_entry:Ca P w K mg base CX0 1 "check_entry" Kr K0 PQ)(C_set_of:Ca P w K mg base CX0 1 "set_of" IE Hv (J7 K)):FnOk P w K mg base CX0 2 f fd IT O6:=by
 refine F.oq scReadDeeds λcdv A outer s H vs Q E hr1 h=>?_;obtain⟨m,a,us,ds,rfl,hm,ha,hl,ok,nd,few,q⟩:=h;have hu:=CL hr1;have ae:sizeLine=16777216:=AK;have hul:=hl.len;refine⟨_,(Aj (AB (i:=2) scReadDeeds.nd FR) (Aj (BU BS rfl (BM (pv 1)) (AZ (i:=3) scReadDeeds.nd) (Aj (AB (i:=4) scReadDeeds.nd (Aq AJ (pv 3) Ah (λ_ _=>rfl))) (Aj (AB (i:=5) scReadDeeds.nd (Aq AJ (pv 3) Ah (λ_ _=>rfl))) (Aj (B1 (A0 C_check_table hr1 Ar (Aa (pv 0) (Aa (pv 4) (Aa (pv 5) Ac))))) (Aj (BU BS rfl (BM (pv 5)) (AZ (i:=6) scReadDeeds.nd) (Ao (B1 (A0 C_check_entry hr1 Ar (Aa (pv 0) (Aa (pv 4) (Aa (pv 6) Ac))))))) (Ao (Dg hu (pv 2) (pv 4) (BW JB (by rfl) T.tuple EF (Aa (CZ (N:=["entry"]) (sc:=Av Ke) (own:=["entry"]) (fr:=[]) (js:=[]) BX rfl (BM (pv 5)) (λ_ _ _ _=>AZ (i:=0) (show List.Nodup (["entry"]:List Str) by decide +kernel)) (λ_ _ _ _=>B5) (λ_ _ _ _=>(A0 C_set_of hr1 Ar (Aa (pv 0) Ac)))) Ac)) rfl))))))) (Ao (AA (pv 2))))),?_⟩;intro d hd;have s0:Same H (Ab H d (.dK [])):=Same.new hd;refine⟨_,rfl,a,rfl,⟨_,SqL.of (s0 _ _ ha)⟩,Dn (K:=K) (a:=a) (xs:=us) (λi σ H2=>∃(v3 v4 v5 v6:Option V) (kvs:List (Af×V)),σ = [some (.int (m:Int)),some (.ref a),some (.ref d),v3,v4,v5,v6]/\Same H H2/\H2 d=some (.dK kvs)/\KA Dee.name (OuV H2) kvs (ds.take i)) ⟨none,none,none,none,[],rfl,s0,Ag,by rw[GO];exact KA.nil⟩ (λi σ H2 _ hh0=>by obtain⟨_,_,_,_,_,_,s2,_⟩:=hh0;exact SqL.of (s2 _ _ ha)) ?_ ?_⟩
 ·rintro i y σ H2 hy ⟨v3,v4,v5,v6,kvs,rfl,s2,e2,ka⟩;obtain⟨l,hli,hlm,t,es,⟨a',rfl,et⟩,ht,he⟩:=hl.at hy;have Bx:atI [V.str l.name,V.int l.price,V.ref t] ((0:Nat):Int)=some (.str l.name):=Az rfl;have at2:atI [V.str l.name,V.int l.price,V.ref t] ((2:Nat):Int)=some (.ref t):=Az rfl;have et2:=s2 _ _ et;have ht2:=s2 _ _ ht;have o:=ok l hlm;have hel:=he.len;have hkl:=ka.len;rw[Bu]at hkl;obtain⟨hi2,ei⟩:=AG.mp hli
  have hnone:Ay kvs (Sum.inr l.name:Af)=none:=ka.none λz=>by
   have hnd:((ds.take (i+1)).map Dee.name).Nodup:=by rw[DH];exact GG (Gf _ _) nd
   rw[BF hi2,ei,Ba]at hnd;exact(Cw.mp hnd).2.2 _ z l.name (AX.mpr rfl) rfl
  refine⟨_,rfl,a',_,_,_,rfl,rfl,SqT.of et2,Bx,?_⟩;refine⟨_,rfl,a',_,_,_,rfl,rfl,SqT.of et2,at2,?_⟩;refine⟨_,rfl,_,rfl,_,rfl,_,_,t,_,rfl,ht2,by rw[hel,o.len],?_⟩;refine⟨_,rfl,t,rfl,⟨_,SqL.of ht2⟩,Dn (K:=K) (a:=t) (xs:=es) (λj σ H3=>(∃v6':Option V,σ = [some (.int (m:Int)),some (.ref a),some (.ref d),some (.ref a'),some (.str l.name),some (.ref t),v6'])/\Same H2 H3) ⟨⟨_,rfl⟩,Same.refl _⟩ (λj σ H3 _ hh0=>by obtain⟨_,s3⟩:=hh0;exact SqL.of (s3 _ _ ht2)) ?_ ?_⟩
  ·rintro j y σ H3 hy' ⟨⟨v6',rfl⟩,s3⟩;obtain⟨ns,hns,hnm,b,rfl,eb⟩:=he.at hy';exact⟨_,rfl,_,rfl,_,rfl,_,_,b,ns,rfl,(s2.trans s3) _ _ eb,o.up ns hnm,o.inn ns hnm,o.few ns hnm,λH4 s4=>⟨⟨_,rfl⟩,s3.trans s4⟩⟩
  rintro σ H3 ⟨⟨v6',rfl⟩,s3⟩;have ht3:=s3 _ _ ht2;refine⟨_,rfl,t,rfl,⟨_,SqL.of ht3⟩,λD hD=>?_⟩
  refine B8 (n:=es.length) (λj ys H4=>ys=(l.tab.take j).map (λn=>V.int (bt n:Nat))/\Same H3 H4/\H4 D=some (.lst ys)) ⟨rfl,Same.new hD,Ag⟩
   (λj ys H4 hj hh0=>by obtain⟨_,s4,_⟩:=hh0;exact⟨_,es[j],SqL.of (s4 _ _ ht3),by simp[hj]⟩) (λys H4 hh0=>by obtain⟨_,s4,_⟩:=hh0;exact⟨_,SqL.of (s4 _ _ ht3),by simp⟩) ?_ ?_
  ·rintro j ys H4 y H5 hj ⟨rfl,s4,e4⟩ ⟨rfl,hy'⟩;refine Ce ?_;obtain⟨ns,hns,hnm,b,rfl,eb⟩:=he.at (hy' _ (SqL.of (s4 _ _ ht3)));refine⟨_,rfl,b,ns,rfl,SqL.of (((s2.trans s3).trans s4) _ _ eb),o.wd hm ns hnm,_,e4,by rw[Ak,Bu,o.len];lia,?_,s4.put hD,Ag⟩;obtain⟨hj2,ej⟩:=AG.mp hns;rw[BF hj2,Ba,ej];rfl
  rintro ys H4 ⟨rfl,s4,e4⟩;rw[hel,BP]at e4;refine⟨D,_,rfl,.inl ⟨SqL.of e4,λtp htp=>?_⟩⟩;have s24:=s3.trans s4;have s3':Same H4 (Ab H4 tp (.tup (l.tab.map λn=>V.int (bt n:Nat)))):=Same.new htp;have e24:=s24 _ _ e2;refine⟨_,rfl,_,rfl,d,_,rfl,DPut.k (k:=(Sum.inr l.name:Af)) (s3' _ _ e24) (by lia),?_⟩;rw[Eg _ hnone];refine⟨_,_,_,_,_,rfl,((s2.trans s24).trans s3').put hd,Ag,?_⟩;have dt:tp≠d:=(AF e24 htp).symm;rw[BF hi2,ei];refine KA.snoc (ka.mono λv x _ r=>r.keep λb xs e=>?_) ⟨tp,rfl,by rw[Ai dt];exact Ag⟩;rw[Ai (A7 e e2 (by intro z;cases z))];exact s3' _ _ (s24 _ _ e)
 rintro σ H2 ⟨v3,v4,v5,v6,kvs,rfl,s2,e2,ka⟩;rw[hul,BP]at ka;exact⟨_,rfl,q d kvs H2 s2 hd e2 ka⟩
def Ra:bootBuiltins "enumerate" = some (.type "enumerate"):=by decide +kernel
def VH:bootBuiltins "dict" = some (.type "dict"):=by decide +kernel
def Uw {J:It} (Pv:Nat->List V->Hp->Prop)(h0:Pv 0 [] (Ab H0 D (.lst [])))
  (go:∀i ys H,i<n->Pv i ys H->J.go i H)(stop:∀ys H,Pv n ys H->J.stop n H)
  (hs:∀i ys H x H1,i<n->Pv i ys H->J.yld i H x H1->∃(a:Addr) (u v:V),x=.ref a/\SqT K H1 a [u,v]/\tc (some u::some v::ρ) H1 λb H3=>if b=true then te (some u::some v::ρ) H3 λy H4=>∃zs,H4 D=some (.lst zs)/\zs.length<sizeLine/\Pv (i+1) (zs++[y]) (Ab H4 D (.lst (zs++[y])))else Pv (i+1) ys H3)
  (hd:∀ys H,Pv n ys H->fin H):∃W:Nat->Nat->List V->Hp->Prop,(∃m,W 0 m [] (Ab H0 D (.lst [])))/\Iy J D (none::none::ρ) (Jz K 2 (JA (E4 0) (JA (E4 1) QQ))) tc te fin W:=by
 refine⟨λi m ys H=>m=n-i/\i<=n/\Pv i ys H,⟨n,rfl,A5 _,h0⟩,?_⟩
 rintro i m ys H ⟨rfl,hi,p⟩
 by_cases hlt:i<n
 ·refine .inr ⟨go i ys H hlt p,Pv (i+1),λys' H' p'=>⟨n-(i+1),by lia,rfl,hlt,p'⟩,λx H1 y=>?_⟩;obtain⟨a,u,v,rfl,hq,h⟩:=hs i ys H x H1 hlt p y;exact⟨a,_,rfl,hq,rfl,_,_,rfl,_,_,rfl,rfl,Xg,h⟩
 have e:i=n:=by lia
 subst e
 exact .inl ⟨stop ys H p,hd ys H p⟩
def kX {a:Addr}{xs:List V}{g:TG}{tb:TS}{D:FH}{σ:L2.St}{H:Hp}(Pv:Nat->L2.St->Hp->Prop)(h0:Pv 0 σ H)(hl:∀i σ H,i<=xs.length->Pv i σ H->SqT K H a xs)
  (hs:∀i x p σ H,xs[i]? = some x->Pv i σ H->H p=none->g (.ref p) σ (Ab H p (.tup [.int (i:Nat),x])) λσ2 H2=>tb { D with nx:=Pv (i+1),ct:=Pv (i+1),bk:=D.nx } σ2 H2)(hd:∀σ H,Pv xs.length σ H->D.nx σ H) :
  ∃W:Nat->Nat->L2.St->Hp->Prop,(∃m,W 0 m σ H)/\∀i m σ H,W i m σ H ->
   ((J5 K a).stop i H/\D.nx σ H)\/((J5 K a).go i H/\∃N:L2.St->Hp->Prop,(∀σ' H',N σ' H'->∃m',m'<m/\W (i+1) m' σ' H')/\∀x H',(J5 K a).yld i H x H'->g x σ H' λσ2 H2=>tb { D with nx:=N,ct:=N,bk:=D.nx } σ2 H2):=by
 refine⟨λi m σ H=>m=xs.length-i/\i<=xs.length/\Pv i σ H,⟨xs.length,by simp,A5 _,h0⟩,?_⟩
 rintro i m σ H ⟨rfl,hi,p⟩
 have q:=hl i σ H hi p
 by_cases hlt:i<xs.length
 ·refine .inr ⟨⟨xs,xs[i],q,by simp[hlt]⟩,Pv (i+1),λσ' H' p'=>⟨xs.length-(i+1),by lia,rfl,hlt,p'⟩,λx H' y=>?_⟩;obtain⟨pp,x',rfl,hp,rfl,hx⟩:=y;exact hs i x' pp σ H (hx xs q) p hp
 have e:i=xs.length:=by lia
 subst e
 exact .inl ⟨⟨xs,q,rfl⟩,hd σ H p⟩
def UW {a:Addr}{o:Obj}{kvs:List (Af×V)}{g:TG}{tb:TS}{D:FH}{σ:L2.St}{H:Hp}(Pv:Nat->L2.St->Hp->Prop)(h0:Pv 0 σ H)(hl:∀i σ H,i<=kvs.length->Pv i σ H->H a=some (.frz o (.dK kvs)))
  (hs:∀i kv p σ H,kvs[i]? = some kv->Pv i σ H->H p=none->g (.ref p) σ (Ab H p (.tup [kV kv.1,kv.2])) λσ2 H2=>tb { D with nx:=Pv (i+1),ct:=Pv (i+1),bk:=D.nx } σ2 H2)(hd:∀σ H,Pv kvs.length σ H->D.nx σ H) :
  ∃W:Nat->Nat->L2.St->Hp->Prop,(∃m,W 0 m σ H)/\∀i m σ H,W i m σ H ->
   ((J4 a o kvs).stop i H/\D.nx σ H)\/((J4 a o kvs).go i H/\∃N:L2.St->Hp->Prop,(∀σ' H',N σ' H'->∃m',m'<m/\W (i+1) m' σ' H')/\∀x H',(J4 a o kvs).yld i H x H'->g x σ H' λσ2 H2=>tb { D with nx:=N,ct:=N,bk:=D.nx } σ2 H2):=by
 refine⟨λi m σ H=>m=kvs.length-i/\i<=kvs.length/\Pv i σ H,⟨kvs.length,by simp,A5 _,h0⟩,?_⟩
 rintro i m σ H ⟨rfl,hi,p⟩
 have q:=hl i σ H hi p
 by_cases hlt:i<kvs.length
 ·refine .inr ⟨⟨hlt,q⟩,Pv (i+1),λσ' H' p'=>⟨kvs.length-(i+1),by lia,rfl,hlt,p'⟩,λx H' y=>?_⟩;obtain⟨pp,k,v,rfl,hp,rfl,hx⟩:=y;exact hs i (k,v) pp σ H hx p hp
 have e:i=kvs.length:=by lia
 subst e
 exact .inl ⟨⟨Au _,q⟩,hd σ H p⟩
def El (tab:List (Option Str))(s:Str):List Int:=((List.range tab.length).filter λi=>decide (tab[i]? = some (some s))).map λi:Nat=>(i:Int)
def QI (tab:List (Option Str))(x:Option Str)(s:Str):El (tab++[x]) s=El tab s++(if x=some s then [(tab.length:Int)]else []):=by
 unfold El;rw[AY,Oj,Lv,filter_append,Ba];congr 1
 ·congr 1;refine filter_congr λi hi=>?_;rw[Dq (DJ.mp hi)]
 by_cases h:x=some s
 ·rw[As h,List.filter_cons_of_pos (by simp[h])];rfl
 rw[Am h,List.filter_cons_of_neg (by simp[h])];rfl
structure PsOk (tab:List (Option Str))(ps:List (Str×V)):Prop where
 nd:(ps.map (·.1)).Nodup
 val:∀p∈ps,p.2=V.int (bt (El tab p.1):Nat)
 has:∀s,some s∈tab↔s∈ps.map (·.1)
abbrev kf (p:Str×V):Af×V:=(Sum.inr p.1,p.2)
def PsOk.zero:PsOk [] []:=⟨GS,(λp h=>nomatch h),λs=>⟨(λh=>nomatch h),(λh=>nomatch h)⟩⟩
def PsOk.skip (h:PsOk tab ps):PsOk (tab++[none]) ps:=⟨h.nd,λp hp=>by
 rw[QI,Am (by simp),Cm];exact h.val p hp,λs=>by
 rw[<- h.has s];simp⟩
def Sm {ps:List (Str×V)}{s:Str}(h:s∉ps.map (·.1)):Ay (ps.map kf) (Sum.inr s:Af)=none:=by
 cases e:Ay (ps.map kf) (Sum.inr s:Af)with
 | none=>rfl
 | some v=>exfalso;have:=Ma e;rw[By]at this;obtain⟨p,hp,ep⟩:=Bi.mp this;exact h (Bi.mpr ⟨p,hp,Cv ep⟩)
def PsOk.old (h:PsOk tab ps)(s:Str):(Ay (ps.map kf) (Sum.inr s:Af)).getD (.int 0)=V.int (bt (El tab s):Nat):=by
 by_cases hs:s∈ps.map (·.1)
 ·obtain⟨p,hp,ep⟩:=Bi.mp hs;obtain⟨i,hi⟩:=G9 hp;have hk:(ps.map kf)[i]? = some (kf p):=by rw[AI,hi];rfl
  have nd:((ps.map kf).map (·.1)).Nodup:=by rw[By,show((λx:Af×V=>x.1) ∘ kf)=(Sum.inr ∘ λp:Str×V=>p.1) from rfl,<- By];exact N2.mpr (List.Pairwise.imp (λh e=>h (Cv e)) h.nd)
  have:=Wn nd hk;rw[show(kf p).1=(Sum.inr s:Af) from by rw[<- ep]]at this;rw[this,<- ep];exact h.val p hp
 rw[Sm hs]
 have e:El tab s=[]:=by
  unfold El;rw[filter_eq_nil_iff.mpr λi hi z=>?_]
  ·rfl
  exact hs ((h.has s).mp (Bz (A4 z)))
 rw[e];rfl
def PsOk.put (h:PsOk tab ps)(s:Str):∃ps':List (Str×V),BL (ps.map kf) (Sum.inr s:Af) (V.int (bt (El (tab++[some s]) s):Nat))=ps'.map kf/\PsOk (tab++[some s]) ps':=by
 generalize hv:V.int (bt (El (tab++[some s]) s):Nat)=v;have other:∀x,x≠s->El (tab++[some s]) x=El tab x:=λx hx=>by rw[QI,Am (λe=>hx (Bs e).symm),Cm]
 have mem:∀x,some x∈tab++[some s]↔(some x∈tab\/x=s):=λx=>by rw[BK,AX,Option.some.injEq]
 by_cases hs:s∈ps.map (·.1)
 ·refine⟨ps.map λp=>if p.1=s then(p.1,v)else p,?_,?_⟩
  ·unfold BL;rw[As]
   ·rw[By,By];refine map_congr_left λp _=>?_;show(if (Sum.inr p.1:Af)=Sum.inr s then((Sum.inr p.1:Af),v)else(Sum.inr p.1,p.2))=kf (if p.1=s then(p.1,v)else p);by_cases e:p.1=s
    ·rw[As (by rw[e]),As e]
    rw[Am (λz=>e (Cv z)),Am e]
   obtain⟨p,hp,ep⟩:=Bi.mp hs;exact Ie.mpr ⟨kf p,Bi.mpr ⟨p,hp,rfl⟩,AR (by rw[<- ep])⟩
  have ek:(ps.map λp=>if p.1=s then(p.1,v)else p).map (·.1)=ps.map (·.1):=by rw[By];refine map_congr_left λp _=>?_;show(if p.1=s then(p.1,v)else p).1=p.1;split <;> rfl
  refine⟨by rw[ek];exact h.nd,λp hp=>?_,λx=>?_⟩
  ·obtain⟨p0,hp0,e⟩:=Bi.mp hp;by_cases e0:p0.1=s
   ·rw[As e0]at e;rw[<- e];show v=_;rw[<- hv,e0]
   rw[Am e0]at e;rw[<- e,other _ e0];exact h.val p0 hp0
  rw[ek,mem,h.has];exact⟨λz=>z.elim id (λe=>by rw[e];exact hs),.inl⟩
 refine⟨ps++[(s,v)],?_,?_⟩
 ·rw[Eg _ (Sm hs),Ba];rfl
 refine⟨?_,λp hp=>?_,λx=>?_⟩
 ·rw[Ba];exact Cw.mpr ⟨h.nd,by simp,λa ha b hb e=>hs (by have hb':b=s:=AX.mp hb;rw[<- hb',<- e];exact ha)⟩
 ·rcases(BK.mp hp)with z | z
  ·rw[other _ (λe=>hs (by rw[<- e];exact Bi.mpr ⟨p,z,rfl⟩))];exact h.val p z
  rw[AX.mp z];exact hv.symm
 rw[mem,h.has,Ba,BK];simp
inductive O7 (vs:List V)(H:Hp)(Q:VK)(E0_:XK):Prop
 | mk (t:Addr) (tab:List (Option Str)) (as:List Str) (c0:vs=[.ref t]) (c1:H t=some (.tup (tab.map oS))) (c2:tab.length<=200) (c3:(∀s,some s∈tab->s∈as)) (c4:as.length<=3) (c5:as.Nodup) (c6:∀(r:Addr) (ro:Obj) (ts:List Addr) (ps zs:List (Str×V)) (H':Hp),Same H H'->ro.dict=none->H' r=some (.frz ro (.tup (ts.map V.ref)))->OG H' ts zs->zs.Perm ps->Ny zs=true->PsOk tab ps->Q (.ref r) H'):O7  vs H Q E0_
abbrev IV:List Str:=["answers"]
abbrev cX:List Str:=BI IV ["found", "world", "answer"]
def scParted:AM cX IV (Av MG):=AO
def ZY (F:Fun K "parted" "parted" MG f fd)(T:Bl mg)(C_set_of:Ca P w K mg base CX0 1 "set_of" IE Hv (J7 K)):FnOk P w K mg base CX0 2 f fd IV O7:=by
 refine F.oq scParted λcdv A outer s H vs Q E hr1 h=>?_;obtain⟨t,tab,as,rfl,ht,hl,has,a3,and',q⟩:=h;have hu:=CL hr1;have ae:sizeLine=16777216:=AK;refine⟨_,(Aj (AB (i:=1) scParted.nd FR) (Aj (BU BS rfl (Qn (by rfl) T.enumerate Ra (Aa (pv 0) Ac)) (Gv rfl (Dj (AZ (i:=2) scParted.nd) (Dj (AZ (i:=3) scParted.nd) Gu))) (Ao (AQ (AC Jn (pv 3) CG (AD _)) (Ao (Dg hu (pv 1) (pv 3) (Ax T3 (Zi hu (pv 1) (pv 3) Ah ⟨by rfl,by rfl,by rfl,by rfl⟩) (A0 C_set_of hr1 Ar (Aa (Bk (Aa (pv 2) Ac)) Ac))) rfl)) AS))) (Ao (AA (BW mZ (by rfl) T.tuple EF (Aa (AV (nC rfl) (by rfl) T.sorted Q9 (Aa (Qs JE Oy PySem.F.type_dict_items gM (pv 1)) Ac)) Ac)))))),?_⟩;intro d hd;have s0:Same H (Ab H d (.dK [])):=Same.new hd;refine⟨_,rfl,t,rfl,⟨_,SqT.of (s0 _ _ ht)⟩,kX (K:=K) (a:=t) (xs:=tab.map oS) (λi σ H2=>∃(v2 v3:Option V) (ps:List (Str×V)),σ = [some (.ref t),some (.ref d),v2,v3]/\Same H H2/\H2 d=some (.dK (ps.map kf))/\PsOk (tab.take i) ps) ⟨none,none,[],rfl,s0,Ag,by rw[GO];exact PsOk.zero⟩ (λi σ H2 _ hh0=>by obtain⟨_,_,_,_,s2,_⟩:=hh0;exact SqT.of (s2 _ _ ht)) ?_ ?_⟩
 ·rintro i x p σ H2 hx ⟨v2,v3,ps,rfl,s2,e2,po⟩ hp;rw[AI]at hx;cases hti:tab[i]? with
  | none=>rw[hti]at hx;cases hx
  | some o=>
   rw[hti]at hx;have hx':x=oS o:=(Bs hx).symm;subst hx';obtain⟨hi,ei⟩:=AG.mp hti;have htk:tab.take (i+1)=tab.take i++[o]:=by rw[BF hi,ei]
   have s3:Same H2 (Ab H2 p (.tup [.int (i:Nat),oS o])):=Same.new hp;refine⟨p,_,rfl,SqT.of Ag,rfl,_,_,rfl,_,_,rfl,rfl,?_⟩;generalize (Ab H2 p (.tup [.int (i:Nat),oS o]))=H3 at s3 ⊢;have e3:=s3 _ _ e2;cases o with
   | none=>refine⟨_,rfl,rfl,_,rfl,?_⟩;refine AN ⟨_,_,ps,rfl,s2.trans s3,e3,?_⟩;rw[htk];exact po.skip
   | some sa=>
    refine⟨_,rfl,rfl,_,rfl,?_⟩;refine Bb ?_;refine⟨_,rfl,d,rfl,.inl ⟨_,.inl e3⟩,_,rfl,_,DGet.k (k:=(Sum.inr sa:Af)) e3,?_⟩;rw[po.old sa];refine⟨_,rfl,Bf,λlb hlb=>?_⟩;have s4:Same H3 (Ab H3 lb (.lst [.int (i:Nat)])):=Same.new hlb;refine⟨lb,[(i:Int)],rfl,SqL.of Ag,λn hn=>by rw[AX.mp hn];exact⟨by lia,by lia⟩,_,_,rfl,rfl,?_⟩;have hbo:Builtin.bitOr ((bt (El (tab.take i) sa):Nat):Int) ((bt [(i:Int)]:Nat):Int)=((bt (El (tab.take (i+1)) sa):Nat):Int):=by rw[T1,htk,QI,As rfl,Bu,LB (by lia),VG,show bt [(i:Int)]=2^((i:Int)).toNat from by unfold bt;simp]
    rw[hbo];obtain⟨ps',e',po'⟩:=po.put sa;rw[<- htk]at e' po';have hpl:(ps.map kf).length<=200:=by have h1:(ps.map (·.1)).length<=as.length:=V3 po.nd λz hz=>has z (G8 ((po.has z).mpr hz));rw[Ak]at h1 ⊢;lia
    refine⟨_,rfl,_,rfl,d,_,rfl,DPut.k (k:=(Sum.inr sa:Af)) (s4 _ _ e3) (by lia),?_⟩;rw[e'];exact⟨_,_,ps',rfl,((s2.trans s3).trans s4).put hd,Ag,po'⟩
 rintro σ H2 ⟨v2,v3,ps,rfl,s2,e2,po⟩;rw[Ak,BP]at po;have h3:ps.length<=3:=by have h1:(ps.map (·.1)).length<=as.length:=V3 po.nd λz hz=>has z ((po.has z).mpr hz);rw[Ak]at h1;lia
 refine⟨_,rfl,.inr (.inr (.inl ⟨rfl,.inl ⟨_,e2⟩⟩)),d,_,rfl,rfl,e2,λv hv=>?_⟩;have s3:Same H2 (Ab H2 v (CA v d)):=Same.new hv;refine⟨v,d,ps,rfl,Ag,s3 _ _ e2,h3,λl ts zs H4 s4 hl4 pm lt el pr=>?_⟩;refine⟨l,_,rfl,SqL.of el,λr ro hr hd0=>?_⟩;have s5:Same H4 (Ab H4 r (.frz ro (.tup (ts.map V.ref)))):=Same.new hr;exact q r ro ts ps zs _ (((s2.trans s3).trans s4).trans s5) hd0 Ag ⟨pr.1,λi a p h1 h2=>s5 _ _ (pr.2 i a p h1 h2)⟩ pm lt po
abbrev Jh:List Str:=["outs", "answers"]
abbrev eZ:List Str:=BI Jh ["found", "name", "sets", "told"]
def scDoableSets:AM eZ Jh (Av II):=AO
def C6 {α:Type}(p:α->Bool)(tab:List α):List Int:=((List.range tab.length).filter λi=>(tab[i]?.map p).getD false).map λi:Nat=>(i:Int)
def Ve {α:Type}(p:α->Bool)(tab:List α)(x:α):C6 p (tab++[x])=C6 p tab++(if p x=true then [(tab.length:Int)]else []):=by
 unfold C6;rw[AY,Oj,Lv,filter_append,Ba];congr 1
 ·congr 1;refine filter_congr λi hi=>?_;rw[Dq (DJ.mp hi)]
 by_cases h:p x=true
 ·rw[As h,List.filter_cons_of_pos (by simp[h])];rfl
 rw[Am h,List.filter_cons_of_neg (by simp[h])];rfl
def Vd {α:Type}(p:α->Bool){tab:List α}(h:tab.length<=200):R1 (C6 p tab):=λn hn=>by unfold C6 at hn;obtain⟨i,hi,rfl⟩:=Bi.mp hn;have:=DJ.mp (mem_filter.mp hi).1;exact⟨by lia,by lia⟩
def mB {α:Type}(p:α->Bool)(tab:List α):(C6 p tab).length<=tab.length:=by unfold C6;rw[Ak];exact Eb (length_filter_le _ _) (by rw[EI];exact Au _)
inductive PF (vs:List V)(H:Hp)(Q:VK)(E0_:XK):Prop
 | mk (a b:Addr) (ka kb:List (Af×V)) (ds:List Dee) (ls:List Loo) (o2:Obj) (c0:vs=[.ref a,.ref b]) (c1:a≠b) (c2:H a=some (.dK ka)) (c3:H b=some (.frz o2 (.dK kb))) (c4:KA Dee.name (OuV H) ka ds) (c5:KA Loo.name (AnV H) kb ls) (c6:(ds.map Dee.name++ls.map Loo.name).Nodup) (c7:ds.length<=40) (c8:ls.length<=40) (c9:(∀d∈ds,d.tab.length<=200)) (c10:(∀l∈ls,l.tab.length<=200)) (c11:∀(d:Addr) (kvs:List (Af×V)) (H':Hp) (o1:Obj),(∀c u,H c=some u->c≠a->H' c=some u)->H d=none->H' d=some (.dK kvs)->H' a=some (.frz o1 (.dK ka)) ->     KA (λp:Str×Nat=>p.1) (λv p=>v=V.int (p.2:Int)) kvs (ds.map (λd=>(d.name,bt (C6 (λn=>decide (bt n≠0)) d.tab)))++ls.map λl=>(l.name,bt (C6 isSome l.tab)))->Q (.ref d) H'):PF  vs H Q E0_
def KA.snoc2 {k:Nat}(h:KA (λp:Str×Nat=>p.1) (λv p=>v=V.int (p.2:Int)) kvs L):KA (λp:Str×Nat=>p.1) (λv p=>v=V.int (p.2:Int)) (kvs++[(Sum.inr n,V.int (k:Int))]) (L++[(n,k)]):=KA.snoc (d:=(n,k)) h rfl
def Iv {α:Type}{xs:List α}{i:Nat}{x:α}(h:xs[i]? = some x):xs.take (i+1)=xs.take i++[x]:=by (obtain⟨hi,e⟩:=AG.mp h);rw[BF hi,e]
def Vc {α:Type}(p:α->Bool){K:W.Frag}{t D:Addr}{xs:List V}{tab:List α}{H3:Hp}(hlen:xs.length=tab.length)(ht3:H3 t=some (.tup xs))(hl:tab.length<=200){fin:Hp->Prop}{tc:TT}{ρ:L2.St}(hD:H3 D=none)
  (test:∀(j:Nat) (x:V) (y:α) (H4:Hp) (A B:Hp->Prop),xs[j]? = some x->tab[j]? = some y->(p y=true->A H4)->(¬p y=true->B H4)->tc (some (.int (j:Nat))::some x::ρ) H4 λb H5=>if b=true then A H5 else B H5)
  (q:∀H4:Hp,Same H3 H4->H4 D=some (.lst ((C6 p tab).map V.int))->fin H4):∃W:Nat->Nat->List V->Hp->Prop,(∃m,W 0 m [] (Ab H3 D (.lst [])))/\Iy (J5 K t) D (none::none::ρ) (Jz K 2 (JA (E4 0) (JA (E4 1) QQ))) tc (Iw 0) fin W:=by
 have ae:sizeLine=16777216:=AK
 refine Uw (K:=K) (n:=xs.length) (λj ys H4=>ys=(C6 p (tab.take j)).map V.int/\Same H3 H4/\H4 D=some (.lst ys)) ⟨rfl,Same.new hD,Ag⟩
  (λj ys H4 hj hh0=>by obtain⟨_,s4,_⟩:=hh0;exact⟨_,xs[j],SqT.of (s4 _ _ ht3),by simp[hj]⟩) (λys H4 hh0=>by obtain⟨_,s4,_⟩:=hh0;exact⟨_,SqT.of (s4 _ _ ht3),rfl⟩) ?_ ?_
 ·rintro j ys H4 x H5 hj ⟨rfl,s4,e4⟩ ⟨pp,x',rfl,hpp,rfl,hx⟩;have hx2:=hx _ (SqT.of (s4 _ _ ht3));have hjt:j<tab.length:=by lia
  have hy:tab[j]? = some tab[j]:=AH hjt;have s5:Same H4 (Ab H4 pp (.tup [.int (j:Nat),x'])):=Same.new hpp;have htk:tab.take (j+1)=tab.take j++[tab[j]]:=Iv hy;have hlk:(tab.take j).length=j:=by rw[Bu];lia
  have hle:=mB p (tab.take j);refine⟨pp,_,_,rfl,SqT.of Ag,test j x' _ _ _ _ hx2 hy (λh=>?_) (λh=>⟨?_,s4.trans s5,s5 _ _ e4⟩)⟩
  ·refine⟨_,rfl,_,s5 _ _ e4,by rw[Ak];lia,?_,(s4.trans s5).put hD,Ag⟩;rw[htk,Ve,As h,Ba,hlk];rfl
  rw[htk,Ve,Am h,Cm]
 rintro ys H4 ⟨rfl,s4,e4⟩
 rw[hlen,BP]at e4
 exact q H4 s4 e4
def bG (F:Fun K "doable_sets" "doable_sets" II f fd)(T:Bl mg)(C_set_of:Ca P w K mg base CX0 1 "set_of" IE Hv (J7 K)):FnOk P w K mg base CX0 2 f fd Jh PF:=by
 refine F.oq scDoableSets λcdv A outer s H vs Q E hr1 h=>?_;obtain⟨a,b,ka,kb,ds,ls,o2,rfl,ab,ha,hb,hka,hkb,nd,fd',fl,td,tl,q⟩:=h;have hu:=CL hr1;have ae:sizeLine=16777216:=AK;refine⟨_,(Aj (AB (i:=2) scDoableSets.nd FR) (Aj (BU BS rfl (Ql (Qp (pv 0))) (Gv rfl (Dj (AZ (i:=3) scDoableSets.nd) (Dj (AZ (i:=4) scDoableSets.nd) Gu))) (Ao (Dg hu (pv 2) (pv 3) (A0 C_set_of hr1 Ar (Aa (CZ (N:=["world", "some"]) (sc:=Av II) (own:=["world", "some"]) (fr:=[]) (js:=[]) BX rfl (Qn (by rfl) T.enumerate Ra (Aa (pv 4) Ac)) (λ_ _ _ _=>QO K rfl (Gv (n:=2) rfl (Dj (AZ (i:=0) (show List.Nodup (["world", "some"]:List Str) by decide +kernel)) (Dj (AZ (i:=1) (show List.Nodup (["world", "some"]:List Str) by decide +kernel)) Gu)))) (λ_ _ _ _=>Qk (AC Gy (pv 1) Ah (AD _))) (λ_ _ _ _=>(pv 0))) Ac)) rfl))) (Aj (BU BS rfl (Ql (Qp (pv 1))) (Gv rfl (Dj (AZ (i:=3) scDoableSets.nd) (Dj (AZ (i:=5) scDoableSets.nd) Gu))) (Ao (Dg hu (pv 2) (pv 3) (A0 C_set_of hr1 Ar (Aa (CZ (N:=["world", "answer"]) (sc:=Av II) (own:=["world", "answer"]) (fr:=[]) (js:=[]) BX rfl (Qn (by rfl) T.enumerate Ra (Aa (pv 5) Ac)) (λ_ _ _ _=>QO K rfl (Gv (n:=2) rfl (Dj (AZ (i:=0) (show List.Nodup (["world", "answer"]:List Str) by decide +kernel)) (Dj (AZ (i:=1) (show List.Nodup (["world", "answer"]:List Str) by decide +kernel)) Gu)))) (λ_ _ _ _=>Qk (AC Jn (pv 1) CG (AD _))) (λ_ _ _ _=>(pv 0))) Ac)) rfl))) (Ao (AA (pv 2)))))),?_⟩;intro d hd;have s0:Same H (Ab H d (.dK [])):=Same.new hd;have da:a≠d:=AF ha hd;have db:b≠d:=AF hb hd;refine⟨_,rfl,a,ka,rfl,.inl (s0 _ _ ha),λv hv=>?_⟩;have s1:Same (Ab H d (.dK [])) (Ab (Ab H d (.dK [])) v (CA v a)):=Same.new hv;have s01:=s0.trans s1;have vd:d≠v:=λz=>by rw[<- z,Ag]at hv;cases hv
 refine⟨v,a,ka,rfl,Ag,.inl ⟨s01 _ _ ha,λo1=>?_⟩⟩;have kp0:∀c u,H c=some u->c≠a->(Ab (Ab (Ab H d (.dK [])) v (CA v a)) a (.frz o1 (.dK ka))) c=some u:=λc u e hc=>by rw[Ai hc];exact s01 _ _ e
 have ea0:(Ab (Ab (Ab H d (.dK [])) v (CA v a)) a (.frz o1 (.dK ka))) a=some (.frz o1 (.dK ka)):=Ag;have ed0:(Ab (Ab (Ab H d (.dK [])) v (CA v a)) a (.frz o1 (.dK ka))) d=some (.dK []):=by rw[Ai da.symm,Ai vd];exact Ag
 generalize (Ab (Ab (Ab H d (.dK [])) v (CA v a)) a (.frz o1 (.dK ka)))=H1 at kp0 ea0 ed0 ⊢;have hkl:=hka.len;have hkl2:=hkb.len
 refine UW (a:=a) (o:=o1) (kvs:=ka) (λi σ H2=>∃(v3 v4 v5:Option V) (kvs:List (Af×V)),σ = [some (.ref a),some (.ref b),some (.ref d),v3,v4,v5]/\(∀c u,H c=some u->c≠a->H2 c=some u)/\H2 a=some (.frz o1 (.dK ka))/\H2 d=some (.dK kvs)/\KA (λp:Str×Nat=>p.1) (λv p=>v=V.int (p.2:Int)) kvs ((ds.map (λd=>(d.name,bt (C6 (λn=>decide (bt n≠0)) d.tab)))).take i)) ⟨none,none,none,[],rfl,kp0,ea0,ed0,by rw[GO];exact KA.nil⟩
  (λi σ H2 _ hh0=>by obtain⟨_,_,_,_,_,_,e,_⟩:=hh0;exact e) ?_ ?_
 ·rintro i kv p σ H2 hkv ⟨v3,v4,v5,kvs,rfl,kp,ea,ed,kk⟩ hp;have hil:i<ds.length:=by have:=(AG.mp hkv).1;lia
  have hdi:ds[i]? = some ds[i]:=AH hil;obtain⟨ek,t,ev,ht⟩:=hka.got i kv _ hkv hdi;have hdm:ds[i]∈ds:=BY hil;generalize ds[i]=de at hdi ek ht hdm;obtain⟨k0,v0⟩:=kv;have ek':k0=Sum.inr de.name:=ek;have ev':v0=V.ref t:=ev;subst ek' ev';have s3:Same H2 (Ab H2 p (.tup [kV (Sum.inr de.name:Af),V.ref t])):=Same.new hp;refine⟨p,_,rfl,SqT.of Ag,rfl,_,_,rfl,_,_,rfl,rfl,?_⟩;have ta:t≠a:=A7 ht ha (by intro z;cases z);have ht3:=s3 _ _ (kp _ _ ht ta);have ed3:=s3 _ _ ed;have ea3:=s3 _ _ ea;have kp3:∀c u,H c=some u->c≠a->(Ab H2 p (.tup [kV (Sum.inr de.name:Af),V.ref t])) c=some u:=λc u e hc=>s3 _ _ (kp c u e hc);generalize (Ab H2 p (.tup [kV (Sum.inr de.name:Af),V.ref t]))=H3 at ht3 ed3 ea3 kp3 ⊢;have htl:=td de hdm;refine⟨_,rfl,t,rfl,⟨_,SqT.of ht3⟩,λD hD=>?_⟩;refine Vc (λn=>decide (bt n≠0)) (Ak ..) ht3 htl hD (λj x y H4 A B hx hy h1 h2=>?_) λH4 s4 e4=>?_
  ·rw[AI,hy]at hx;have hx':x=V.int (bt y:Nat):=(Bs hx).symm;subst hx';refine⟨_,rfl,rfl,_,rfl,?_⟩;refine Bd (λz=>h1 (AR λe=>?_)) (λz=>h2 λe=>z ?_)
   ·rw[e]at z;exact absurd z (by decide)
   have:=A4 e;show(!decide (V.int ((bt y:Nat):Int)=V.int 0))=true;rw[BC λw=>this (by have:=V.int.inj w;lia)];rfl
  refine⟨D,_,rfl,SqL.of e4,Vd _ htl,?_⟩;have ed4:=s4 _ _ ed3;have hnone:Ay kvs (Sum.inr de.name:Af)=none:=kk.none λz=>?_
  ·have hkl4:=kk.len;rw[Bu,Ak]at hkl4;refine⟨_,rfl,_,rfl,d,_,rfl,DPut.k (k:=(Sum.inr de.name:Af)) ed4 (by lia),?_⟩;rw[Eg _ hnone];refine⟨_,_,_,_,rfl,λc u e hc=>?_,?_,Ag,?_⟩
   ·rw[Ai (λz=>by rw[z,hd]at e;cases e)];exact s4 _ _ (kp3 c u e hc)
   ·rw[Ai da];exact s4 _ _ ea3
   rw[Iv (x:=(de.name,bt (C6 (λn=>decide (bt n≠0)) de.tab))) (by rw[AI,hdi];rfl)];exact kk.snoc2
  rw[<- DH,By]at z;have nd1:=(Cw.mp nd).1;have hnd:((ds.take (i+1)).map Dee.name).Nodup:=by rw[DH];exact GG (Gf _ _) nd1
  rw[Iv hdi,Ba]at hnd;exact(Cw.mp hnd).2.2 _ z de.name (AX.mpr rfl) rfl
 rintro σ H2 ⟨v3,v4,v5,kvs0,rfl,kp,ea,ed,kk0⟩;rw[hkl,FB (by rw[Ak];exact Au _)]at kk0;have hb2:=kp _ _ hb ab.symm;refine⟨_,rfl,b,kb,rfl,.inr ⟨o2,hb2⟩,λv hv=>?_⟩;have s1:Same H2 (Ab H2 v (CA v b)):=Same.new hv;refine⟨v,b,kb,rfl,Ag,.inr ⟨o2,s1 _ _ hb2,?_⟩⟩;have hb1:=s1 _ _ hb2;have kp1:∀c u,H c=some u->c≠a->(Ab H2 v (CA v b)) c=some u:=λc u e hc=>s1 _ _ (kp c u e hc);have ea1:=s1 _ _ ea;have ed1:=s1 _ _ ed;generalize (Ab H2 v (CA v b))=H1 at kp1 ea1 ed1 hb1 ⊢
 refine UW (a:=b) (o:=o2) (kvs:=kb) (λi σ H2=>∃(v3 v4 v5:Option V) (kvs:List (Af×V)),σ = [some (.ref a),some (.ref b),some (.ref d),v3,v4,v5]/\(∀c u,H c=some u->c≠a->H2 c=some u)/\H2 a=some (.frz o1 (.dK ka))/\H2 d=some (.dK kvs)/\KA (λp:Str×Nat=>p.1) (λv p=>v=V.int (p.2:Int)) kvs (ds.map (λd=>(d.name,bt (C6 (λn=>decide (bt n≠0)) d.tab)))++(ls.map λl=>(l.name,bt (C6 isSome l.tab))).take i)) ⟨_,_,_,kvs0,rfl,kp1,ea1,ed1,by rw[GO,Cm];exact kk0⟩
  (λi σ H2 _ hh0=>by obtain⟨_,_,_,_,_,k,_⟩:=hh0;exact k _ _ hb ab.symm) ?_ ?_
 ·rintro i kv p σ H2 hkv ⟨v3,v4,v5,kvs,rfl,kp,ea,ed,kk⟩ hp;have hil:i<ls.length:=by have:=(AG.mp hkv).1;lia
  have hdi:ls[i]? = some ls[i]:=AH hil;obtain⟨ek,t,ev,ht⟩:=hkb.got i kv _ hkv hdi;have hdm:ls[i]∈ls:=BY hil;generalize ls[i]=de at hdi ek ht hdm;obtain⟨k0,v0⟩:=kv;have ek':k0=Sum.inr de.name:=ek;have ev':v0=V.ref t:=ev;subst ek' ev';have s3:Same H2 (Ab H2 p (.tup [kV (Sum.inr de.name:Af),V.ref t])):=Same.new hp;refine⟨p,_,rfl,SqT.of Ag,rfl,_,_,rfl,_,_,rfl,rfl,?_⟩;have ta:t≠a:=A7 ht ha (by intro z;cases z);have ht3:=s3 _ _ (kp _ _ ht ta);have ed3:=s3 _ _ ed;have ea3:=s3 _ _ ea;have kp3:∀c u,H c=some u->c≠a->(Ab H2 p (.tup [kV (Sum.inr de.name:Af),V.ref t])) c=some u:=λc u e hc=>s3 _ _ (kp c u e hc);generalize (Ab H2 p (.tup [kV (Sum.inr de.name:Af),V.ref t]))=H3 at ht3 ed3 ea3 kp3 ⊢;have htl:=tl de hdm;refine⟨_,rfl,t,rfl,⟨_,SqT.of ht3⟩,λD hD=>?_⟩;refine Vc isSome (Ak ..) ht3 htl hD (λj x y H4 A B hx hy h1 h2=>?_) λH4 s4 e4=>?_
  ·rw[AI,hy]at hx;have hx':x=oS y:=(Bs hx).symm;subst hx';refine⟨_,rfl,rfl,_,rfl,?_⟩;cases y with
   | none=>exact AN (h2 (by decide))
   | some z=>exact Bb (h1 rfl)
  refine⟨D,_,rfl,SqL.of e4,Vd _ htl,?_⟩;have ed4:=s4 _ _ ed3;have hnone:Ay kvs (Sum.inr de.name:Af)=none:=kk.none λz=>?_
  ·have hkl4:=kk.len;rw[AY,Bu,Ak,Ak]at hkl4;refine⟨_,rfl,_,rfl,d,_,rfl,DPut.k (k:=(Sum.inr de.name:Af)) ed4 (by lia),?_⟩;rw[Eg _ hnone];refine⟨_,_,_,_,rfl,λc u e hc=>?_,?_,Ag,?_⟩
   ·rw[Ai (λz=>by rw[z,hd]at e;cases e)];exact s4 _ _ (kp3 c u e hc)
   ·rw[Ai da];exact s4 _ _ ea3
   rw[Iv (x:=(de.name,bt (C6 isSome de.tab))) (by rw[AI,hdi];rfl),<- De];exact kk.snoc2
  rw[Ba,By,<- DH,By]at z;have hnd:(ds.map Dee.name++(ls.take (i+1)).map Loo.name).Nodup:=by rw[DH];exact GG (List.Sublist.append (List.Sublist.refl _) (Gf _ _)) nd
  rw[Iv hdi,Ba,<- De]at hnd;exact(Cw.mp hnd).2.2 _ z de.name (AX.mpr rfl) rfl
 rintro σ H2 ⟨v3,v4,v5,kvs,rfl,kp,ea,ed,kk⟩;rw[hkl2,FB (by rw[Ak];exact Au _)]at kk;exact⟨_,rfl,q d kvs H2 o1 kp hd ed ea kk⟩
structure Wc (K:W.Frag)(C:Addr):Prop where
 cl:Cls K C
 n1:NoAttr K C "many"
 n2:NoAttr K C "prices"
 n3:NoAttr K C "told_outs"
 n4:NoAttr K C "told_answers"
 n5:NoAttr K C "told_parts"
 n6:NoAttr K C "told_doable"
def f1 (m:Int):List (Str×V):=L2.putF "many" (.int m) []
def f2 (m:Int)(p:Addr):List (Str×V):=L2.putF "prices" (.ref p) (f1 m)
def f3 (m:Int)(p o:Addr):List (Str×V):=L2.putF "told_outs" (.ref o) (f2 m p)
def f4 (m:Int)(p o a:Addr):List (Str×V):=L2.putF "told_answers" (.ref a) (f3 m p o)
def f5 (m:Int)(p o a q:Addr):List (Str×V):=L2.putF "told_parts" (.ref q) (f4 m p o a)
def f6 (m:Int)(p o a q d:Addr):List (Str×V):=L2.putF "told_doable" (.ref d) (f5 m p o a q)
structure oK (m:Nat)(ds:List Dee)(ls:List Loo)(as:List Str):Prop where
 m1:1<=m
 m2:m<=200
 fd:ds.length<=40
 fl:ls.length<=40
 nd:(ds.map Dee.name++ls.map Loo.name).Nodup
 so:∀d∈ds,LX (d.name,d.price)
 sl:∀l∈ls,LX (l.name,l.price)
 de:∀d∈ds,DeOk m d
 lo:∀l∈ls,l.tab.length=m
 an:∀l∈ls,∀s,some s∈l.tab->s∈as
 a3:as.length<=3
 ad:as.Nodup
abbrev DQ (ds:List Dee)(ls:List Loo):List (Str×Int):=ds.map (λd=>(d.name,d.price))++ls.map λl=>(l.name,l.price)
abbrev lZ (ds:List Dee)(ls:List Loo):List (Str×Nat):=ds.map (λd=>(d.name,bt (C6 (λn=>decide (bt n≠0)) d.tab)))++ls.map λl=>(l.name,bt (C6 isSome l.tab))
inductive PaV (H:Hp)(v:V)(l:Loo):Prop
 | mk (r:Addr) (ro:Obj) (ts:List Addr) (ps zs:List (Str×V)) (e:v=.ref r) (d0:ro.dict=none) (h:H r=some (.frz ro (.tup (ts.map V.ref)))) (hp:OG H ts zs) (pm:zs.Perm ps) (lt:Ny zs=true) (ok:PsOk l.tab ps):PaV H v l
structure We (C:Addr)(H:Hp)(x:Addr)(m:Nat)(ds:List Dee)(ls:List Loo):Prop where
 ex:∃(dx p o a q d:Addr) (kp ko ka kq kd:List (Af×V)) (o1 o2:Obj),H x=some (.ins C dx (f6 (m:Int) p o a q d))/\H p=some (.dK kp)/\H o=some (.frz o1 (.dK ko))/\H a=some (.frz o2 (.dK ka))/\H q=some (.dK kq)/\H d=some (.dK kd) /\
  KA (λs:Str×Int=>s.1) (λv s=>v=V.int s.2) kp (DQ ds ls)/\KA Dee.name (OuV H) ko ds/\KA Loo.name (AnV H) ka ls/\KA Loo.name (PaV H) kq ls/\KA (λs:Str×Nat=>s.1) (λv s=>v=V.int (s.2:Int)) kd (lZ ds ls)
inductive Py (C:Addr)(vs:List V)(H:Hp)(Q:VK)(E0_:XK):Prop
 | mk (x dx a b:Addr) (m:Nat) (us ws:List V) (ds:List Dee) (ls:List Loo) (as:List Str) (c0:vs=[.ref x,.int (m:Int),.ref a,.ref b]) (c1:H x=some (.ins C dx [])) (c2:H a=some (.lst us)) (c3:H b=some (.lst ws)) (c4:A2 (DeV H) us ds) (c5:A2 (LoV H) ws ls) (c6:oK m ds ls as) (c7:∀H':Hp,(∀c u,H c=some u->c≠x->H' c=some u)->We C H' x m ds ls->Q .non H'):Py C vs H Q E0_
abbrev K2:List Str:=["self", "many", "deeds", "looks"]
abbrev fZ:List Str:=K2
def X9:AM fZ K2 (Av Ks):=AO
def StV.kx {fs:List (Str×V)}(k:∀c u,H c=some u->c≠x->H' c=some u)(hx:H x=some (.ins C dx fs)) {t:Addr}(h:StV H v n p t):StV H' v n p t:=by obtain⟨a,e,h⟩:=h;exact⟨a,e,k _ _ h (A7 h hx (by intro z;cases z))⟩
def EnV.kx {fs:List (Str×V)}(k:∀c u,H c=some u->c≠x->H' c=some u)(hx:H x=some (.ins C dx fs)) (h:EnV H v ns):EnV H' v ns:=by obtain⟨a,e,h⟩:=h;exact⟨a,e,k _ _ h (A7 h hx (by intro z;cases z))⟩
def DeV.kx {fs:List (Str×V)}(k:∀c u,H c=some u->c≠x->H' c=some u)(hx:H x=some (.ins C dx fs)) (h:DeV H v d):DeV H' v d:=by obtain⟨t,es,st,ht,he⟩:=h;exact⟨t,es,st.kx k hx,k _ _ ht (A7 ht hx (by intro z;cases z)),he.mono λv t _ r=>r.kx k hx⟩
def LoV.kx {fs:List (Str×V)}(k:∀c u,H c=some u->c≠x->H' c=some u)(hx:H x=some (.ins C dx fs)) (h:LoV H v l):LoV H' v l:=by obtain⟨t,st,ht⟩:=h;exact⟨t,st.kx k hx,k _ _ ht (A7 ht hx (by intro z;cases z))⟩
def A2.map {α β:Type}{R:V->α->Prop}{S:V->β->Prop}{g:α->β}{vs:List V}{ts:List α}(h:A2 R vs ts)(m:∀v t,R v t->S v (g t)):A2 S vs (ts.map g):=⟨by rw[Ak];exact h.len,λi v t hv ht=>by
 rw[AI]at ht;cases e:ts[i]? with
 | none=>rw[e]at ht;cases ht
 | some x=>rw[e]at ht;cases ht;exact m v x (h.got i v x hv e)⟩
def YZ (kvs:List (Af×V)):∀acc:List (Af×V),((acc++kvs).map (·.1)).Nodup->kvs.foldl (λm kv=>BL m kv.1 kv.2) acc=acc++kvs:=by
 induction kvs with
 | nil=>exact λacc _=>(Cm _).symm
 | cons p r ih=>
  intro acc nd;have e:acc++p::r=(acc++[p])++r:=by simp
  rw[JI,Eg,ih]
  ·rw[e]
  ·rw[<- e];exact nd
  cases hv:Ay acc p.1 with
  | none=>rfl
  | some v=>exfalso;rw[Ba,A9]at nd;exact(Cw.mp nd).2.2 _ (Ma hv) p.1 Bj rfl
def TH (nd:(kvs.map (·.1)).Nodup):L2.putAll kvs=kvs:=by show kvs.foldl (λm kv=>BL m kv.1 kv.2) []=kvs;rw[YZ kvs [] (by simpa using nd)];rfl
def UA {α:Type}{g:α->Str}{xs:List α}(nd:(xs.map g).Nodup):(xs.map λx=>(Sum.inr (g x):Af)).Nodup:=by
 have:(xs.map λx=>(Sum.inr (g x):Af))=(xs.map g).map Sum.inr:=by rw[By];rfl
 rw[this];exact N2.mpr (List.Pairwise.imp (λh e=>h (Cv e)) nd)
def Xj (ds:List Dee)(ls:List Loo):(DQ ds ls).map (λs=>s.1)=ds.map Dee.name++ls.map Loo.name:=by unfold DQ;rw[Ba,By,By];rfl
def PaV.same (s:Same H H') (h:PaV H v l):PaV H' v l:=by obtain⟨r,ro,ts,ps,zs,e,d0,h,hp,pm,lt,ok⟩:=h;exact⟨r,ro,ts,ps,zs,e,d0,s _ _ h,⟨hp.1,λi a p h1 h2=>s _ _ (hp.2 i a p h1 h2)⟩,pm,lt,ok⟩
def PaV.keep (k:∀b xs,H b=some (.tup xs)->H' b=some (.tup xs))(k2:∀b o xs,H b=some (.frz o (.tup xs))->H' b=some (.frz o (.tup xs))) (h:PaV H v l):PaV H' v l:=by obtain⟨r,ro,ts,ps,zs,e,d0,h,hp,pm,lt,ok⟩:=h;exact⟨r,ro,ts,ps,zs,e,d0,k2 _ _ _ h,⟨hp.1,λi a p h1 h2=>k _ _ (hp.2 i a p h1 h2)⟩,pm,lt,ok⟩
def KA.of_map {α:Type}{nm:α->Str}{R:V->α->Prop}{g:α->V}(xs:List α)(r:∀x,R (g x) x):KA nm R (xs.map λx=>((Sum.inr (nm x):Af),g x)) xs:=⟨Ak ..,λi kv d h1 h2=>by rw[AI,h2]at h1;cases h1;exact⟨rfl,r d⟩⟩
def bB (F:Fun K "__init__" "Chart.__init__" Ks f fd)(L:Wc K C)(T:Bl mg)(D_check_many:Df K mg "check_many" M3 Jl f1' d1)(G_check_many:FnOk P w K mg base CX0 1 f1' d1 Jl PN)(D_check_steps:Df K mg "check_steps" Gp Gx f2' d2)(G_check_steps:FnOk P w K mg base CX0 2 f2' d2 Gx PM)
  (D_read_deeds:Df K mg "read_deeds" Ke IT f3' d3)(G_read_deeds:FnOk P w K mg base CX0 2 f3' d3 IT O6)(D_read_looks:Df K mg "read_looks" MD IS f4' d4)(G_read_looks:FnOk P w K mg base CX0 2 f4' d4 IS O4)(D_parted:Df K mg "parted" MG IV f5' d5)(G_parted:FnOk P w K mg base CX0 2 f5' d5 IV O7)
  (D_doable_sets:Df K mg "doable_sets" II Jh f6' d6)(G_doable_sets:FnOk P w K mg base CX0 2 f6' d6 Jh PF):FnOk P w K mg base CX0 3 f fd K2 (Py C):=by
 refine F.oq X9 λcdv A outer s H vs Q E hr2 h=>?_
 obtain⟨x,dx,a,b,m,us,ws,ds,ls,as,rfl,hx,ha,hb,hd,hl,ok,q⟩:=h
 have hr1:Room 1 _:=hr2.mono (by decide)
 have ae:sizeLine=16777216:=AK
 refine⟨_,(Aj (B1 (AW G_check_many hr1 (by rfl) D_check_many.m D_check_many.F.kp D_check_many.b .nil Ar (Aa (pv 1) Ac))) (Aj (B1 (AW G_check_steps hr2 (by rfl) D_check_steps.m D_check_steps.F.kp D_check_steps.b .nil Ar (Aa (pv 2) (Aa (pv 3) Ac)))) (Aj (EW (pv 0) (pv 1) rfl) (Aj (EW (pv 0) (BW (VF rfl) (by rfl) T.dict VH (Aa (CZ (N:=["step"]) (sc:=Av Ks) (own:=["step"]) (fr:=[]) (js:=[]) BX rfl (BM (Ax Jo (BW Fz (by rfl) T.list DV (Aa (pv 2) Ac)) (BW Fz (by rfl) T.list DV (Aa (pv 3) Ac)))) (λ_ _ _ _=>AZ (i:=0) (show List.Nodup (["step"]:List Str) by decide +kernel)) (λ_ _ _ _=>B5) (λ_ _ _ _=>(BQ (Aa (Aq (EC K rfl) (pv 0) Ah (λ_ _=>rfl)) (Aa (Aq (EC K rfl) (pv 0) Ah (λ_ _=>rfl)) Ac))))) Ac)) rfl) (Aj (EW (pv 0) (AW G_read_deeds hr2 (by rfl) D_read_deeds.m D_read_deeds.F.kp D_read_deeds.b .nil Ar (Aa (pv 1) (Aa (pv 2) Ac))) rfl) (Aj (EW (pv 0) (AW G_read_looks hr2 (by rfl) D_read_looks.m D_read_looks.F.kp D_read_looks.b .nil Ar (Aa (pv 1) (Aa (pv 3) Ac))) rfl) (Aj (EW (pv 0) (BW (VF rfl) (by rfl) T.dict VH (Aa (CZ (N:=["name", "answers"]) (sc:=Av Ks) (own:=["name", "answers"]) (fr:=[]) (js:=[]) BX rfl (Ql (Qp (FQ (pv 0) rfl))) (λ_ _ _ _=>QO K rfl (Gv (n:=2) rfl (Dj (AZ (i:=0) (show List.Nodup (["name", "answers"]:List Str) by decide +kernel)) (Dj (AZ (i:=1) (show List.Nodup (["name", "answers"]:List Str) by decide +kernel)) Gu)))) (λ_ _ _ _=>B5) (λ_ _ _ _=>(BQ (Aa (pv 0) (Aa (AW G_parted hr2 (by rfl) D_parted.m D_parted.F.kp D_parted.b .nil Ar (Aa (pv 1) Ac)) Ac))))) Ac)) rfl) (Ao (EW (pv 0) (AW G_doable_sets hr2 (by rfl) D_doable_sets.m D_doable_sets.F.kp D_doable_sets.b .nil Ar (Aa (FQ (pv 0) rfl) (Aa (FQ (pv 0) rfl) Ac))) rfl))))))))),?_⟩
 refine⟨_,rfl,(m:Int),rfl,by have:=ok.m1;lia,by have:=ok.m2;lia,?_⟩
 have hst:A2 (λv s=>∃t,StV H v s.1 s.2 t) (us++ws) (DQ ds ls):=A2.app (hd.map λv d r=>by obtain⟨t,es,st,_⟩:=r;exact⟨t,st⟩) (hl.map λv l r=>by obtain⟨t,st,_⟩:=r;exact⟨t,st⟩)
 have fd':=ok.fd
 have fl':=ok.fl
 have hdl:=hd.len
 have hll:=hl.len
 have snd:((DQ ds ls).map (λs=>s.1)).Nodup:=by rw[Xj];exact ok.nd
 refine⟨_,rfl,_,rfl,a,b,us,ws,DQ ds ls,rfl,ha,hb,hst,by lia,by lia,snd,λs hs=>?_,λH1 s1=>?_⟩
 ·rcases(BK.mp hs)with z | z
  ·obtain⟨d,hd',rfl⟩:=Bi.mp z;exact ok.so d hd'
  obtain⟨l,hl',rfl⟩:=Bi.mp z;exact ok.sl l hl'
 have hx1:=s1 _ _ hx
 refine⟨_,rfl,_,rfl,x,C,dx,[],rfl,hx1,L.cl,L.n1,by show 0<1000;decide,?_⟩
 have kc2:∀c u,H c=some u->c≠x->(Ab H1 x (.ins C dx (L2.putF "many" (.int (m:Int)) []))) c=some u:=λc u e hc=>by rw[Ai hc];exact s1 _ _ e
 have xc2:(Ab H1 x (.ins C dx (L2.putF "many" (.int (m:Int)) []))) x=some (.ins C dx (L2.putF "many" (.int (m:Int)) [])):=Ag
 generalize (Ab H1 x (.ins C dx (L2.putF "many" (.int (m:Int)) [])))=H2 at kc2 xc2 ⊢
 have ax:a≠x:=A7 ha hx (by intro z;cases z)
 have bx:b≠x:=A7 hb hx (by intro z;cases z)
 refine⟨_,rfl,a,_,rfl,.inl (SqL.of (kc2 _ _ ha ax)),λl1 hl1=>?_⟩
 obtain⟨H3,g0,s3,e3⟩:=BD (H:=H2) (o:=.lst us) hl1
 rw[g0]
 refine⟨_,rfl,b,_,rfl,.inl (SqL.of (s3 _ _ (kc2 _ _ hb bx))),λl2 hl2=>?_⟩
 obtain⟨H4,g0,s4,e4⟩:=BD (H:=H3) (o:=.lst ws) hl2
 rw[g0]
 refine⟨l1,l2,_,_,rfl,rfl,s4 _ _ e3,e4,by lia,λl3 hl3=>?_⟩
 obtain⟨H5,g0,s5,e5⟩:=BD (H:=H4) (o:=.lst (us++ws)) hl3
 rw[g0]
 have s25:=(s3.trans s4).trans s5
 have kc5:∀c u,H c=some u->c≠x->H5 c=some u:=λc u e hc=>s25 _ _ (kc2 c u e hc)
 have hst5:A2 (λv s=>∃t,StV H5 v s.1 s.2 t) (us++ws) (DQ ds ls):=hst.mono λv s _ ⟨t,r⟩=>⟨t,r.kx kc5 hx⟩
 have hsl2:=hst.len
 have hul:(us++ws).length<=80:=by rw[AY];lia
 refine⟨l3,rfl,⟨_,SqL.of e5⟩,λD hD=>?_⟩
 refine B8 (n:=(us++ws).length) (λi ys H6=>∃ts:List Addr,ys=ts.map V.ref/\ts.length=i/\(∀(j:Nat) t s,ts[j]? = some t->(DQ ds ls)[j]? = some s->H6 t=some (.tup [.str s.1,.int s.2]))/\Same H5 H6/\H6 D=some (.lst ys)) ⟨[],rfl,rfl,(λj t s h=>by cases h),Same.new hD,Ag⟩
  (λi ys H6 hi ⟨_,_,_,_,s6,_⟩=>⟨_,(us++ws)[i],SqL.of (s6 _ _ e5),AH hi⟩) (λys H6 hh0=>by obtain⟨_,_,_,_,s6,_⟩:=hh0;exact⟨_,SqL.of (s6 _ _ e5),Au _⟩) ?_ ?_
 ·rintro i ys H6 y H7 hi ⟨ts,rfl,hts,ht,s6,e6⟩ ⟨rfl,hy⟩;refine Ce ?_;obtain⟨sp,hsp,hmem,t,a',rfl,et⟩:=hst5.at (hy _ (SqL.of (s6 _ _ e5)));have Bx:atI [V.str sp.1,V.int sp.2,V.ref t] ((0:Nat):Int)=some (.str sp.1):=Az rfl;have at1:atI [V.str sp.1,V.int sp.2,V.ref t] ((1:Nat):Int)=some (.int sp.2):=Az rfl;have et6:=s6 _ _ et;refine⟨_,rfl,a',_,_,_,rfl,rfl,SqT.of et6,Bx,_,rfl,a',_,_,_,rfl,rfl,SqT.of et6,at1,Bf,λtp htp=>?_⟩;have s7:Same H7 (Ab H7 tp (.tup [.str sp.1,.int sp.2])):=Same.new htp;have tD:tp≠D:=(AF e6 htp).symm;refine⟨_,s7 _ _ e6,by rw[Ak];lia,ts++[tp],by rw[Ba];rfl,by rw[AY,hts];rfl,λj t' s' h1 h2=>?_,(s6.trans s7).put hD,Ag⟩;by_cases hj:j<ts.length
  ·rw[Dq hj]at h1;have:=ht j t' s' h1 h2;rw[Ai (A7 this e6 (by intro z;cases z))];exact s7 _ _ this
  rw[ES (by lia)]at h1;have h0:j-ts.length=0:=by have:=(AG.mp h1).1;simp at this;lia
  rw[h0]at h1;cases h1;have ej:j=i:=by lia
  subst ej;rw[hsp]at h2;cases h2;rw[Ai tD];exact Ag
 rintro ys H6 ⟨ts,rfl,hts,ht,s6,e6⟩
 have nk:(((DQ ds ls).map λs=>((Sum.inr s.1:Af),V.int s.2)).map (·.1)).Nodup:=by rw[By];exact UA (g:=λs:Str×Int=>s.1) snd
 refine⟨D,ts,(DQ ds ls).map λs=>((Sum.inr s.1:Af),V.int s.2),rfl,e6,by rw[Ak,hts,hsl2],by rw[Ak,<- hsl2];lia,λi t k v h1 h2=>?_,λdp hdp=>?_⟩
 ·rw[AI]at h2;cases hs:(DQ ds ls)[i]? with
  | none=>rw[hs]at h2;cases h2
  | some s=>rw[hs]at h2;cases h2;exact ht i t s h1 hs
 rw[TH nk]
 have kaP:KA (λs:Str×Int=>s.1) (λv s=>v=V.int s.2) ((DQ ds ls).map λs=>((Sum.inr s.1:Af),V.int s.2)) (DQ ds ls):=KA.of_map (nm:=λs:Str×Int=>s.1) (g:=λs:Str×Int=>V.int s.2) _ λ_=>rfl
 generalize ((DQ ds ls).map λs=>((Sum.inr s.1:Af),V.int s.2))=kp at kaP ⊢
 have s7:Same H6 (Ab H6 dp (.dK kp)):=Same.new hdp
 have s27:=(s25.trans s6).trans s7
 have xp:x≠dp:=λz=>by have:=(s25.trans s6) _ _ xc2;rw[z,hdp]at this;cases this
 refine⟨_,rfl,x,C,dx,_,rfl,s27 _ _ xc2,L.cl,L.n2,by show 1<1000;decide,?_⟩
 have kcA:∀c u,H c=some u->c≠x->(Ab (Ab H6 dp (.dK kp)) x (.ins C dx (L2.putF "prices" (.ref dp) (L2.putF "many" (.int (m:Int)) [])))) c=some u:=λc u e hc=>by rw[Ai hc];exact s27 _ _ (kc2 c u e hc)
 have xcA:(Ab (Ab H6 dp (.dK kp)) x (.ins C dx (L2.putF "prices" (.ref dp) (L2.putF "many" (.int (m:Int)) [])))) x=some (.ins C dx (f2 (m:Int) dp)):=Ag
 have pA:(Ab (Ab H6 dp (.dK kp)) x (.ins C dx (L2.putF "prices" (.ref dp) (L2.putF "many" (.int (m:Int)) [])))) dp=some (.dK kp):=by rw[Ai xp.symm];exact Ag
 generalize (Ab (Ab H6 dp (.dK kp)) x (.ins C dx (L2.putF "prices" (.ref dp) (L2.putF "many" (.int (m:Int)) []))))=HA at kcA xcA pA ⊢
 have ndD:=(Cw.mp ok.nd).1
 have ndL:=(Cw.mp ok.nd).2.1
 refine⟨_,rfl,_,rfl,m,a,us,ds,rfl,ok.m2,kcA _ _ ha ax,hd.mono (λv d _ r=>r.kx kcA hx),ok.de,ndD,fd',λdO kO HB sB fB eB kaO=>?_⟩
 have xO:x≠dO:=λz=>by rw[z,fB]at xcA;cases xcA
 refine⟨_,rfl,x,C,dx,_,rfl,sB _ _ xcA,L.cl,L.n3,by show 2<1000;decide,?_⟩
 have kcC:∀c u,H c=some u->c≠x->(Ab HB x (.ins C dx (L2.putF "told_outs" (.ref dO) (f2 (m:Int) dp)))) c=some u:=λc u e hc=>by rw[Ai hc];exact sB _ _ (kcA c u e hc)
 have xcC:(Ab HB x (.ins C dx (L2.putF "told_outs" (.ref dO) (f2 (m:Int) dp)))) x=some (.ins C dx (f3 (m:Int) dp dO)):=Ag
 have pC:(Ab HB x (.ins C dx (L2.putF "told_outs" (.ref dO) (f2 (m:Int) dp)))) dp=some (.dK kp):=by rw[Ai xp.symm];exact sB _ _ pA
 have oC:(Ab HB x (.ins C dx (L2.putF "told_outs" (.ref dO) (f2 (m:Int) dp)))) dO=some (.dK kO):=by rw[Ai xO.symm];exact eB
 have kaOC:KA Dee.name (OuV (Ab HB x (.ins C dx (L2.putF "told_outs" (.ref dO) (f2 (m:Int) dp))))) kO ds:=kaO.mono λv d _ r=>r.keep λb xs e=>by rw[Ai (A7 e (sB _ _ xcA) (by intro z;cases z))];exact e
 generalize (Ab HB x (.ins C dx (L2.putF "told_outs" (.ref dO) (f2 (m:Int) dp))))=HC at kcC xcC pC oC kaOC ⊢
 refine⟨_,rfl,_,rfl,m,b,ws,ls,rfl,ok.m2,kcC _ _ hb bx,hl.mono (λv d _ r=>r.kx kcC hx),ok.lo,ndL,fl',λdA kA HD sD fD eD kaA=>?_⟩
 have xA:x≠dA:=λz=>by rw[z,fD]at xcC;cases xcC
 have pOA:dO≠dA:=λz=>by rw[z,fD]at oC;cases oC
 refine⟨_,rfl,x,C,dx,_,rfl,sD _ _ xcC,L.cl,L.n4,by show 3<1000;decide,?_⟩
 have kcE:∀c u,H c=some u->c≠x->(Ab HD x (.ins C dx (L2.putF "told_answers" (.ref dA) (f3 (m:Int) dp dO)))) c=some u:=λc u e hc=>by rw[Ai hc];exact sD _ _ (kcC c u e hc)
 have xcE:(Ab HD x (.ins C dx (L2.putF "told_answers" (.ref dA) (f3 (m:Int) dp dO)))) x=some (.ins C dx (f4 (m:Int) dp dO dA)):=Ag
 have pE:(Ab HD x (.ins C dx (L2.putF "told_answers" (.ref dA) (f3 (m:Int) dp dO)))) dp=some (.dK kp):=by rw[Ai xp.symm];exact sD _ _ pC
 have oE:(Ab HD x (.ins C dx (L2.putF "told_answers" (.ref dA) (f3 (m:Int) dp dO)))) dO=some (.dK kO):=by rw[Ai xO.symm];exact sD _ _ oC
 have aE:(Ab HD x (.ins C dx (L2.putF "told_answers" (.ref dA) (f3 (m:Int) dp dO)))) dA=some (.dK kA):=by rw[Ai xA.symm];exact eD
 have tupE:∀b xs,HD b=some (.tup xs)->(Ab HD x (.ins C dx (L2.putF "told_answers" (.ref dA) (f3 (m:Int) dp dO)))) b=some (.tup xs):=λb xs e=>by rw[Ai (A7 e (sD _ _ xcC) (by intro z;cases z))];exact e
 have kaOE:=kaOC.mono λv d _ r=>OuV.keep (λb xs e=>tupE b xs (sD _ _ e)) r
 have kaAE:=kaA.mono λv d _ r=>AnV.keep tupE r
 generalize (Ab HD x (.ins C dx (L2.putF "told_answers" (.ref dA) (f3 (m:Int) dp dO))))=HE at kcE xcE pE oE aE kaOE kaAE ⊢
 have lk4:(f4 (m:Int) dp dO dA).lookup ("told_answers" : Str)=some (.ref dA):=by unfold f4;rw[Cd,As rfl]
 refine⟨_,rfl,x,C,dx,_,_,rfl,xcE,L.cl,L.n4,lk4,dA,kA,rfl,.inl aE,λv hv=>?_⟩
 have sv:Same HE (Ab HE v (CA v dA)):=Same.new hv
 refine⟨v,dA,kA,rfl,Ag,.inl ⟨sv _ _ aE,λo2=>?_⟩⟩
 have kF:∀c u,HE c=some u->c≠dA->(Ab (Ab HE v (CA v dA)) dA (.frz o2 (.dK kA))) c=some u:=λc u e hc=>by rw[Ai hc];exact sv _ _ e
 have aF:(Ab (Ab HE v (CA v dA)) dA (.frz o2 (.dK kA))) dA=some (.frz o2 (.dK kA)):=Ag
 generalize (Ab (Ab HE v (CA v dA)) dA (.frz o2 (.dK kA)))=HF at kF aF ⊢
 have pAA:dp≠dA:=λz=>by rw[z,fD]at pC;cases pC
 have xF:=kF _ _ xcE xA
 have pF:=kF _ _ pE pAA
 have oF:=kF _ _ oE pOA
 have tupF:∀b xs,HE b=some (.tup xs)->HF b=some (.tup xs):=λb xs e=>kF _ _ e (A7 e aE (by intro z;cases z))
 have kaOF:=kaOE.mono λv d _ r=>OuV.keep tupF r
 have kaAF:=kaAE.mono λv d _ r=>AnV.keep tupF r
 have hkA:=kaAF.len
 intro D hD
 refine Uw (K:=K) (n:=kA.length) (λi ys HG=>∃(ts:List Addr) (kvs:List (Af×V)),ys=ts.map V.ref/\ts.length=kvs.length/\(∀(j:Nat) t k v,ts[j]? = some t->kvs[j]? = some (k,v)->HG t=some (.tup [kV k,v]))/\KA Loo.name (PaV HG) kvs (ls.take i)/\Same HF HG/\HG D=some (.lst ys)) ⟨[],[],rfl,rfl,(λj t k v h=>by cases h),by rw[GO];exact KA.nil,Same.new hD,Ag⟩
  (λi ys HG hi hh0=>by obtain⟨_,_,_,_,_,_,sG,_⟩:=hh0;exact⟨hi,sG _ _ aF⟩) (λys HG hh0=>by obtain⟨_,_,_,_,_,_,sG,_⟩:=hh0;exact⟨Au _,sG _ _ aF⟩) ?_ ?_
 ·rintro i ys HG y HH hi ⟨ts,kvs,rfl,hts,ht,kk,sG,eG⟩ ⟨pp,k,v,rfl,hpp,rfl,hx2⟩;have hil:i<ls.length:=by lia
  have hli:ls[i]? = some ls[i]:=AH hil;have hlm:ls[i]∈ls:=BY hil;obtain⟨ek,t,ev,htt⟩:=kaAF.got i _ _ hx2 hli;generalize ls[i]=lo at hli hlm ek htt;have ek':k=Sum.inr lo.name:=ek;have ev':v=V.ref t:=ev;subst ek' ev';have sP:Same HG (Ab HG pp (.tup [kV (Sum.inr lo.name:Af),V.ref t])):=Same.new hpp;refine⟨pp,_,_,rfl,SqT.of Ag,Ce ?_⟩;have lt:=ok.lo lo hlm;have m2:=ok.m2;refine⟨_,rfl,_,rfl,t,lo.tab,as,rfl,(sG.trans sP) _ _ htt,by lia,ok.an lo hlm,ok.a3,ok.ad,λr ro ts' ps zs HI sI rd0 er pr pm ltz po=>?_⟩;refine⟨Bf,λtp htp=>?_⟩;have sT:Same HI (Ab HI tp (.tup [.str lo.name,.ref r])):=Same.new htp;have eI:=(sP.trans sI) _ _ eG;have tD:tp≠D:=(AF eI htp).symm;have kkl:=kk.len;rw[Bu]at kkl;have sAll:=(sP.trans sI).trans sT;have tupU:∀b xs (o:HO),(Ab HI tp (.tup [.str lo.name,.ref r])) b=some (.tup xs)->(Ab (Ab HI tp (.tup [.str lo.name,.ref r])) D o) b=some (.tup xs):=λb xs o e=>by rw[Ai (A7 e (sT _ _ eI) (by intro z;cases z))];exact e
  have tupV:∀b ob xs (o:HO),(Ab HI tp (.tup [.str lo.name,.ref r])) b=some (.frz ob (.tup xs))->(Ab (Ab HI tp (.tup [.str lo.name,.ref r])) D o) b=some (.frz ob (.tup xs)):=λb ob xs o e=>by rw[Ai (A7 e (sT _ _ eI) (by intro z;cases z))];exact e
  refine⟨_,sT _ _ eI,by rw[Ak];lia,ts++[tp],kvs++[(Sum.inr lo.name,.ref r)],by rw[Ba];rfl,by rw[AY,AY,hts];rfl,λj t' k' v' h1 h2=>?_,?_,(sG.trans sAll).put hD,Ag⟩
  ·by_cases hj:j<ts.length
   ·rw[Dq hj]at h1;rw[Dq (by lia)]at h2;exact tupU _ _ _ (sAll _ _ (ht j t' k' v' h1 h2))
   rw[ES (by lia)]at h1;rw[ES (by lia),<- hts]at h2;have h0:j-ts.length=0:=by have:=(AG.mp h1).1;simp at this;lia
   rw[h0]at h1 h2;cases h1;cases h2;rw[Ai tD];exact Ag
  rw[Iv hli];refine KA.snoc (kk.mono λv d _ rr=>(rr.same sAll).keep (λb xs e=>tupU _ _ _ e) (λb o xs e=>tupV _ _ _ _ e)) ?_;have pv:PaV HI (V.ref r) lo:=⟨r,ro,ts',ps,zs,rfl,rd0,er,pr,pm,ltz,po⟩;exact(pv.same sT).keep (λb xs e=>tupU _ _ _ e) (λb o xs e=>tupV _ _ _ _ e)
 rintro ys HG ⟨ts,kq,rfl,hts,ht,kk,sG,eG⟩
 rw[hkA,BP]at kk
 have nkq:(kq.map (·.1)).Nodup:=by rw[kk.keysE];exact UA ndL
 have kql:=kk.len
 refine⟨D,ts,kq,rfl,eG,hts,by lia,ht,λdq hdq=>?_⟩
 rw[TH nkq]
 have sq:Same HG (Ab HG dq (.dK kq)):=Same.new hdq
 have sGq:=sG.trans sq
 have xq:x≠dq:=λz=>by have:=sG _ _ xF;rw[z,hdq]at this;cases this
 refine⟨_,rfl,x,C,dx,_,rfl,sGq _ _ xF,L.cl,L.n5,by show 4<1000;decide,?_⟩
 have xI:(Ab (Ab HG dq (.dK kq)) x (.ins C dx (L2.putF "told_parts" (.ref dq) (f4 (m:Int) dp dO dA)))) x=some (.ins C dx (f5 (m:Int) dp dO dA dq)):=Ag
 have kI:∀c u,HF c=some u->c≠x->(Ab (Ab HG dq (.dK kq)) x (.ins C dx (L2.putF "told_parts" (.ref dq) (f4 (m:Int) dp dO dA)))) c=some u:=λc u e hc=>by rw[Ai hc];exact sGq _ _ e
 have qI:(Ab (Ab HG dq (.dK kq)) x (.ins C dx (L2.putF "told_parts" (.ref dq) (f4 (m:Int) dp dO dA)))) dq=some (.dK kq):=by rw[Ai xq.symm];exact Ag
 have tupI:∀b xs,HG b=some (.tup xs)->(Ab (Ab HG dq (.dK kq)) x (.ins C dx (L2.putF "told_parts" (.ref dq) (f4 (m:Int) dp dO dA)))) b=some (.tup xs):=λb xs e=>by rw[Ai (A7 e (sG _ _ xF) (by intro z;cases z))];exact sq _ _ e
 have frzI:∀b ob xs,HG b=some (.frz ob (.tup xs))->(Ab (Ab HG dq (.dK kq)) x (.ins C dx (L2.putF "told_parts" (.ref dq) (f4 (m:Int) dp dO dA)))) b=some (.frz ob (.tup xs)):=λb ob xs e=>by rw[Ai (A7 e (sG _ _ xF) (by intro z;cases z))];exact sq _ _ e
 have kkI:=kk.mono λv d _ r=>PaV.keep tupI frzI r
 generalize (Ab (Ab HG dq (.dK kq)) x (.ins C dx (L2.putF "told_parts" (.ref dq) (f4 (m:Int) dp dO dA))))=HI at xI kI qI tupI kkI ⊢
 have pI:=kI _ _ pF xp.symm
 have oI:=kI _ _ oF xO.symm
 have aI:=kI _ _ aF xA.symm
 have tupI2:∀b xs,HF b=some (.tup xs)->HI b=some (.tup xs):=λb xs e=>tupI b xs (sG _ _ e)
 have kaOI:=kaOF.mono λv d _ r=>OuV.keep tupI2 r
 have kaAI:=kaAF.mono λv d _ r=>AnV.keep tupI2 r
 have lk3:(f5 (m:Int) dp dO dA dq).lookup ("told_outs" : Str)=some (.ref dO):=by unfold f5 f4 f3;rw[Cd,Am (by decide +kernel),Cd,Am (by decide +kernel),Cd,As rfl]
 have lk4':(f5 (m:Int) dp dO dA dq).lookup ("told_answers" : Str)=some (.ref dA):=by unfold f5 f4;rw[Cd,Am (by decide +kernel),Cd,As rfl]
 have m2:=ok.m2
 refine⟨_,rfl,x,C,dx,_,_,rfl,xI,L.cl,L.n3,lk3,_,rfl,x,C,dx,_,_,rfl,xI,L.cl,L.n4,lk4',dO,dA,kO,kA,ds,ls,o2,rfl,pOA,oI,aI,kaOI,kaAI,ok.nd,fd',fl',(λd hd'=>by rw[(ok.de d hd').len];exact m2),(λl hl'=>by rw[ok.lo l hl'];exact m2),λdd kd HJ o1 kJ fJ eJ oJ kaD=>?_⟩
 have xO':x≠dO:=xO
 have xJ:=kJ _ _ xI xO'
 have xd:x≠dd:=λz=>by rw[z,fJ]at xI;cases xI
 refine⟨_,rfl,x,C,dx,_,rfl,xJ,L.cl,L.n6,by show 5<1000;decide,?_⟩
 have pO:dp≠dO:=λz=>by rw[z,fB]at pA;cases pA
 have qO:dq≠dO:=λz=>by have:=sG _ _ oF;rw[<- z,hdq]at this;cases this
 have keep:∀c u,HJ c=some u->c≠x->(Ab HJ x (.ins C dx (L2.putF "told_doable" (.ref dd) (f5 (m:Int) dp dO dA dq)))) c=some u:=λc u e hc=>by rw[Ai hc];exact e
 have tupJ:∀b xs,HI b=some (.tup xs)->(Ab HJ x (.ins C dx (L2.putF "told_doable" (.ref dd) (f5 (m:Int) dp dO dA dq)))) b=some (.tup xs):=λb xs e=>keep _ _ (kJ _ _ e (A7 e oI (by intro z;cases z))) (A7 e xI (by intro z;cases z))
 have frzJ:∀b ob xs,HI b=some (.frz ob (.tup xs))->(Ab HJ x (.ins C dx (L2.putF "told_doable" (.ref dd) (f5 (m:Int) dp dO dA dq)))) b=some (.frz ob (.tup xs)):=λb ob xs e=>keep _ _ (kJ _ _ e (A7 e oI (by intro z;cases z))) (A7 e xI (by intro z;cases z))
 refine q _ (λc u e hc=>keep c u (kJ c u (kI c u (kF c u (kcE c u e hc) ?_) hc) ?_) hc) ⟨dx,dp,dO,dA,dq,dd,kp,kO,kA,kq,kd,o1,o2,Ag,keep _ _ (kJ _ _ pI pO) xp.symm,keep _ _ oJ xO.symm,keep _ _ (kJ _ _ aI pOA.symm) xA.symm,keep _ _ (kJ _ _ qI qO) xq.symm,keep _ _ eJ xd.symm,kaP,kaOI.mono λv d _ r=>OuV.keep tupJ r,kaAI.mono λv d _ r=>AnV.keep tupJ r,kkI.mono λv d _ r=>PaV.keep tupJ frzJ r,kaD⟩
 ·intro z;have:=kcC c u e hc;rw[z,fD]at this;cases this
 intro z
 have:=kcA c u e hc
 rw[z,fB]at this
 cases this
def GF {α:Type}:Nat->List α->List (List (List α))
 | 0,[]=>[[]]
 | 0,_::_=>[]
 | n+1,l=>(List.range (l.length+1)).flatMap λk=>(GF n (l.drop k)).map λr=>l.take k::r
theorem QD {α:Type}:∀hs:List (List α),hs∈GF hs.length hs.flatten
 | []=>AX.mpr rfl
 | h::r=>by
  show h::r∈(List.range ((h++r.flatten).length+1)).flatMap λk=>(GF r.length ((h++r.flatten).drop k)).map λq=>(h++r.flatten).take k::q;rw[EM];refine⟨h.length,DJ.mpr (by rw[AY];lia),Bi.mpr ⟨r,?_,?_⟩⟩
  ·rw[List.drop_left' rfl];exact QD r
  rw[Rq rfl]
def FW:Nat->Nat->Nat
 | 0,0=>1
 | 0,_+1=>0
 | n+1,m=>((List.range (m+1)).map λk=>FW n (m-k)).sum
theorem Jv {β γ:Type}(f:β->List γ)(g:β->Nat):∀(l:List β),(∀x∈l,(f x).length=g x)->(l.flatMap f).length=(l.map g).sum
 | [],_=>rfl
 | x::r,h=>by rw[List.flatMap_cons,AY,A9,N5,h x Bj,Jv f g r λy hy=>h y (A6 _ hy)]
theorem QF {α:Type}:∀(n:Nat) (l:List α),(GF n l).length=FW n l.length
 | 0,[]=>rfl
 | 0,_::_=>rfl
 | n+1,l=>by show((List.range (l.length+1)).flatMap λk=>(GF n (l.drop k)).map λr=>l.take k::r).length=((List.range (l.length+1)).map λk=>FW n (l.length-k)).sum;refine Jv _ _ _ λk _=>?_;rw[Ak,QF n,DC]
def FS {α:Type}:List α->List (List α)
 | []=>[[]]
 | x::r=>(FS r).flatMap λp=>(List.range (p.length+1)).map λk=>p.take k++x::p.drop k
theorem Uj {α:Type}:∀{l p:List α},p.Perm l->p∈FS l
 | [],p,h=>by rw[List.Perm.eq_nil h];exact AX.mpr rfl
 | x::r,p,h=>by
  have hx:x∈p:=h.mem_iff.mpr Bj;obtain⟨a,b,rfl⟩:=List.append_of_mem hx;have hp:(a++b).Perm r:=by have h2:(x::(a++b)).Perm (x::r):=JQ.symm.trans h;exact List.Perm.cons_inv h2
  show _∈(FS r).flatMap _;rw[EM];refine⟨a++b,Uj hp,Bi.mpr ⟨a.length,DJ.mpr (by rw[AY];lia),?_⟩⟩;rw[Rq rfl,List.drop_left' rfl]
def HW:Nat->Nat
 | 0=>1
 | n+1=>HW n*(n+1)
theorem Qz {α:Type}:∀{l p:List α},p∈FS l->p.length=l.length
 | [],p,h=>by rw[AX.mp h]
 | x::r,p,h=>by obtain⟨q,hq,h2⟩:=EM.mp h;obtain⟨k,hk,rfl⟩:=Bi.mp h2;have:=Qz hq;have hk':=DJ.mp hk;rw[AY,CS,Bu,DC,CS];lia
theorem J6 (c:Nat):∀n:Nat,((replicate n c)).sum=n*c
 | 0=>by simp
 | n+1=>by rw[JT,N5,J6 c n,Nat.succ_mul,Nat.add_comm]
theorem Ut {α:Type}:∀l:List α,(FS l).length=HW l.length
 | []=>rfl
 | x::r=>by
  have:=Jv (λp:List α=>(List.range (p.length+1)).map λk=>p.take k++x::p.drop k) (λ_=>r.length+1) (FS r) λp hp=>by rw[Ak,EI,Qz hp]
  show((FS r).flatMap _).length=HW r.length*(r.length+1);rw[this,Of,J6,Ut r]
def Gs {α:Type}:List (List α)->List (List α)
 | []=>[[]]
 | o::r=>o.flatMap λx=>(Gs r).map λq=>x::q
theorem Ui {α:Type}:∀{os:List (List α)}{l:List α},l.length=os.length->(∀(i:Nat) x o,l[i]? = some x->os[i]? = some o->x∈o)->l∈Gs os
 | [],[],_,_=>AX.mpr rfl
 | [],_::_,h,_=>by(simp at h)
 | _::_,[],h,_=>by(simp at h)
 | o::r,x::l,h,k=>by show _∈o.flatMap _;rw[EM];exact⟨x,k 0 x o rfl rfl,Bi.mpr ⟨l,Ui (by simpa using h) λi y p hy hp=>k (i+1) y p hy hp,rfl⟩⟩
theorem Us {α:Type}:∀os:List (List α),(Gs os).length=(os.map List.length).prod
 | []=>rfl
 | o::r=>by
  have:=Jv (λx:α=>(Gs r).map λq=>x::q) (λ_=>(Gs r).length) o λx _=>by rw[Ak]
  show(o.flatMap _).length=_;rw[this,Of,J6,Us r,A9,Rm]
mutual
theorem Tt :∀{x:V}{d:PyData},RdV H x d->WK.okT d=true->RdD H x d
 | _,_,.non,_=>.non
 | _,_,.int i,ok=>nomatch ok
 | _,_,.str x,_=>.str x
 | _,_,.tup e rs,ok=>.tup e (Ts rs ok)
theorem Ts :∀{xs:List V}{ds:List PyData},RdVs H xs ds->WK.okTs ds=true->RdDs H xs ds
 | _,_,.nil,_=>.nil
 | _,_,.cons (d:=d) (ds:=ds) a b,ok=>by
  have ok':WK.okT d=true/\WK.okTs ds=true:=by simpa [WK.okTs] using ok
  exact .cons (Tt a ok'.1) (Ts b ok'.2)
end
mutual
theorem Nb :∀{x:V}{d:PyData},RdD H x d->RdV H x d
 | _,_,.non=>.non
 | _,_,.str x=>.str x
 | _,_,.tup e rs=>.tup e (Tr rs)
theorem Tr :∀{xs:List V}{ds:List PyData},RdDs H xs ds->RdVs H xs ds
 | _,_,.nil=>.nil
 | _,_,.cons a b=>.cons (Nb a) (Tr b)
end
theorem Nl {α:Type}{f:α->PyData}:∀{l:List α},(∀x∈l,WK.okT (f x)=true)->WK.okTs (l.map f)=true
 | [],_=>rfl
 | x::r,h=>by rw[A9,WK.okTs,h x Bj,Nl λy hy=>h y (A6 _ hy)];rfl
def cC (xs:List Str):WK.okT (dH xs)=true:=by unfold dH;rw[WK.okT];exact Nl λ_ _=>by rw[WK.okT]
def T7 (W:Wl):WK.okT (dW W)=true:=by
 have h1:WK.okT (dO W.hand)=true:=by cases W.hand <;> (unfold dO;rw[WK.okT])
 have h2:WK.okTs (W.heaps.map dH)=true:=Nl λx _=>cC x;have h3:WK.okTs (W.lids.map PyData.str)=true:=Nl λ_ _=>by rw[WK.okT]
 unfold dW;rw[WK.okT,WK.okTs,WK.okTs,WK.okTs,WK.okTs,h1,WK.okT,WK.okT,h2,h3];rfl
theorem QX {α:Type}{f:α->PyData}{n:Nat}:∀{l:List α},(∀x∈l,WK.dpD (f x)<=n)->WK.dpDs (l.map f)<=n
 | [],_=>by rw[FE,WK.dpDs];exact A5 _
 | x::r,h=>by rw[A9,WK.dpDs];exact Nat.max_le.mpr ⟨h x Bj,QX λy hy=>h y (A6 _ hy)⟩
def lY (W:Wl):WK.dpD (dW W)<=12:=by
 have hs:∀xs:List Str,WK.dpDs (xs.map PyData.str)<=0:=λxs=>QX λ_ _=>le_of_eq (show WK.dpD (.str _)=0 from rfl);have hh:∀xs:List Str,WK.dpD (dH xs)<=4:=λxs=>by unfold dH;rw[WK.dpD];have:=hs xs;lia
 have h2:WK.dpDs (W.heaps.map dH)<=4:=QX λx _=>hh x;have h3:=hs W.lids;have h1:WK.dpD (dO W.hand)=0:=by cases W.hand <;> rfl
 unfold dW;rw[WK.dpD,WK.dpDs,WK.dpDs,WK.dpDs,WK.dpDs,h1,WK.dpD,WK.dpD];lia
theorem QY {α:Type}{f:α->PyData}{n:Nat}:∀{l:List α},(∀x∈l,(f x).depth<=n)->PyData.depthAll (l.map f)<=n
 | [],_=>by rw[FE,PyData.depthAll];exact A5 _
 | x::r,h=>by rw[A9,PyData.depthAll];exact Nat.max_le.mpr ⟨h x Bj,QY λy hy=>h y (A6 _ hy)⟩
def mF (W:Wl):(dW W).depth<=8:=by
 have hs:∀xs:List Str,PyData.depthAll (xs.map PyData.str)<=1:=λxs=>QY λ_ _=>by simp[PyData.depth]
 have hh:∀xs:List Str,(dH xs).depth<=2:=λxs=>by unfold dH;rw[PyData.depth];have:=hs xs;lia
 have h2:PyData.depthAll (W.heaps.map dH)<=2:=QY λx _=>hh x;have h3:=hs W.lids;have h1:(dO W.hand).depth<=1:=by cases W.hand <;> simp[dO,PyData.depth]
 unfold dW;simp only[PyData.depth,PyData.depthAll];lia
def Nc (h:RdV H v (dW W))(ok:Ok W):∃a,v=.ref a/\RdT H a (dW W):=by
 have r:=Tt h (T7 W);unfold dW at r;cases r with
 | @tup a xs ds e rs=>exact⟨a,rfl,⟨.tup e rs,T7 W,GM (Ka ok),lY W,mF W⟩⟩
def Q3 (h:dW W=dW Z):W=Z:=by
 have hs:∀{a b:List Str},a.map PyData.str=b.map PyData.str->a=b:=λ{a b} e=>List.map_inj_right (λx y z=>by injection z) |>.mp e
 obtain⟨h1,hp1,l1⟩:=W;obtain⟨h2,hp2,l2⟩:=Z;unfold dW at h;injection h with h;injection h with a b;injection b with b c;injection c with c _;injection b with b;injection c with c;have e1:h1=h2:=by cases h1 <;> cases h2 <;> first | rfl | (simp only[dO]at a;first | (injection a with a;rw[a]) | cases a)
 have e2:hp1=hp2:=List.map_inj_right (λx y z=>by unfold dH at z;injection z with z;exact hs z) |>.mp b
 have e3:l1=l2:=hs c;rw[e1,e2,e3]
def BR:Nat->List Wl->List (PyData×V)
 | _,[]=>[]
 | n,W::r=>(dW W,.int (n:Int))::BR (n+1) r
theorem FT:∀(n:Nat) (L:List Wl),(BR n L).length=L.length
 | _,[]=>rfl
 | n,W::r=>BJ (· + 1) (FT (n+1) r)
theorem Ub:∀(n:Nat) (L:List Wl) (W:Wl),BR n (L++[W])=BR n L++[(dW W,.int ((n+L.length:Nat):Int))]
 | n,[],W=>rfl
 | n,Z::r,W=>by show(dW Z,V.int (n:Int))::BR (n+1) (r++[W])=(dW Z,V.int (n:Int))::(BR (n+1) r++_);rw[Ub (n+1) r W,show n+1+r.length=n+(Z::r).length by rw[CS];lia]
theorem Nn:∀{n:Nat}{L:List Wl}{i:Nat}{W:Wl},L[i]? = some W->(BR n L)[i]? = some (dW W,.int ((n+i:Nat):Int))
 | n,Z::r,0,W,h=>by cases h;rfl
 | n,Z::r,i+1,W,h=>by have:=Nn (n:=n+1) (L:=r) (i:=i) (W:=W) h;rw[show n+1+i=n+(i+1) by lia]at this;exact this
 | _,[],_,_,h=>by cases h
theorem T9:∀{n:Nat}{L:List Wl}{i:Nat}{W:Wl},L.Nodup->L[i]? = some W->Ay (BR n L) (dW W)=some (.int ((n+i:Nat):Int))
 | n,Z::r,0,W,_,h=>by cases h;unfold Ay BR;rw[F9,AR rfl];rfl
 | n,Z::r,i+1,W,nd,h=>by have nd':=Bq.mp nd;have ne:¬dW Z=dW W:=λe=>nd'.1 (by rw[Q3 e];exact Bz h);have:=T9 (n:=n+1) (i:=i) nd'.2 h;rw[show n+1+i=n+(i+1) by lia]at this;unfold Ay BR;rw[F9,BC ne];exact this
 | _,[],_,_,_,h=>by cases h
theorem Ua:∀{n:Nat}{L:List Wl}{W:Wl},W∉L->Ay (BR n L) (dW W)=none
 | _,[],_,_=>rfl
 | n,Z::r,W,h=>by have ne:¬dW Z=dW W:=λe=>h (by rw[Q3 e];exact Bj);unfold Ay BR;rw[F9,BC ne];exact Ua (n:=n+1) λz=>h (A6 _ z)
def A3:List Wl->List Wl->List Wl
 | L,[]=>L
 | L,W::r=>A3 (if W∈L then L else L++[W]) r
theorem Ls:∀(L A B:List Wl),A3 L (A++B)=A3 (A3 L A) B
 | _,[],_=>rfl
 | L,W::r,B=>Ls (if W∈L then L else L++[W]) r B
theorem Ri:∀(L A:List Wl),∃t,A3 L A=L++t
 | L,[]=>⟨[],(Cm _).symm⟩
 | L,W::r=>by
  obtain⟨t,e⟩:=Ri (if W∈L then L else L++[W]) r;show ∃t,A3 (if W∈L then L else L++[W]) r=L++t;rw[e];split
  ·exact⟨t,rfl⟩
  exact⟨W::t,by rw[De];rfl⟩
theorem Lr:∀{L A:List Wl},L.Nodup->(A3 L A).Nodup
 | _,[],h=>h
 | L,W::r,h=>by
  show(A3 (if W∈L then L else L++[W]) r).Nodup;refine Lr ?_;split
  ·exact h
  rename_i n;exact Cw.mpr ⟨h,by simp,λa ha b hb e=>n (by rw[AX.mp hb]at e;rw[<- e];exact ha)⟩
theorem addN_mem:∀{L A:List Wl}{Z:Wl},Z∈A3 L A↔Z∈L\/Z∈A
 | _,[],_=>by simp[A3]
 | L,W::r,Z=>by
  show Z∈A3 (if W∈L then L else L++[W]) r↔_;rw[addN_mem];split
  ·rename_i h;constructor
   ·rintro(z | z)
    ·exact .inl z
    exact .inr (A6 _ z)
   rintro(z | z)
   ·exact .inl z
   rcases(AL.mp z)with z | z
   ·exact .inl (by rw[z];exact h)
   exact .inr z
  simp only[BK,AL,Cn,Ck];constructor
  ·rintro((z | z) | z)
   ·exact .inl z
   ·exact .inr (.inl z)
   exact .inr (.inr z)
  rintro(z | z | z)
  ·exact .inl (.inl z)
  ·exact .inl (.inr z)
  exact .inr z
inductive PU (vs:List V)(H:Hp)(Q:VK)(E0_:XK):Prop
 | mk (d lw:Addr) (L Ws:List Wl) (us:List V) (c0:vs=[.ref d,.ref lw]) (c1:H d=some (.dT (BR 0 L))) (c2:H lw=some (.lst us)) (c3:RdVs H us (Ws.map dW)) (c4:(∀W∈Ws,Ok W)) (c5:(A3 L Ws).length<=200) (c6:∀H':Hp,(∀c u,H c=some u->c≠d->H' c=some u)->H' d=some (.dT (BR 0 (A3 L Ws)))->Q .non H'):PU  vs H Q E0_
abbrev K3:List Str:=["numbers", "worlds"]
abbrev gG:List Str:=BI K3 ["world"]
def scAddNew:AM gG K3 (Av M7):=AO
def cB (F:Fun K "add_new" "add_new" M7 f fd)(T:Bl mg)(m1:∃t,mg "MOST_WORLDS" = some (.int 200 t)):FnOk P w K mg base CX0 1 f fd K3 PU:=by
 refine F.oq scAddNew λcdv A outer s H vs Q E hr h=>?_;obtain⟨d,lw,L,Ws,us,rfl,hd,hl,rd,ok,le,q⟩:=h;have hu:=CL hr;obtain⟨t1,m1⟩:=m1;have ae:sizeLine=16777216:=AK;have hlu:us.length=Ws.length:=by rw[rd.length,Ak]
 refine⟨_,(Aj (BU BS rfl (BM (pv 1)) (AZ (i:=2) scAddNew.nd) (Ao (AQ (FM (Ng hu (pv 2) (pv 0))) (Ao (Dg hu (pv 0) (pv 2) (AV NU (by rfl) T.len A8 (Aa (pv 0) Ac)) rfl)) AS))) (Ao (AQ (AC Ez (AV NU (by rfl) T.len A8 (Aa (pv 0) Ac)) (C0 (v:=.int 200) (by rfl) m1 ⟨_,rfl⟩) (AD _)) Ci AS))),?_⟩;refine⟨_,rfl,lw,rfl,⟨_,SqL.of hl⟩,?_⟩
 refine Dn (K:=K) (a:=lw) (xs:=us) (λi σ H2=>∃v2:Option V,σ = [some (.ref d),some (.ref lw),v2]/\(∀c u,H c=some u->c≠d->H2 c=some u)/\H2 d=some (.dT (BR 0 (A3 L (Ws.take i)))))
  ⟨none,rfl,λc u e _=>e,hd⟩ (λi σ H2 _ hh0=>by obtain⟨_,_,z,_⟩:=hh0;exact SqL.of (z _ _ hl (A7 hl hd (by intro z;cases z)))) ?_ ?_
 ·rintro i v σ H2 hv ⟨v2,rfl,k2,e2⟩;have hi:i<Ws.length:=by have:=(AG.mp hv).1;lia
  obtain⟨dd,hdd,rdv⟩:=rd.get hv;rw[AI,AH hi]at hdd;cases hdd;have htk:Ws.take (i+1)=Ws.take i++[Ws[i]]:=BF hi;have okW:=ok Ws[i] (BY hi);have led:(A3 L (Ws.take (i+1))).length<=200:=by obtain⟨t,et⟩:=Ri (A3 L (Ws.take (i+1))) (Ws.drop (i+1));rw[<- Ls,DG]at et;rw[et,AY]at le;lia
  generalize Ws[i]=W at rdv htk okW;have rdv2:RdV H2 v (dW W):=rdv.same λc xs e=>k2 c _ e (A7 e hd (by intro z;cases z));obtain⟨b,rfl,rt⟩:=Nc rdv2 okW;have hadd:A3 L (Ws.take (i+1))=if W∈A3 L (Ws.take i)then A3 L (Ws.take i)else A3 L (Ws.take i)++[W]:=by rw[htk,Ls];rfl
  refine⟨_,rfl,_,rfl,d,_,rfl,DGet.t e2 rt,_,rfl,?_⟩;by_cases hm:W∈A3 L (Ws.take i)
  ·obtain⟨j,hj⟩:=G9 hm;rw[As hm]at hadd;have hs:(Ay (BR 0 (A3 L (Ws.take i))) (dW W)).isSome=true:=by rw[<- Fe,Ie];exact⟨_,Bz (Nn hj),AR rfl⟩
   rw[hs];refine AN ?_;exact⟨_,rfl,k2,by rw[hadd];exact e2⟩
  rw[Am hm]at hadd;rw[hadd,AY]at led;have hn:=Ua (n:=0) hm;rw[hn];refine Bb ?_;refine⟨_,rfl,d,_,rfl,.inl e2,_,rfl,_,rfl,d,_,rfl,DPut.t e2 rt (by rw[FT];lia),?_⟩;refine⟨_,rfl,λc u e hc=>by rw[Ai hc];exact k2 c u e hc,?_⟩;rw[Ag,hadd,Eg _ hn,Ub,FT,N3]
 rintro σ H2 ⟨v2,rfl,k2,e2⟩;rw[hlu,BP]at e2;refine⟨_,rfl,d,_,rfl,.inl e2,_,_,rfl,rfl,_,rfl,?_⟩;rw[FT];refine Bd (λz=>?_) (λ_=>?_)
 ·have:=A4 z;lia
 unfold OR;exact q H2 k2 e2
structure C8 where
 line:Str
 w:Str
 i:Nat
 j:Nat
 p:Br
 pj:Br
structure FI (rs:List Ro)(D:C8):Prop where
 wd:Wd D.line (C9 D.w D.p.1 D.pj.1)
 len:D.line.length<=1000
 pi:(plc rs)[D.i]? = some D.p
 pq:(plc rs)[D.j]? = some D.pj
 tip:D.w = "tip" -> D.i≠D.j
 nine:D.w∈FU
def Cq (D:C8)(W:Wl):List Wl:=FV D.w D.p W D.i (W.heaps.getD D.i []) (W.lids.getD D.i Str.empty) D.j (W.heaps.getD D.j []) (W.lids.getD D.j Str.empty)
abbrev Cf (rs:List Ro)(W:Wl):Prop:=Fw rs W/\Sz W (plc rs).length
def FN (g:Good rs)(r:Cf rs W)(h:(plc rs)[i]? = some p):Pt rs W i p (W.heaps.getD i []) (W.lids.getD i Str.empty):=by
 obtain⟨p',hp,l,pt⟩:=Pt.of g r.1 r.2 (AG.mp h).1;have e1:=pt.pl;rw[h]at e1;cases e1;have e2:W.heaps.getD i []=hp:=by rw[Cz,pt.he];rfl
 have e3:W.lids.getD i Str.empty=l:=by rw[Cz,pt.li];rfl
 rw[e2,e3];exact pt
def ON (g:Good rs)(r:Cf rs W)(ok:FI rs D):∀Z∈Cq D W,Cf rs Z:=cH r.1 r.2 (FN g r ok.pi) (FN g r ok.pq) ok.tip ok.nine
structure NA (rs:List Ro)(Ws:List Wl)(Ds:List C8)(n:Nat)(L:List Wl):Prop where
 nd:L.Nodup
 rw':∀W∈L,Cf rs W
 pre:∃t,L=A3 [] Ws++t
 rch:∀(k:Nat) W,L[k]? = some W->(A3 [] Ws).length<=k->∃(j:Nat) (Z:Wl) (D:C8),j<n/\j<k/\L[j]? = some Z/\D∈Ds/\W∈Cq D Z
 clo:∀(i:Nat) Z,i<n->L[i]? = some Z->∀D∈Ds,∀W∈Cq D Z,W∈L
structure NI (rs:List Ro)(Ds:List C8)(L:List Wl)(Z:Wl)(k:Nat)(M:List Wl):Prop where
 nd:M.Nodup
 rw':∀W∈M,Cf rs W
 pre:∃t,M=L++t
 mem:∀W∈M,W∈L\/∃D∈Ds,W∈Cq D Z
 clo:∀D∈Ds.take k,∀W∈Cq D Z,W∈M
def NA.start (h:∀W∈Ws,Cf rs W):NA rs Ws Ds 0 (A3 [] Ws):=by
 refine⟨Lr GS,λW hW=>?_,⟨[],(Cm _).symm⟩,λk W hk hl=>?_,λi Z hi=>absurd hi (Rn _)⟩
 ·rcases addN_mem.mp hW with z | z
  ·cases z
  exact h W z
 have:=(AG.mp hk).1;lia
def NI.start (Z:Wl)(h:NA rs Ws Ds n L):NI rs Ds L Z 0 L:=⟨h.nd,h.rw',⟨[],(Cm _).symm⟩,λW hW=>.inl hW,λD hD=>by rw[GO]at hD;cases hD⟩
def NI.next {k:Nat} (g:Good rs)(rz:Cf rs Z)(h:NI rs Ds L Z k M)(hk:Ds[k]? = some D)(ok:FI rs D):NI rs Ds L Z (k+1) (A3 M (Cq D Z)):=by
 have hD:=Bz hk;obtain⟨hi,ek⟩:=AG.mp hk;refine⟨Lr h.nd,λW hW=>?_,?_,λW hW=>?_,λD' hD' W hW=>?_⟩
 ·rcases addN_mem.mp hW with z | z
  ·exact h.rw' W z
  exact ON g rz ok W z
 ·obtain⟨t,e⟩:=h.pre;obtain⟨t',e'⟩:=Ri M (Cq D Z);exact⟨t++t',by rw[e',e,De]⟩
 ·rcases addN_mem.mp hW with z | z
  ·exact h.mem W z
  exact .inr ⟨D,hD,z⟩
 rw[BF hi,ek]at hD';rcases BK.mp hD' with z | z
 ·exact addN_mem.mpr (.inl (h.clo D' z W hW))
 rw[AX.mp z]at hW;exact addN_mem.mpr (.inr hW)
def NA.next (h:NA rs Ws Ds n L)(hz:L[n]? = some Z)(i:NI rs Ds L Z Ds.length M):NA rs Ws Ds (n+1) M:=by
 obtain⟨t,rfl⟩:=i.pre;have hn:=(AG.mp hz).1;have pm:∀{k:Nat}{W:Wl},L[k]? = some W->(L++t)[k]? = some W:=λ{k W} e=>by rw[Dq (AG.mp e).1];exact e
 refine⟨i.nd,i.rw',?_,λk W hk hl=>?_,λk W hk hW D hD V hV=>?_⟩
 ·obtain⟨t',e⟩:=h.pre;exact⟨t'++t,by rw[e,De]⟩
 ·by_cases hkl:k<L.length
  ·rw[Dq hkl]at hk;obtain⟨j,Z',D,h1,h2,h3,h4,h5⟩:=h.rch k W hk hl;exact⟨j,Z',D,by lia,h2,pm h3,h4,h5⟩
  rcases i.mem W (Bz hk)with z | ⟨D,hD,z⟩
  ·exfalso;rw[ES (by lia)]at hk;exact(Cw.mp i.nd).2.2 W z W (Bz hk) rfl
  exact⟨n,Z,D,by lia,by lia,pm hz,hD,z⟩
 by_cases hkn:k<n
 ·rw[Dq (by lia)]at hW;exact JO _ (h.clo k W hkn hW D hD V hV)
 obtain rfl:k=n:=by lia
 rw[pm hz]at hW;cases hW;exact i.clo D (by rw[BP];exact hD) V hV
inductive O9 (C:Addr)(vs:List V)(H:Hp)(Q:VK)(E0_:XK):Prop
 | mk (x lw ll:Addr) (rs:List Ro) (Ws:List Wl) (Ds:List C8) (us:List V) (c0:vs=[.ref x,.ref lw,.ref ll]) (c1:RoomAt C H x rs) (c2:Good rs) (c3:H lw=some (.lst us)) (c4:RdVs H us (Ws.map dW)) (c5:(∀W∈Ws,Cf rs W)) (c6:H ll=some (.lst (Ds.map λD=>V.str D.line))) (c7:(∀D∈Ds,FI rs D)) (c8:(∀M:List Wl,M.Nodup->(∀W∈M,Cf rs W)->M.length<=200)) (c9:∀(d:Addr) (L:List Wl) (H':Hp),Same H H'->H d=none->H' d=some (.dT (BR 0 L))->NA rs Ws Ds L.length L->Q (.ref d) H'):O9 C vs H Q E0_
abbrev KN:List Str:=["room", "worlds", "lines"]
abbrev cZ:List Str:=BI KN ["numbers", "done", "world", "line"]
def scNumberAll:AM cZ KN (Av MH):=AO
def Z0 (F:Fun K "number_all" "number_all" MH f fd)(T:Bl mg)(C_add_new:Ca P w K mg base CX0 1 "add_new" M7 K3 PU)(C_turns:Ca P w K mg base CX0 7 "turns" Kb IR (Mi C)):FnOk P w K mg base CX0 9 f fd KN (O9 C):=by
 refine F.oq scNumberAll λcdv A outer s H vs Q E hr8 h=>?_;obtain⟨x,lw,ll,rs,Ws,Ds,us,rfl,ro,g,hl,rd,rw0,hll,dok,bnd,q⟩:=h;have hu:=CL hr8;have hr7:Room 7 _:=hr8.mono (by decide);have hr1:Room 1 _:=hr8.mono (by decide);have ae:sizeLine=16777216:=AK;refine⟨_,(Aj (AB (i:=3) scNumberAll.nd Qr) (Aj (B1 (A0 C_add_new hr1 Ar (Aa (pv 3) (Aa (pv 1) Ac)))) (Aj (AB (i:=4) scNumberAll.nd Ah) (Aj (Y0 BS (AC Hz (pv 4) (AV NU (by rfl) T.len A8 (Aa (pv 3) Ac)) (AD _)) (Aj (AB (i:=5) scNumberAll.nd (Aq Bc (BW (VE rfl) (by rfl) T.list DV (Aa (pv 3) Ac)) (pv 4) (λ_ _=>rfl))) (Aj (BU BS rfl (BM (pv 2)) (AZ (i:=6) scNumberAll.nd) (Ao (B1 (A0 C_add_new hr1 Ar (Aa (pv 3) (Aa (A0 C_turns hr7 Ar (Aa (pv 0) (Aa (pv 6) (Aa (pv 5) Ac)))) Ac)))))) (Ao (AB (i:=4) scNumberAll.nd (Ax Bm (pv 4) Ah)))))) (Ao (AA (pv 3))))))),?_⟩;intro d hd;have s1:Same H (Ab H d (.dT [])):=Same.new hd;have e1:(Ab H d (.dT [])) d=some (.dT (BR 0 [])):=Ag;generalize (Ab H d (.dT []))=H1 at s1 e1 ⊢;have na0:=NA.start (Ds:=Ds) rw0;have okR:∀{W:Wl},Cf rs W->Ok W:=λr=>r.1.ok g r.2;refine⟨_,rfl,_,rfl,d,lw,[],Ws,us,rfl,e1,s1 _ _ hl,s1.rds rd,λW hW=>okR (rw0 W hW),bnd _ na0.nd na0.rw',λH2 k2 e2=>?_⟩;have s2:Same H H2:=λc u e=>k2 c u (s1 _ _ e) (AF e hd);refine⟨λm σ H'=>∃(n:Nat) (L:List Wl) (v5 v6:Option V),σ = [some (.ref x),some (.ref lw),some (.ref ll),some (.ref d),some (.int (n:Int)),v5,v6]/\Same H H'/\H' d=some (.dT (BR 0 L))/\NA rs Ws Ds n L/\n<=L.length/\m=200-n,⟨200,0,A3 [] Ws,none,none,rfl,s2,e2,na0,A5 _,rfl⟩,?_⟩;rintro m σ H3 ⟨n,L,v5,v6,rfl,s3,e3,na,hn,rfl⟩;have lb:=bnd _ na.nd na.rw';refine⟨_,rfl,_,rfl,d,_,rfl,.inl e3,_,_,rfl,rfl,_,rfl,?_⟩;rw[FT];refine Bd (λz=>?_) (λz=>?_)
 ·have hlt:n<L.length:=by have:=A4 z;lia
  have hz:L[n]? = some L[n]:=AH hlt;have rz:=na.rw' L[n] (BY hlt);generalize L[n]=Z at hz rz;refine⟨λσ' H'=>∃(L':List Wl) (v5 v6:Option V),σ'=[some (.ref x),some (.ref lw),some (.ref ll),some (.ref d),some (.int ((n+1:Nat):Int)),v5,v6]/\Same H H'/\H' d=some (.dT (BR 0 L'))/\NA rs Ws Ds (n+1) L'/\n+1<=L'.length,?_,?_⟩
  ·rintro σ' H' ⟨L',v5,v6,rfl,s',e',na',hn'⟩;exact⟨200-(n+1),by lia,n+1,L',v5,v6,rfl,s',e',na',hn',rfl⟩
  refine⟨_,rfl,d,_,rfl,.inl e3,λl4 as hl4 ky=>?_⟩;have hal:=ky.len;rw[FT]at hal;have hb:as[n]? = some as[n]:=AH (by lia);have rt:=ky.at' n as[n] _ _ hb (Nn hz);generalize as[n]=b at hb rt;obtain⟨H4,g0,s4,e4⟩:=BD (H:=H3) (o:=.lst (as.map V.ref)) hl4;rw[g0];have hat:atI (as.map V.ref) ((n:Nat):Int)=some (.ref b):=Az (by rw[AI,hb];rfl);refine⟨_,rfl,l4,_,_,_,rfl,rfl,SqL.of e4,hat,?_⟩;have rz4:RdV H4 (.ref b) (dW Z):=s4.rd (Nb rt.rd);refine⟨_,rfl,ll,rfl,⟨_,SqL.of ((s3.trans s4) _ _ hll)⟩,?_⟩
  refine Dn (K:=K) (a:=ll) (xs:=Ds.map λD=>V.str D.line) (λi σ H'=>∃(v6:Option V) (M:List Wl),σ = [some (.ref x),some (.ref lw),some (.ref ll),some (.ref d),some (.int (n:Int)),some (.ref b),v6]/\Same H H'/\H' d=some (.dT (BR 0 M))/\NI rs Ds L Z i M/\RdV H' (.ref b) (dW Z))
   ⟨_,L,rfl,s3.trans s4,s4 _ _ e3,NI.start Z na,rz4⟩ (λi σ H' _ hh0=>by obtain⟨_,_,_,s,_⟩:=hh0;exact SqL.of (s _ _ hll)) ?_ ?_
  ·rintro i v σ H5 hv ⟨v6',M,rfl,s5,e5,ni,rz5⟩
   obtain⟨D,hD,rfl⟩:∃D,Ds[i]? = some D/\V.str D.line=v:=by
    rw[AI]at hv;cases h:Ds[i]? with
    | none=>rw[h]at hv;cases hv
    | some D=>rw[h]at hv;cases hv;exact⟨D,rfl,rfl⟩
   have dk:=dok D (Bz hD);have pt:=FN g rz dk.pi;have pq:=FN g rz dk.pq;have okZ:=okR rz;have fP:=g.fewP;have ni':=NI.next g rz ni hD dk;refine⟨_,rfl,_,rfl,_,rfl,_,rfl,x,rs,_,Z,D.line,D.w,D.i,D.p,_,_,D.j,D.pj,_,_,rfl,ro.same s5,g,rz5,dk.wd,dk.len,pt,pq,dk.tip,dk.nine,okZ.few,by have:=rz.2.2;lia,λlt us6 H6 s6 e6 r6=>?_⟩;have e6d:=s6 _ _ e5;refine⟨d,lt,M,Cq D Z,us6,rfl,e6d,e6,r6,λW hW=>okR (ON g rz dk W hW),bnd _ ni'.nd ni'.rw',λH7 k7 e7=>?_⟩;have s56:=s5.trans s6;exact⟨_,_,rfl,λc u e=>k7 c u (s56 _ _ e) (AF e hd),e7,ni',(s6.rd rz5).same λc xs e=>k7 c _ e (A7 e e6d (by intro z;cases z))⟩
  rintro σ H5 ⟨v6',M,rfl,s5,e5,ni,_⟩;rw[Ak]at ni;have na':=na.next hz ni;obtain⟨t,et⟩:=ni.pre;refine⟨_,rfl,_,_,rfl,rfl,M,_,_,rfl,s5,e5,na',by rw[et,AY];lia⟩
 have hge:n=L.length:=by have:¬(n:Int)<(L.length:Int):=λh=>z (AR h);lia
 rw[hge]at na;exact⟨_,rfl,q d L H3 s3 hd e3 na⟩
inductive O8 (vs:List V)(H:Hp)(Q:VK)(E0_:XK):Prop
 | mk (d lw:Addr) (L Ws:List Wl) (us:List V) (c0:vs=[.ref d,.ref lw]) (c1:Rd H d (.dT (BR 0 L))) (c2:L.Nodup) (c3:H lw=some (.lst us)) (c4:RdVs H us (Ws.map dW)) (c5:(∀W∈Ws,Ok W/\W∈L)) (c6:Ws.length<=60) (c7:Ws.Nodup) (c8:∀(l:Addr) (zs:List Int) (H':Hp),Same H H'->H l=none->H' l=some (.lst (zs.map V.int))->zs.Pairwise (· < ·)->(∀z∈zs,0<=z/\z<(L.length:Int))->zs.length<=60->Q (.ref l) H'):O8  vs H Q E0_
def Hu (s:Same H H')(h:Rd H d o):Rd H' d o:=by
 rcases h with h | ⟨f,h⟩
 ·exact .inl (s _ _ h)
 exact .inr ⟨f,s _ _ h⟩
def none_of (s:Same H H')(h:H' l=none):H l=none:=by
 cases e:H l with
 | none=>rfl
 | some u=>rw[s _ _ e]at h;cases h
def Nq (hd:Rd H d (.dT kvs))(e:H c=some u)(n1:u≠.dT kvs)(n2:∀o,u≠.frz o (.dT kvs)):c≠d:=λz=>by
 subst z;rcases hd with h | ⟨o,h⟩
 ·rw[e]at h;exact n1 (Bs h)
 rw[e]at h;exact n2 o (Bs h)
def RoomAt.keepT (R:RoomAt C H x rs)(hd:Rd H d (.dT kvs))(k:∀c u,H c=some u->c≠d->H' c=some u):RoomAt C H' x rs:=by obtain⟨dx,d1,d2,o,ks,h1,h2,h3,h4⟩:=R.ex;have n:∀{c:Addr}{u:HO},H c=some u->(u≠.dT kvs)->(∀o,u≠.frz o (.dT kvs))->H' c=some u:=λe n1 n2=>k _ _ e (Nq hd e n1 n2);exact⟨dx,d1,d2,o,ks,n h1 (λz=>by cases z) (λo z=>by cases z),n h2 (λz=>by cases z) (λo z=>by cases z),h3.same λb xs e=>n e (λz=>by cases z) (λo z=>by cases z),n h4 (λz=>by cases z) (λo z=>by cases z)⟩
def iT {R:It->Hp->Prop}{H:Hp}{d:Addr}{kvs:List (PyData×V)}(hd:Rd H d (.dT kvs))(m:∀o H1,(∀c u,H c=some u->c≠d->H1 c=some u)->H1 d=some (.frz o (.dT kvs))->R (Ir d o kvs) H1) :
  (H d=some (.dT kvs)/\∀o,R (Ir d o kvs) (Ab H d (.frz o (.dT kvs))))\/∃o,H d=some (.frz o (.dT kvs))/\R (Ir d o kvs) H:=by
 rcases hd with h | ⟨o,h⟩
 ·exact .inl ⟨h,λo=>m o _ (λc u e hc=>by rw[Ai hc];exact e) Ag⟩
 exact .inr ⟨o,h,m o _ (λc u e _=>e) h⟩
def jS (hv:∀{q:VK},q (.ref d) H->Iw n σ H q)(hd:Rd H d (.dT kvs))(m:∀o H1,(∀c u,H c=some u->c≠d->H1 c=some u)->H1 d=some (.frz o (.dT kvs))->R (Ir d o kvs) H1):UM (Iw n) σ H R:=
 hv ⟨d,kvs,rfl,iT (R:=R) hd m⟩
def Uc {H H1:Hp}{d l:Addr}{o:HO}(k:∀c u,H c=some u->c≠d->H1 c=some u)(e:H1 d=some o)(h:H1 l=none):H l=none:=by
 cases e':H l with
 | none=>rfl
 | some u=>
  exfalso;by_cases hc:l=d
  ·rw[hc,e]at h;cases h
  rw[k _ _ e' hc]at h;cases h
def Na (h:Rd H d o)(n:H l=none):d≠l:=by
 rcases h with h | ⟨_,h⟩
 ·exact AF h n
 exact AF h n
def QL {L:List Wl}{W:Wl}(h:W∈L):L[L.idxOf W]? = some W:=by have hl:=V2 h;rw[AH hl,List.getElem_idxOf hl]
def jM {L Ws:List Wl}(h:∀W∈Ws,W∈L)(nd:Ws.Nodup):(Ws.map λW=>(L.idxOf W:Int)).Nodup:=by
 refine N2.mpr (List.Pairwise.imp_of_mem (λ{a b} ha hb ne e=>ne ?_) nd);have e':L.idxOf a=L.idxOf b:=by lia
 have h1:=QL (h a ha);rw[e',QL (h b hb)]at h1;cases h1;rfl
abbrev KM:List Str:=["numbers", "worlds"]
abbrev cY:List Str:=KM
def XN:AM cY KM (Av Kf):=AO
def Xf (h2:2<=hp.length)(nd:hp.Nodup):Hf hp≠hp:=λe=>by
 unfold Hf at e;have e':hp.take (hp.length-2)++(hp.drop (hp.length-2)).reverse=hp.take (hp.length-2)++hp.drop (hp.length-2):=by rw[DG];exact e
 have e2:=List.append_cancel_left e';have nd2:(hp.drop (hp.length-2)).Nodup:=nd.sublist (List.drop_sublist _ _);have l2:(hp.drop (hp.length-2)).length=2:=by rw[DC];lia
 generalize hp.drop (hp.length-2)=t at e2 nd2 l2;match t,l2 with
 | [x,y],_=>have e3:[y,x]=[x,y]:=e2;injection e3 with a _;exact(Bq.mp nd2).1 (by rw[a];exact Bj)
def jZ {rs:List Ro}{W:Wl}{i:Nat}{hp:List Str}(g:Good rs)(fw:Fw rs W)(h:W.heaps[i]? = some hp):hp.Nodup:=by have n1:((ths rs).map (·.1)).Nodup:=g.ndT;have n2:=(fw.perm.nodup_iff.mpr n1);have n3:=(Cw.mp n2).2.1;exact(List.pairwise_flatten.mp n3).1 hp (Bz h)
def Sx (g:Good rs)(r:Cf rs W)(ok:FI rs D):(Cq D W).Nodup/\(Cq D W).length<=2:=by
 have pt:=FN g r ok.pi;have hih:=(AG.mp pt.he).1;unfold Cq;generalize W.heaps.getD D.i []=hp at pt;generalize W.lids.getD D.i Str.empty=l at pt
 have one:∀(c:Prop) [Decidable c] (Z:Wl),(if c then [Z]else []).Nodup/\(if c then [Z]else []).length<=2:=λc _ Z=>by
  split
  ·exact⟨by simp,by simp⟩
  exact⟨by simp,by simp⟩
 unfold FV;split
 ·exact one _ _
 unfold Cb;split
 ·exact one _ _
 unfold FX;split
 ·unfold Dv;split <;> exact⟨by simp,by simp⟩
 split
 ·unfold putF;split
  ·exact one _ _
  exact⟨by simp,by simp⟩
 split
 ·unfold DM;split
  ·rename_i t ht;split
   ·unfold CC;split
    ·exact⟨by simp,by simp⟩
    rename_i h0;refine⟨?_,by simp⟩;refine Bq.mpr ⟨λh=>?_,by simp⟩;have e:=AX.mp h;unfold E3 at e;injection e with _ e _;have e1:=BJ (λz:List (List Str)=>z[D.i]?) e;simp only[JX hih,JU (Ea h0)]at e1;rw[pt.he]at e1;have e2:=BJ List.length (Bs e1);rw[Cz,pt.he,AY]at e2;simp at e2
   exact⟨by simp,by simp⟩
  exact⟨by simp,by simp⟩
 unfold Dw;split
 ·rename_i hc;refine⟨Bq.mpr ⟨λh=>?_,by simp⟩,by simp⟩;have e:=BJ Wl.heaps (AX.mp h);have e1:=BJ (λz:List (List Str)=>z[D.i]?) e;simp only[JX hih]at e1;rw[pt.he]at e1;exact Xf hc.2.2 (jZ g r.1 pt.he) (Bs e1).symm
 exact⟨by simp,by simp⟩
inductive PJ (C:Addr)(vs:List V)(H:Hp)(Q:VK)(E0_:XK):Prop
 | mk (x d:Addr) (rs:List Ro) (D:C8) (L:List Wl) (c0:vs=[.ref x,.ref d,.str D.line]) (c1:RoomAt C H x rs) (c2:Good rs) (c3:Rd H d (.dT (BR 0 L))) (c4:L.Nodup) (c5:(∀W∈L,Cf rs W)) (c6:L.length<=200) (c7:FI rs D) (c8:(∀Z∈L,∀W∈Cq D Z,W∈L)) (c9:∀(l:Addr) (tab:List (List Int)) (us:List V) (H':Hp),(∀c u,H c=some u->c≠d->H' c=some u)->Rd H' d (.dT (BR 0 L))->H l=none->H' l=some (.lst us)->A2 (λv e=>∃a,v=V.ref a/\H a=none/\H' a=some (.lst (e.map V.int))) us tab->DeOk L.length ⟨D.line,0,tab⟩->Q (.ref l) H'):PJ C vs H Q E0_
abbrev KY:List Str:=["room", "numbers", "line"]
abbrev fA:List Str:=KY
def X3:AM fA KY (Av Kn):=AO
def ZZ (F:Fun K "numbers_of" "numbers_of" Kf f fd)(T:Bl mg):FnOk P w K mg base CX0 1 f fd KM O8:=by
 refine F.oq XN λcdv A outer s H vs Q E hr h=>?_;obtain⟨d,lw,L,Ws,us,rfl,hd,nd,hl,rd,ok,few,ndW,q⟩:=h;have hu:=CL hr;have ae:sizeLine=16777216:=AK;have hlu:us.length=Ws.length:=by rw[rd.length,Ak]
 refine⟨_,(Ao (AA (AV nB (by rfl) T.sorted Q9 (Aa (CZ (N:=["world", "numbers"]) (sc:=Av Kf) (own:=["world"]) (fr:=["numbers"]) (js:=[0]) BX rfl (BM (pv 1)) (λ_ _ _ _=>AZ (i:=0) (show List.Nodup (["world", "numbers"]:List Str) by decide +kernel)) (λ_ _ _ _=>B5) (λ_ _ _ _=>(B6 hu (pv 1) (pv 0) (λ_ _=>rfl)))) Ac)))),?_⟩;refine⟨_,rfl,lw,rfl,⟨_,SqL.of hl⟩,λD hD=>?_⟩
 refine B8 (n:=us.length) (λi ys H2=>ys=(Ws.take i).map (λW=>V.int (L.idxOf W:Int))/\Same H H2/\H2 D=some (.lst ys)) ⟨rfl,Same.new hD,Ag⟩
  (λi ys H2 hi ⟨_,s2,_⟩=>⟨_,us[i],SqL.of (s2 _ _ hl),AH hi⟩) (λys H2 hh0=>by obtain⟨_,s2,_⟩:=hh0;exact⟨_,SqL.of (s2 _ _ hl),Au _⟩) ?_ ?_
 ·rintro i ys H2 y H3 hi ⟨rfl,s2,e2⟩ ⟨rfl,hy⟩;refine Ce ?_;have hv:=hy _ (SqL.of (s2 _ _ hl));have hi':i<Ws.length:=by lia
  obtain⟨dd,hdd,rdv⟩:=rd.get hv;rw[AI,AH hi']at hdd;cases hdd;have htk:Ws.take (i+1)=Ws.take i++[Ws[i]]:=BF hi';have okW:=ok Ws[i] (BY hi');generalize Ws[i]=W at rdv htk okW;obtain⟨b,rfl,rt⟩:=Nc (s2.rd rdv) okW.1;have hval:=T9 (n:=0) nd (QL okW.2);rw[N3]at hval;refine⟨_,rfl,_,rfl,d,_,rfl,.inr ⟨_,_,b,Hu s2 hd,rfl,rt,hval.symm⟩,?_⟩;refine⟨_,e2,by rw[Ak,Bu];lia,by rw[htk,Ba];rfl,s2.put hD,Ag⟩
 rintro ys H2 ⟨rfl,s2,e2⟩;rw[hlu,BP]at e2;have e2':H2 D=some (.lst ((Ws.map λW=>(L.idxOf W:Int)).map V.int)):=by rw[By];exact e2
 refine⟨D,_,rfl,SqL.of e2',by rw[Ak];lia,λl zs hl' pm srt=>?_⟩;have ndz:zs.Nodup:=pm.nodup_iff.mpr (jM (λW hW=>(ok W hW).2) ndW);have hln:=pm.length_eq;rw[Ak]at hln;refine q l zs _ (s2.trans (Same.new hl')) (none_of s2 hl') Ag ((srt.and ndz).imp λ{a b} h=>by obtain⟨h1,h2⟩:=h;lia) (λz hz=>?_) (by lia);obtain⟨W,hW,rfl⟩:=Bi.mp (pm.mem_iff.mp hz);have:=V2 (ok W hW).2;lia
def bH (F:Fun K "deed_table" "deed_table" Kn f fd)(T:Bl mg)(C_numbers_of:Ca P w K mg base CX0 1 "numbers_of" Kf KM O8)(C_turns:Ca P w K mg base CX0 7 "turns" Kb IR (Mi C)):FnOk P w K mg base CX0 8 f fd KY (PJ C):=by
 refine F.oq X3 λcdv A outer s H vs Q E hr8 h=>?_;obtain⟨x,d,rs,D,L,rfl,ro,g,hd,nd,rw0,few,dk,clo,q⟩:=h;have hu:=CL hr8;have hr7:Room 7 _:=hr8.mono (by decide);have hr1:Room 1 _:=hr8.mono (by decide);have ae:sizeLine=16777216:=AK;have okR:∀{W:Wl},Cf rs W->Ok W:=λr=>r.1.ok g r.2;refine⟨_,(Ao (AA (CZ (N:=["world", "numbers", "room", "line"]) (sc:=Av Kn) (own:=["world"]) (fr:=["numbers", "room", "line"]) (js:=[1,0,2]) BX rfl (TM (pv 1)) (λ_ _ _ _=>AZ (i:=0) (show List.Nodup (["world", "numbers", "room", "line"]:List Str) by decide +kernel)) (λ_ _ _ _=>B5) (λ_ _ _ _=>(A0 C_numbers_of hr1 Ar (Aa (pv 1) (Aa (A0 C_turns hr7 Ar (Aa (pv 2) (Aa (pv 3) (Aa (pv 0) Ac)))) Ac))))))),?_⟩;unfold SH tLc;refine jS (n:=1) ?_ hd λo H1 k1 e1=>?_
 ·intro q h;exact⟨_,rfl,h⟩
 have ro1:=ro.keepT hd k1;intro D0 hD0
 refine B8 (n:=L.length) (λi ys H2=>∃tab:List (List Int),A2 (λv e=>∃a,v=V.ref a/\a≠D0/\H a=none/\H2 a=some (.lst (e.map V.int))) ys tab/\tab.length=i/\(∀e∈tab,e.Pairwise (· < ·)/\(∀z∈e,0<=z/\z<(L.length:Int))/\e.length<=60)/\Same H1 H2/\H2 D0=some (.lst ys)) ⟨[],⟨rfl,λi v t hv=>by cases hv⟩,rfl,λe he=>(by cases he),Same.new hD0,Ag⟩
  (λi ys H2 hi hh0=>by obtain⟨_,_,_,_,s2,_⟩:=hh0;exact⟨by rw[FT];exact hi,s2 _ _ e1⟩) (λys H2 hh0=>by obtain⟨_,_,_,_,s2,_⟩:=hh0;exact⟨by rw[FT];exact Au _,s2 _ _ e1⟩) ?_ ?_
 ·rintro i ys H2 y H3 hi ⟨tab,a2,ht,he,s2,e2⟩ ⟨rfl,k,v,b,hk,rfl,rt⟩;refine Ce ?_;have hz:L[i]? = some L[i]:=AH hi;have rz:=rw0 L[i] (BY hi);have cz:=clo L[i] (BY hi);generalize L[i]=Z at hz rz cz;rw[Nn hz]at hk;cases hk;have okZ:=okR rz;have fP:=g.fewP;obtain⟨tn,tl⟩:=Sx g rz dk;refine⟨_,rfl,_,rfl,_,rfl,_,rfl,x,rs,_,Z,D.line,D.w,D.i,D.p,_,_,D.j,D.pj,_,_,rfl,ro1.same s2,g,Nb rt.rd,dk.wd,dk.len,FN g rz dk.pi,FN g rz dk.pq,dk.tip,dk.nine,okZ.few,by have:=rz.2.2;lia,λlt us6 H6 s6 e6 r6=>?_⟩;refine⟨d,lt,L,Cq D Z,us6,rfl,.inr ⟨o,s6 _ _ (s2 _ _ e1)⟩,nd,e6,r6,λW hW=>⟨okR (ON g rz dk W hW),cz W hW⟩,by lia,tn,λl zs H7 s7 n7 e7 up inn few'=>?_⟩;have s67:=s6.trans s7;have hyl:=a2.len;have lD:l≠D0:=(AF (s6 _ _ e2) n7).symm;refine⟨_,s67 _ _ e2,by lia,tab++[zs],(a2.mono λv e _ h=>?_).app ⟨rfl,λj v e hv he'=>?_⟩,by rw[AY,ht];rfl,λe he'=>?_,(s2.trans s67).put hD0,Ag⟩
  ·obtain⟨a,rfl,ha,hn,h⟩:=h;exact⟨a,rfl,ha,hn,by rw[Ai ha];exact s67 _ _ h⟩
  ·match j with
   | 0=>cases hv;cases he';exact⟨l,rfl,lD,Uc k1 e1 (none_of (s2.trans s6) n7),by rw[Ai lD];exact e7⟩
   | j+1=>cases hv
  rcases BK.mp he' with z | z
  ·exact he e z
  rw[AX.mp z];exact⟨up,inn,few'⟩
 rintro ys H2 ⟨tab,a2,ht,he,s2,e2⟩;exact q D0 tab ys H2 (λc u e hc=>s2 _ _ (k1 c u e hc)) (.inr ⟨o,s2 _ _ e1⟩) (Uc k1 e1 hD0) e2 (a2.mono λv e _ hp0=>by obtain⟨a,h1,_,h2,h3⟩:=hp0;exact⟨a,h1,h2,h3⟩) ⟨ht,λe h=>(he e h).1,λe h=>(he e h).2.1,λe h=>(he e h).2.2⟩
def Mm:Sp:=λ_ _ _ _=>False
abbrev KQ:List Str:=["room", "numbers", "line"]
abbrev dJ:List Str:=KQ
def XQ:AM dJ KQ (Av MK):=AO
def Hc (H:Hp)(v:V)(q:C8×Int):Prop:=∃a,v=V.ref a/\H a=some (.tup [.str q.1.line,.int q.2])
structure OF (rs:List Ro)(Ps:List (C8×Int)):Prop where
 ok:∀q∈Ps,FI rs q.1
 st:∀q∈Ps,LX (q.1.line,q.2)
 few:Ps.length<=40
 nd:(Ps.map λq=>q.1.line).Nodup
def nZ (D0 d:Addr)(H:Hp)(v:V)(e:List Int):Prop:=∃b,v=V.ref b/\b≠D0/\b≠d/\H b=some (.lst (e.map V.int))
def DxV (D0 d:Addr)(H:Hp)(v:V)(de:Dee):Prop:=∃(a t:Addr) (es:List V),v=V.ref a/\a≠D0/\a≠d/\H a=some (.tup [.str de.name,.int de.price,.ref t])/\t≠D0/\t≠d/\H t=some (.lst es)/\A2 (nZ D0 d H) es de.tab
def DxV.keep {de:Dee}(h:DxV D0 d H v de)(k:∀c u,H c=some u->c≠D0->c≠d->H' c=some u):DxV D0 d H' v de:=by obtain⟨a,t,es,e,a1,a2,ea,t1,t2,et,r⟩:=h;exact⟨a,t,es,e,a1,a2,k _ _ ea a1 a2,t1,t2,k _ _ et t1 t2,r.mono λv e _ hp0=>by obtain⟨b,hb,b1,b2,eb⟩:=hp0;exact⟨b,hb,b1,b2,k _ _ eb b1 b2⟩⟩
def DxV.de {de:Dee}(h:DxV D0 d H v de):DeV H v de:=by obtain⟨a,t,es,e,a1,a2,ea,t1,t2,et,r⟩:=h;exact⟨t,es,⟨a,e,ea⟩,et,r.mono λv e _ hp0=>by obtain⟨b,hb,b1,b2,eb⟩:=hp0;exact⟨b,hb,eb⟩⟩
inductive PR (C CH:Addr)(vs:List V)(H:Hp)(Q:VK)(E0_:XK):Prop
 | mk (x d a b:Addr) (rs:List Ro) (Ps:List (C8×Int)) (L:List Wl) (us:List V) (c0:vs=[.ref x,.ref d,.ref a,.ref b]) (c1:RoomAt C H x rs) (c2:Good rs) (c3:Rd H d (.dT (BR 0 L))) (c4:L.Nodup) (c5:(∀W∈L,Cf rs W)) (c6:1<=L.length) (c7:L.length<=200) (c8:H a=some (.lst us)) (c9:A2 (Hc H) us Ps) (c10:OF rs Ps) (c11:H b=some (.lst [])) (c12:(∀q∈Ps,∀Z∈L,∀W∈Cq q.1 Z,W∈L)) (c13:∀(y:Addr) (ds:List Dee) (H':Hp),(∀c u,H c=some u->c≠d->H' c=some u)->Rd H' d (.dT (BR 0 L))->We CH H' y L.length ds []->ds.map (λe=>(e.name,e.price))=Ps.map (λq=>(q.1.line,q.2))->Q (.ref y) H'):PR C CH vs H Q E0_
abbrev K1:List Str:=["room", "numbers", "deeds", "looks"]
abbrev fY:List Str:=BI K1 ["charted_deeds", "charted_looks"]
def scChartOf:AM fY K1 (Av IJ):=AO
def Z9 (F:Fun K "look_table" "look_table" MK f fd):FnOk P w K mg base CX0 8 f fd KQ Mm:=
 F.ok XQ (λvs H Q E h=>h.elim) (λcdv A outer s H vs Q E hr8 h=>h.elim)
def bV (F:Fun K "chart_of" "chart_of" IJ f fd)(T:Bl mg)(MC:L2.Mk K CH fI)(mC:mg "Chart" = some (.ref CH))(bI:Binds K dI ["self", "many", "deeds", "looks"] [])(GI:FnOk P w K mg base CX0 3 fI dI K2 (Py CH))
  (C_deed_table:Ca P w K mg base CX0 8 "deed_table" Kn KY (PJ C))(C_look_table:Ca P w K mg base CX0 8 "look_table" MK KQ Mm):FnOk P w K mg base CX0 9 f fd K1 (PR C CH):=by
 refine F.oq scChartOf λcdv A outer s H vs Q E hr9 h=>?_
 obtain⟨x,d,a,b,rs,Ps,L,us,rfl,ro,g,hd,nd,rw0,l1,l2,ha,hus,tok,hb,clo,q⟩:=h
 have hu:=CL hr9
 have hr8:Room 8 _:=hr9.mono (by decide)
 have hr4:Room 4 _:=hr9.mono (by decide)
 have hr3:Room 3 _:=hr9.mono (by decide)
 have ae:sizeLine=16777216:=AK
 have hul:=hus.len
 have fewP:=tok.few
 have na:a≠d:=Nq hd ha (λz=>by cases z) (λo z=>by cases z)
 have nb:b≠d:=Nq hd hb (λz=>by cases z) (λo z=>by cases z)
 refine⟨_,(Aj (FP (i:=4) (N:=["deed", "room", "numbers"]) (sc:=Av IJ) (own:=["deed"]) (fr:=["room", "numbers"]) (js:=[0,1]) scChartOf.nd rfl rfl BX rfl (BM (pv 2)) (λ_ _ _ _=>AZ (i:=0) (show List.Nodup (["deed", "room", "numbers"]:List Str) by decide +kernel)) (λ_ _ _ _=>B5) (λ_ _ _ _=>(BQ (Aa (Aq (EC K rfl) (pv 0) Ah (λ_ _=>rfl)) (Aa (Aq (EC K rfl) (pv 0) Ah (λ_ _=>rfl)) (Aa (A0 C_deed_table hr8 Ar (Aa (pv 1) (Aa (pv 2) (Aa (Aq (EC K rfl) (pv 0) Ah (λ_ _=>rfl)) Ac)))) Ac)))))) (Aj (FP (i:=5) (N:=["look", "room", "numbers"]) (sc:=Av IJ) (own:=["look"]) (fr:=["room", "numbers"]) (js:=[0,1]) scChartOf.nd rfl rfl BX rfl (BM (pv 3)) (λ_ _ _ _=>AZ (i:=0) (show List.Nodup (["look", "room", "numbers"]:List Str) by decide +kernel)) (λ_ _ _ _=>B5) (λ_ _ _ _=>(BQ (Aa (Aq (EC K rfl) (pv 0) Ah (λ_ _=>rfl)) (Aa (Aq (EC K rfl) (pv 0) Ah (λ_ _=>rfl)) (Aa (A0 C_look_table hr8 Ar (Aa (pv 1) (Aa (pv 2) (Aa (Aq (EC K rfl) (pv 0) Ah (λ_ _=>rfl)) Ac)))) Ac)))))) (Ao (AA (Qo MC GI hr4 (by rfl) mC bI .nil Ar (Aa (AV NU (by rfl) T.len A8 (Aa (pv 1) Ac)) (Aa (pv 4) (Aa (pv 5) Ac)))))))),?_⟩
 refine⟨_,rfl,a,rfl,⟨_,SqL.of ha⟩,λD0 hD0=>?_⟩
 have aD:a≠D0:=AF ha hD0
 have dD:d≠D0:=by
  rcases hd with h | ⟨o,h⟩
  ·exact AF h hD0
  exact AF h hD0
 refine B8 (n:=us.length) (λi ys H2=>∃ds:List Dee,A2 (DxV D0 d H2) ys ds/\ds.map (λe=>(e.name,e.price))=(Ps.take i).map (λq=>(q.1.line,q.2))/\(∀e∈ds,DeOk L.length e)/\(∀c u,H c=some u->c≠d->H2 c=some u)/\Rd H2 d (.dT (BR 0 L))/\H2 D0=some (.lst ys)) ⟨[],⟨rfl,λi v t hv=>by cases hv⟩,rfl,λe he=>(by cases he),λc u e _=>by rw[Ai (AF e hD0)];exact e,Hu (Same.new hD0) hd,Ag⟩
  (λi ys H2 hi ⟨_,_,_,_,k2,_⟩=>⟨_,us[i],SqL.of (k2 _ _ ha na),AH hi⟩) (λys H2 hh0=>by obtain⟨_,_,_,_,k2,_⟩:=hh0;exact⟨_,SqL.of (k2 _ _ ha na),Au _⟩) ?_ ?_
 ·rintro i ys H2 y H3 hi ⟨ds,a2,hm,hok,k2,r2,e2⟩ ⟨rfl,hy⟩;refine Ce ?_;obtain⟨⟨Dl,pr⟩,hq,hqm,a',rfl,et⟩:=hus.at (hy _ (SqL.of (k2 _ _ ha na)));have Bx:atI [V.str Dl.line,V.int pr] ((0:Nat):Int)=some (.str Dl.line):=Az rfl;have at1:atI [V.str Dl.line,V.int pr] ((1:Nat):Int)=some (.int pr):=Az rfl;have et2:=k2 _ _ et (Nq hd et (λz=>by cases z) (λo z=>by cases z));have ro2:=ro.keepT hd k2;refine⟨_,rfl,a',_,_,_,rfl,rfl,SqT.of et2,Bx,_,rfl,a',_,_,_,rfl,rfl,SqT.of et2,at1,_,rfl,_,rfl,_,rfl,a',_,_,_,rfl,rfl,SqT.of et2,Bx,?_⟩;refine⟨x,d,rs,Dl,L,rfl,ro2,g,r2,nd,rw0,l2,tok.ok _ hqm,clo _ hqm,λl tab us4 H4 k4 r4 n4 e4 t4 d4=>?_⟩;refine⟨Bf,λtp htp=>?_⟩;have s5:Same H4 (Ab H4 tp (.tup [.str Dl.line,.int pr,.ref l])):=Same.new htp;have e5:(Ab H4 tp (.tup [.str Dl.line,.int pr,.ref l])) tp=some (.tup [.str Dl.line,.int pr,.ref l]):=Ag;have tD:tp≠D0:=(AF (k4 _ _ e2 dD.symm) htp).symm;have td:tp≠d:=(Na r4 htp).symm;generalize (Ab H4 tp (.tup [.str Dl.line,.int pr,.ref l]))=H5 at s5 e5 ⊢;have e5D:=s5 _ _ (k4 _ _ e2 dD.symm);have hyl:=a2.len;have hml:=BJ List.length hm;rw[Ak,Ak,Bu]at hml;have hi':i<Ps.length:=by lia
  have htk:Ps.take (i+1)=Ps.take i++[(Dl,pr)]:=by rw[BF hi'];rw[AH hi']at hq;rw[Bs hq]
  have k6:∀c u,H3 c=some u->c≠D0->c≠d->(Ab H5 D0 (.lst (ys++[V.ref tp]))) c=some u:=λc u e c1 c2=>by rw[Ai c1];exact s5 _ _ (k4 c u e c2)
  have lD:l≠D0:=(AF e2 n4).symm;have ld:l≠d:=(Na r2 n4).symm;refine⟨_,e5D,by lia,ds++[⟨Dl.line,pr,tab⟩],(a2.mono λv e _ h=>h.keep k6).app ⟨rfl,λj v e hv he'=>?_⟩,by rw[htk,Ba,Ba,hm];rfl,λe he'=>?_,λc u e hc=>?_,?_,Ag⟩
  ·match j with
   | 0=>cases hv;cases he';refine⟨tp,l,us4,rfl,tD,td,by rw[Ai tD];exact e5,lD,ld,by rw[Ai lD];exact s5 _ _ e4,t4.mono λv e _ hp0=>?_⟩;obtain⟨z,hz,n,ez⟩:=hp0;refine⟨z,hz,(AF e2 n).symm,(Na r2 n).symm,?_⟩;rw[Ai (AF e2 n).symm];exact s5 _ _ ez
   | j+1=>cases hv
  ·rcases BK.mp he' with z | z
   ·exact hok e z
   rw[AX.mp z];exact⟨d4.len,d4.up,d4.inn,d4.few⟩
  ·rw[Ai (AF e hD0)];exact s5 _ _ (k4 _ _ (k2 c u e hc) hc)
  rcases Hu s5 r4 with h | ⟨o,h⟩
  ·exact .inl (by rw[Ai dD];exact h)
  exact .inr ⟨o,by rw[Ai dD];exact h⟩
 rintro ys H2 ⟨ds,a2,hm,hok,k2,r2,e2⟩
 rw[hul,BP]at hm
 refine⟨_,rfl,b,rfl,⟨_,SqL.of (k2 _ _ hb nb)⟩,λD1 hD1=>?_⟩
 refine B8 (n:=0) (λi zs H3=>zs=[]/\H3=Ab H2 D1 (.lst [])) ⟨rfl,rfl⟩ (λi zs H3 hi=>absurd hi (Rn _)) (λzs H3 hh0=>by obtain⟨_,h3⟩:=hh0;exact⟨[],SqL.of (show H3 b=some (.lst []) by rw[h3,Ai (AF (k2 _ _ hb nb) hD1)];exact k2 _ _ hb nb),Au _⟩) (λi zs H3 y H4 hi=>absurd hi (Rn _)) ?_
 rintro zs H3 ⟨rfl,h3⟩
 have s3:Same H2 H3:=by rw[h3];exact Same.new hD1
 have e3:H3 D1=some (.lst []):=by rw[h3];exact Ag
 clear h3
 refine⟨_,rfl,d,_,rfl,Hu s3 r2,_,rfl,_,rfl,?_⟩
 rw[FT]
 intro y dy ny ndy ney
 have s4:Same H3 (Ab (Ab H3 dy (.own y)) y (.ins CH dy [])):=λc o e=>by rw[Ai (AF e ny),Ai (AF e ndy)];exact e
 have s34:=s3.trans s4
 have hln:=BJ List.length hm
 rw[Ak,Ak]at hln
 have hnm:ds.map Dee.name=Ps.map λq=>q.1.line:=by have:=BJ (List.map Prod.fst) hm;rw[By,By]at this;exact this
 refine⟨y,dy,D0,D1,L.length,ys,[],ds,[],[],rfl,Ag,s34 _ _ e2,s4 _ _ e3,a2.mono λv e _ h=>(h.keep λc u e _ _=>s34 _ _ e).de,⟨rfl,λi v t hv=>by cases hv⟩,⟨l1,l2,by lia,by decide,?_,λe he=>?_,λe he=>(by cases he),hok,λe he=>(by cases he),λe he=>(by cases he),by decide,GS⟩,λH5 kp ca=>⟨rfl,?_⟩⟩
 ·rw[FE,Cm,hnm];exact tok.nd
 ·have hme:(e.name,e.price)∈ds.map λe=>(e.name,e.price):=Cy he;rw[hm]at hme;obtain⟨q',hq',e'⟩:=Bi.mp hme;rw[<- e'];exact tok.st q' hq'
 refine q y ds H5 (λc u e hc=>?_) ?_ ca hm
 ·have e':=s3 _ _ (k2 c u e hc);exact kp c u (s4 _ _ e') (AF e' ny)
 have r3:=Hu s3 r2
 have dy':=Na r3 ny
 rcases Hu s4 r3 with h | ⟨o,h⟩
 ·exact .inl (kp _ _ h dy')
 exact .inr ⟨o,kp _ _ h dy'⟩
def F3 (g:Good rs)(ok:FI rs D):∃ps:List Str,Wd D.line (D.w::ps)/\ps.length<=100/\GE rs D.w ps=true:=by
 have hw:=ok.wd;unfold C9 at hw;by_cases htip:D.w = "tip"
 ·rw[As htip]at hw;have hnd:[D.p.1,D.pj.1].Nodup:=by have hne:D.p.1≠D.pj.1:=λe=>ok.tip htip (Qj g ok.pi ok.pq e);simp[hne]
  refine⟨_,hw,by show 2<=100;decide,?_⟩;unfold GE;have h2:CF D.w=V.int 2:=by rw[htip];decide +kernel
  rw[show decide (CF D.w=V.int (([D.p.1,D.pj.1].length:Nat):Int))=true from AR h2,AR hnd];rw[show([D.p.1,D.pj.1].all λp=>decide (p∈(plc rs).map (·.1)))=true from ?_]
  ·rfl
  rw[Fd];intro y hy;refine AR ?_;rcases(AL.mp hy)with e | e
  ·rw[e];exact Cy (Bz ok.pi)
  rw[AX.mp e];exact Cy (Bz ok.pq)
 rw[Am htip]at hw
 have hpl:CF D.w=V.int 1:=by
  rcases Nr ok.nine with hm | hm
  ·rcases Jq hm with e | e | e | e | e
   ·rw[e];decide +kernel
   ·rw[e];decide +kernel
   ·rw[e];decide +kernel
   ·exact absurd e htip
   rw[e];decide +kernel
  exact Uo hm
 exact⟨_,hw,by show 1<=100;decide,Vf ok.pi hpl⟩
def Hb (H:Hp)(v:V)(s:Str×Int):Prop:=∃a,v=V.ref a/\H a=some (.tup [.str s.1,.int s.2])
inductive PL (vs:List V)(H:Hp)(Q:VK)(E0_:XK):Prop
 | mk (a b:Addr) (ds ls:List V) (st:List (Str×Int)) (c0:vs=[.ref a,.ref b]) (c1:H a=some (.lst ds)) (c2:H b=some (.lst ls)) (c3:A2 (Hb H) (ds++ls) st) (c4:ds.length<=40) (c5:ls.length<=40) (c6:(st.map (·.1)).Nodup) (c7:(∀s∈st,LX s)) (c8:∀H':Hp,Same H H'->Q .non H'):PL  vs H Q E0_
abbrev KJ:List Str:=["room", "line"]
abbrev cT:List Str:=BI KJ ["words"]
def XI:AM cT KJ (Av ME):=AO
inductive PK (C:Addr)(vs:List V)(H:Hp)(Q:VK)(E0_:XK):Prop
 | mk (x a b:Addr) (rs:List Ro) (Ps:List (C8×Int)) (us:List V) (c0:vs=[.ref x,.ref a,.ref b]) (c1:RoomAt C H x rs) (c2:Good rs) (c3:H a=some (.lst us)) (c4:A2 (Hc H) us Ps) (c5:OF rs Ps) (c6:H b=some (.lst [])) (c7:∀H':Hp,Same H H'->Q .non H'):PK C vs H Q E0_
abbrev KZ:List Str:=["room", "deeds", "looks"]
abbrev fG:List Str:=BI KZ ["deed", "look"]
def scCheckTold:AM fG KZ (Av MZ):=AO
def bM (F:Fun K "check_steps" "check_steps" Gp f fd)(T:Bl mg)(M:Mc mg)(C_check_name:Ca P w K mg base CX0 1 "check_name" Kq Jk Mt)(C_check_price:Ca P w K mg base CX0 1 "check_price" Kp Jj Ms):FnOk P w K mg base CX0 2 f fd Gx PL:=by
 obtain⟨t1,m1⟩:=M.ms;refine F.oq scCheckSteps λcdv A outer s H vs Q E hr1 h=>?_;obtain⟨a,b,ds,ls,st,rfl,ha,hb,hst,fd',fl,nd,ok,q⟩:=h;have ae:sizeLine=16777216:=AK;refine⟨_,(Aj (AQ (PW.pt (CD (AC Ez (AV Bp (by rfl) T.len A8 (Aa (pv 0) Ac)) (C0 (v:=.int 40) (by rfl) m1 ⟨_,rfl⟩) (AD _)) (DU (AC Ez (AV Bp (by rfl) T.len A8 (Aa (pv 1) Ac)) (C0 (v:=.int 40) (by rfl) m1 ⟨_,rfl⟩) (AD _))))) Ci AS) (Aj (AB (i:=2) scCheckSteps.nd (Ax Jo (BW Fz (by rfl) T.list DV (Aa (pv 0) Ac)) (BW Fz (by rfl) T.list DV (Aa (pv 1) Ac)))) (Aj (FP (i:=3) (N:=["step"]) (sc:=Av Gp) (own:=["step"]) (fr:=[]) (js:=[]) scCheckSteps.nd rfl rfl BX rfl (BM (pv 2)) (λ_ _ _ _=>AZ (i:=0) (show List.Nodup (["step"]:List Str) by decide +kernel)) (λ_ _ _ _=>B5) (λ_ _ _ _=>(Aq (EC K rfl) (pv 0) Ah (λ_ _=>rfl)))) (Aj (AQ (AC Hz (AV NT (by rfl) T.len A8 (Aa (BW (NS rfl) (by rfl) T.set Lm (Aa (pv 3) Ac)) Ac)) (AV Bp (by rfl) T.len A8 (Aa (pv 3) Ac)) (AD _)) Ci AS) (Ao (BU BS rfl (BM (pv 2)) (AZ (i:=4) scCheckSteps.nd) (Aj (B1 (A0 C_check_name hr1 Ar (Aa (Aq AJ (pv 4) Ah (λ_ _=>rfl)) Ac))) (Ao (B1 (A0 C_check_price hr1 Ar (Aa (Aq AJ (pv 4) Ah (λ_ _=>rfl)) Ac))))))))))),?_⟩;refine⟨_,rfl,_,_,rfl,.inl ⟨_,SqL.of ha,rfl⟩,_,_,rfl,rfl,_,rfl,?_⟩;refine Bd (λz=>?_) (λ_=>?_)
 ·exfalso;have:=A4 z;lia
 refine⟨_,rfl,_,_,rfl,.inl ⟨_,SqL.of hb,rfl⟩,_,_,rfl,rfl,_,rfl,?_⟩;refine Bd (λz=>?_) (λ_=>?_)
 ·exfalso;have:=A4 z;lia
 refine⟨_,rfl,a,_,rfl,.inl (SqL.of ha),λl1 hl1=>?_⟩;obtain⟨H1,g0,s1,e1⟩:=BD (H:=H) (o:=.lst ds) hl1;rw[g0];refine⟨_,rfl,b,_,rfl,.inl (SqL.of (s1 _ _ hb)),λl2 hl2=>?_⟩;obtain⟨H2,g0,s2,e2⟩:=BD (H:=H1) (o:=.lst ls) hl2;rw[g0];refine⟨l1,l2,_,_,rfl,rfl,s2 _ _ e1,e2,by lia,λl3 hl3=>?_⟩;obtain⟨H3,g0,s3,e3⟩:=BD (H:=H2) (o:=.lst (ds++ls)) hl3;rw[g0];have s13:=(s1.trans s2).trans s3;have hst3:=hst.mono λv s _ ⟨z,e,r⟩=>(⟨z,e,s13 _ _ r⟩:Hb H3 v s);have hsl2:=hst.len;have hdl:(ds++ls).length<=80:=by rw[AY];lia
 generalize ds++ls=xs at e3 hst3 hsl2 hdl;refine⟨_,rfl,l3,rfl,⟨_,SqL.of e3⟩,λD hD=>?_⟩
 refine B8 (n:=xs.length) (λi ys H4=>ys=((st.take i).map (·.1)).map V.str/\Same H3 H4/\H4 D=some (.lst ys)) ⟨rfl,Same.new hD,Ag⟩
  (λi ys H4 hi hh0=>by obtain⟨_,s4,_⟩:=hh0;exact⟨_,xs[i],SqL.of (s4 _ _ e3),by simp[hi]⟩) (λys H4 hh0=>by obtain⟨_,s4,_⟩:=hh0;exact⟨_,SqL.of (s4 _ _ e3),by simp⟩) ?_ ?_
 ·rintro i ys H4 y H5 hi ⟨rfl,s4,e4⟩ ⟨rfl,hy⟩;refine Ce ?_;obtain⟨sp,hsp,hmem,a',rfl,et⟩:=hst3.at (hy _ (SqL.of (s4 _ _ e3)));have Bx:atI [V.str sp.1,V.int sp.2] ((0:Nat):Int)=some (.str sp.1):=Az rfl;refine⟨_,rfl,a',_,_,_,rfl,rfl,SqT.of (s4 _ _ et),Bx,_,e4,by simp only[Ak,Bu];lia,?_,s4.put hD,Ag⟩;obtain⟨hi2,e⟩:=AG.mp hsp;rw[BF hi2,Ba,Ba,e];rfl
 rintro ys H4 ⟨rfl,s4,e4⟩;rw[hsl2,BP]at e4;have hnl:(st.map (·.1)).length=st.length:=Ak ..;have ek:(st.map (·.1)).map V.str=((st.map (·.1)).map (Sum.inr:Str->Af)).map kV:=by rw[By,By,By];rfl
 have hdd:=PX nd;have hks:((st.map (·.1)).map (Sum.inr:Str->Af)).length=st.length:=by rw[Ak,Ak]
 refine⟨_,rfl,D,(st.map (·.1)).map Sum.inr,rfl,SqL.of (by rw[<- ek];exact e4),by lia,λst' hst'=>?_⟩;have s5:Same H4 (Ab H4 st' (Hk P w st' (SK.dd (BV ((st.map (·.1)).map (Sum.inr:Str->Af))) ((st.map (·.1)).map (Sum.inr:Str->Af)).length).length)):=Same.new hst';refine⟨st',_,rfl,Ag,_,rfl,_,_,rfl,.inl ⟨_,SqL.of (s5 _ _ e4),rfl⟩,_,_,rfl,rfl,_,rfl,?_⟩;have hml:((st.map (·.1)).map V.str).length=(st.map (·.1)).length:=Ak ..;refine Bd (λhlt=>?_) (λ_=>?_)
 ·exfalso;have:=A4 hlt;rw[hml,hdd]at this;lia
 have s45:=s4.trans s5;have e35:=s45 _ _ e3;refine⟨_,rfl,l3,rfl,⟨_,SqL.of e35⟩,Dn (K:=K) (a:=l3) (xs:=xs) (λi σ H6=>∃v4:Option V,σ = [some (.ref a),some (.ref b),some (.ref l3),some (.ref D),v4]/\Same H3 H6) ⟨none,rfl,s45⟩ (λi σ H6 _ hh0=>by obtain⟨_,_,s6⟩:=hh0;exact SqL.of (s6 _ _ e3)) ?_ ?_⟩
 ·rintro i y σ H6 hy ⟨v4,rfl,s6⟩;obtain⟨sp,hsp,hmem,a',rfl,et⟩:=hst3.at hy;have Bx:atI [V.str sp.1,V.int sp.2] ((0:Nat):Int)=some (.str sp.1):=Az rfl;have at1:atI [V.str sp.1,V.int sp.2] ((1:Nat):Int)=some (.int sp.2):=Az rfl;have et6:=s6 _ _ et;have o:=ok _ hmem;refine⟨_,rfl,a',_,_,_,rfl,rfl,SqT.of et6,Bx,sp.1,rfl,o.n1,o.n2,?_⟩;refine⟨_,rfl,a',_,_,_,rfl,rfl,SqT.of et6,at1,sp.2,rfl,o.p1,o.p2,?_⟩;exact⟨_,rfl,s6⟩
 rintro σ H6 ⟨v4,rfl,s6⟩;exact q H6 (s13.trans s6)
def ZO (F:Fun K "read_look" "read_look" ME f fd):FnOk P w K mg base CX0 2 f fd KJ Mm:=
 F.ok XI (λvs H Q E h=>h.elim) (λcdv A outer s H vs Q E hr8 h=>h.elim)
def bJ (F:Fun K "check_told" "check_told" MZ f fd)(C_read_deed:Ca P w K mg base CX0 2 "read_deed" IG IU (Mj C))(C_read_look:Ca P w K mg base CX0 2 "read_look" ME KJ Mm)
  (C_check_steps:Ca P w K mg base CX0 2 "check_steps" Gp Gx PL):FnOk P w K mg base CX0 3 f fd KZ (PK C):=by
 refine F.oq scCheckTold λcdv A outer s H vs Q E hr3 h=>?_
 obtain⟨x,a,b,rs,Ps,us,rfl,ro,g,ha,hus,tok,hb,q⟩:=h
 have hr2:Room 2 _:=hr3.mono (by decide)
 have hul:=hus.len
 have fewP:=tok.few
 refine⟨_,(Aj (BU BS rfl (BM (pv 1)) (AZ (i:=3) scCheckTold.nd) (Ao (B1 (A0 C_read_deed hr2 Ar (Aa (pv 0) (Aa (Aq AJ (pv 3) Ah (λ_ _=>rfl)) Ac)))))) (Aj (BU BS rfl (BM (pv 2)) (AZ (i:=4) scCheckTold.nd) (Ao (B1 (A0 C_read_look hr3 Ar (Aa (pv 0) (Aa (Aq AJ (pv 4) Ah (λ_ _=>rfl)) Ac)))))) (Ao (B1 (A0 C_check_steps hr2 Ar (Aa (pv 1) (Aa (pv 2) Ac))))))),?_⟩
 refine⟨_,rfl,a,rfl,⟨_,SqL.of ha⟩,Dn (K:=K) (a:=a) (xs:=us) (λi σ H2=>∃v3:Option V,σ = [some (.ref x),some (.ref a),some (.ref b),v3,none]/\Same H H2) ⟨none,rfl,λ_ _ e=>e⟩ (λi σ H2 _ hh0=>by obtain⟨_,_,s2⟩:=hh0;exact SqL.of (s2 _ _ ha)) ?_ ?_⟩
 ·rintro i y σ H2 hy ⟨v3,rfl,s2⟩;obtain⟨⟨Dl,pr⟩,hq,hqm,a',rfl,et⟩:=hus.at hy;have Bx:atI [V.str Dl.line,V.int pr] ((0:Nat):Int)=some (.str Dl.line):=Az rfl;obtain⟨ps,hw,hps,hdk⟩:=F3 g (tok.ok _ hqm);refine⟨_,rfl,_,rfl,a',_,_,_,rfl,rfl,SqT.of (s2 _ _ et),Bx,x,rs,Dl.line,Dl.w,ps,rfl,ro.same s2,hw,(tok.ok _ hqm).len,hps,hdk,λl H3 s3 _=>?_⟩;exact⟨_,rfl,s2.trans s3⟩
 rintro σ H2 ⟨v3,rfl,s2⟩
 refine⟨_,rfl,b,rfl,⟨_,SqL.of (s2 _ _ hb)⟩,Dn (K:=K) (a:=b) (xs:=[]) (λi σ H3=>σ = [some (.ref x),some (.ref a),some (.ref b),v3,none]/\Same H H3) ⟨rfl,s2⟩ (λi σ H3 _ hh0=>by obtain⟨_,s3⟩:=hh0;exact SqL.of (s3 _ _ hb)) (λi y σ H3 hy=>by cases hy) ?_⟩
 rintro σ H3 ⟨rfl,s3⟩
 have hst:A2 (Hb H3) (us++[]) (Ps.map λq=>(q.1.line,q.2)):=by rw[Cm];refine⟨by rw[Ak];exact hul,λi v t hv ht=>?_⟩;obtain⟨q',hq',_,a',e,et⟩:=hus.at hv;rw[AI,hq']at ht;cases ht;exact⟨a',e,s3 _ _ et⟩
 refine⟨_,rfl,_,rfl,a,b,us,[],_,rfl,s3 _ _ ha,s3 _ _ hb,hst,by lia,by decide,by rw[By];exact tok.nd,λs hs=>?_,λH4 s4=>?_⟩
 ·obtain⟨q',hq',rfl⟩:=Bi.mp hs;exact tok.st q' hq'
 exact q H4 (s3.trans s4)
structure L7 (K:W.Frag)(C:Addr):Prop where
 cl:Cls K C
 n1:NoAttr K C "told_room"
 n2:NoAttr K C "numbers"
 n3:NoAttr K C "made_chart"
def g1 (x:Addr):List (Str×V):=L2.putF "told_room" (.ref x) []
def g2 (x d:Addr):List (Str×V):=L2.putF "numbers" (.ref d) (g1 x)
def g3 (x d y:Addr):List (Str×V):=L2.putF "made_chart" (.ref y) (g2 x d)
def kS (x d:Addr):(g2 x d).lookup ("numbers" : Str)=some (.ref d):=by unfold g2;rw[Cd,As rfl]
def kR (x d y:Addr):(g3 x d y).lookup ("numbers" : Str)=some (.ref d):=by unfold g3 g2;rw[Cd,Am (by decide +kernel),Cd,As rfl]
def kQ (x d y:Addr):(g3 x d y).lookup ("told_room" : Str)=some (.ref x):=by unfold g3 g2 g1;rw[Cd,Am (by decide +kernel),Cd,Am (by decide +kernel),Cd,As rfl]
structure AtAt (C CT:Addr)(H:Hp)(z:Addr)(rs:List Ro)(L:List Wl):Prop where
 ex:∃(dz x d y:Addr),H z=some (.ins CT dz (g3 x d y))/\RoomAt C H x rs/\Rd H d (.dT (BR 0 L))
def RoomAt.keepX (R:RoomAt C H x rs)(hy:H y=some (.ins CT dy fl))(hf:fl.lookup ("told_places" : Str)=none)(k:∀c u,H c=some u->c≠y->H' c=some u):RoomAt C H' x rs:=by obtain⟨dx,d1,d2,o,ks,h1,h2,h3,h4⟩:=R.ex;refine⟨dx,d1,d2,o,ks,k _ _ h1 λz=>?_,k _ _ h2 (A7 h2 hy (by intro z;cases z)),h3.same λb xs e=>k _ _ e (A7 e hy (by intro z;cases z)),k _ _ h4 (A7 h4 hy (by intro z;cases z))⟩;rw[z,hy]at h1;have e:=Bs h1;injection e with _ _ e;rw[e,M8]at hf;cases hf
def kP:([]:List (Str×V)).lookup ("told_places" : Str)=none:=rfl
def UV (x:Addr):(g1 x).lookup ("told_places" : Str)=none:=by unfold g1;rw[Cd,Am (by decide +kernel)];rfl
def kT (x d:Addr):(g2 x d).lookup ("told_places" : Str)=none:=by unfold g2;rw[Cd,Am (by decide +kernel)];exact UV x
theorem To :∀{L:List Wl}{n:Nat}{as:List Addr},Sa H as (BR n L)->RdVs H (as.map V.ref) (L.map dW)
 | [],n,as,ky=>by
  have:=ky.len;match as,this with
  | [],_=>exact .nil
 | Z::r,n,as,ky=>by
  have hl:=ky.len;match as,hl with
  | b::bs,hl=>refine .cons (Nb (ky.at' 0 b _ _ rfl rfl).rd) (To (n:=n+1) ⟨Nat.succ.inj hl,λi a k v h1 h2=>ky.at' (i+1) a k v h1 h2⟩)
inductive Px (C CT:Addr)(vs:List V)(H:Hp)(Q:VK)(E0_:XK):Prop
 | mk (z dz x lw a b:Addr) (rs:List Ro) (Ws:List Wl) (Ps:List (C8×Int)) (us0 us:List V) (c0:vs=[.ref z,.ref x,.ref lw,.ref a,.ref b]) (c1:H z=some (.ins CT dz [])) (c2:RoomAt C H x rs) (c3:Good rs) (c4:H lw=some (.lst us0)) (c5:RdVs H us0 (Ws.map dW)) (c6:Ws≠[]) (c7:(∀W∈Ws,Cf rs W)) (c8:H a=some (.lst us)) (c9:A2 (Hc H) us Ps) (c10:OF rs Ps) (c11:H b=some (.lst [])) (c12:(∀M:List Wl,M.Nodup->(∀W∈M,Cf rs W)->M.length<=200)) (c13:∀(L:List Wl) (H':Hp),(∀c u,H c=some u->c≠z->H' c=some u)->AtAt C CT H' z rs L->NA rs Ws (Ps.map (·.1)) L.length L->Q .non H'):Px C CT vs H Q E0_
inductive OV (C CT:Addr)(vs:List V)(H:Hp)(Q:VK)(E0_:XK):Prop
 | mk (z:Addr) (rs:List Ro) (L:List Wl) (c0:vs=[.ref z]) (c1:AtAt C CT H z rs L) (c2:∀(l:Addr) (us:List V) (H':Hp),Same H H'->H l=none->H' l=some (.lst us)->RdVs H' us (L.map dW)->Q (.ref l) H'):OV C CT vs H Q E0_
inductive OZ (C CT:Addr)(vs:List V)(H:Hp)(Q:VK)(E0_:XK):Prop
 | mk (z:Addr) (rs:List Ro) (L:List Wl) (c0:vs=[.ref z]) (c1:AtAt C CT H z rs L) (c2:∀x,RoomAt C H x rs->Q (.ref x) H):OZ C CT vs H Q E0_
abbrev Jm:List Str:=["self", "room", "worlds", "deeds", "looks"]
abbrev gE:List Str:=Jm
def Yd:AM gE Jm (Av M5):=AO
abbrev Qw:List Str:=["self"]
abbrev gC:List Str:=Qw
def Yb:AM gC Qw (Av P5):=AO
abbrev Qx:List Str:=["self"]
abbrev gD:List Str:=Qx
def Yc:AM gD Qx (Av P6):=AO
def bZ (F:Fun K "room" "Atlas.room" P6 f fd)(L:L7 K CT):FnOk P w K mg base CX0 1 f fd ["self"] (OZ C CT):=by refine F.oq Yc λcdv A outer s H vs Q E hr h=>?_;obtain⟨z,rs,L',rfl,at',q⟩:=h;obtain⟨dz,x,d,y,hz,ro,hd⟩:=at'.ex;refine⟨_,(Ao (AA (FQ (pv 0) rfl))),?_⟩;exact⟨_,rfl,z,CT,dz,_,_,rfl,hz,L.cl,L.n1,kQ x d y,q x ro⟩
def bY (F:Fun K "worlds" "Atlas.worlds" P5 f fd)(T:Bl mg)(L:L7 K CT):FnOk P w K mg base CX0 1 f fd ["self"] (OV C CT):=by refine F.oq Yb λcdv A outer s H vs Q E hr h=>?_;obtain⟨z,rs,L',rfl,at',q⟩:=h;obtain⟨dz,x,d,y,hz,ro,hd⟩:=at'.ex;refine⟨_,(Ao (AA (BW (VE rfl) (by rfl) T.list DV (Aa (FQ (pv 0) rfl) Ac)))),?_⟩;refine⟨_,rfl,z,CT,dz,_,_,rfl,hz,L.cl,L.n2,kR x d y,d,_,rfl,hd,λl as hl ky=>?_⟩;exact q l _ _ (Same.new hl) hl Ag ((Same.new hl).rds (To ky))
def cA (F:Fun K "__init__" "Atlas.__init__" M5 f fd)(T:Bl mg)(LT:L7 K CT)(C_check_told:Ca P w K mg base CX0 3 "check_told" MZ KZ (PK C))(C_number_all:Ca P w K mg base CX0 9 "number_all" MH KN (O9 C))
  (C_chart_of:Ca P w K mg base CX0 9 "chart_of" IJ K1 (PR C CH)):FnOk P w K mg base CX0 10 f fd Jm (Px C CT):=by
 refine F.oq Yd λcdv A outer s H vs Q E hr10 h=>?_
 obtain⟨z,dz,x,lw,a,b,rs,Ws,Ps,us0,us,rfl,hz,ro,g,hlw,rd0,ne,rw0,ha,hus,tok,hb,bnd,q⟩:=h
 have hr9:Room 9 _:=hr10.mono (by decide)
 have hr3:Room 3 _:=hr10.mono (by decide)
 have ae:sizeLine=16777216:=AK
 have hul:=hus.len
 have fewP:=tok.few
 refine⟨_,(Aj (B1 (A0 C_check_told hr3 Ar (Aa (pv 1) (Aa (pv 3) (Aa (pv 4) Ac))))) (Aj (EW (pv 0) (pv 1) rfl) (Aj (EW (pv 0) (A0 C_number_all hr9 Ar (Aa (pv 1) (Aa (pv 2) (Aa (CZ (N:=["deed"]) (sc:=Av M5) (own:=["deed"]) (fr:=[]) (js:=[]) BX rfl (BM (pv 3)) (λ_ _ _ _=>AZ (i:=0) (show List.Nodup (["deed"]:List Str) by decide +kernel)) (λ_ _ _ _=>B5) (λ_ _ _ _=>(Aq (EC K rfl) (pv 0) Ah (λ_ _=>rfl)))) Ac)))) rfl) (Ao (EW (pv 0) (A0 C_chart_of hr9 Ar (Aa (pv 1) (Aa (FQ (pv 0) rfl) (Aa (pv 3) (Aa (pv 4) Ac))))) rfl))))),?_⟩
 refine⟨_,rfl,_,rfl,_,rfl,x,a,b,rs,Ps,us,rfl,ro,g,ha,hus,tok,hb,λH1 s1=>?_⟩
 refine⟨_,rfl,_,rfl,z,CT,dz,[],rfl,s1 _ _ hz,LT.cl,LT.n1,by show 0<1000;decide,?_⟩
 have kc2:∀c u,H c=some u->c≠z->(Ab H1 z (.ins CT dz (L2.putF "told_room" (.ref x) []))) c=some u:=λc u e hc=>by rw[Ai hc];exact s1 _ _ e
 have xc2:(Ab H1 z (.ins CT dz (L2.putF "told_room" (.ref x) []))) z=some (.ins CT dz (g1 x)):=Ag
 generalize (Ab H1 z (.ins CT dz (L2.putF "told_room" (.ref x) [])))=H2 at kc2 xc2 ⊢
 have ro2:=ro.keepX hz kP kc2
 have az:a≠z:=A7 ha hz (by intro z;cases z)
 have bz:b≠z:=A7 hb hz (by intro z;cases z)
 have wz:lw≠z:=A7 hlw hz (by intro z;cases z)
 have ha2:=kc2 _ _ ha az
 have rd2:RdVs H2 us0 (Ws.map dW):=rd0.same λc xs e=>kc2 c _ e (A7 e hz (by intro z;cases z))
 have hus2:A2 (Hc H2) us Ps:=hus.mono λv s _ ⟨c,e,et⟩=>⟨c,e,kc2 _ _ et (A7 et hz (by intro z;cases z))⟩
 refine⟨_,rfl,_,rfl,_,rfl,a,rfl,⟨_,SqL.of ha2⟩,λD hD=>?_⟩
 refine B8 (n:=us.length) (λi ys H3=>ys=((Ps.map (·.1)).take i).map (λD=>V.str D.line)/\Same H2 H3/\H3 D=some (.lst ys)) ⟨rfl,Same.new hD,Ag⟩
  (λi ys H3 hi ⟨_,s3,_⟩=>⟨_,us[i],SqL.of (s3 _ _ ha2),AH hi⟩) (λys H3 hh0=>by obtain⟨_,s3,_⟩:=hh0;exact⟨_,SqL.of (s3 _ _ ha2),Au _⟩) ?_ ?_
 ·rintro i ys H3 y H4 hi ⟨rfl,s3,e3⟩ ⟨rfl,hy⟩;refine Ce ?_;obtain⟨⟨Dl,pr⟩,hq,hqm,a',rfl,et⟩:=hus2.at (hy _ (SqL.of (s3 _ _ ha2)));have Bx:atI [V.str Dl.line,V.int pr] ((0:Nat):Int)=some (.str Dl.line):=Az rfl;have hi':i<(Ps.map (·.1)).length:=by rw[Ak];lia
  refine⟨_,rfl,a',_,_,_,rfl,rfl,SqT.of (s3 _ _ et),Bx,_,e3,by rw[Ak,Bu];lia,?_,s3.put hD,Ag⟩;have e:(Ps.map (·.1))[i]? = some Dl:=by rw[AI,hq];rfl
  obtain⟨_,e⟩:=AG.mp e;rw[BF hi',Ba,e];rfl
 rintro ys H3 ⟨rfl,s3,e3⟩
 rw[show us.length=(Ps.map (·.1)).length by rw[Ak];exact hul,BP]at e3
 refine⟨x,lw,D,rs,Ws,Ps.map (·.1),us0,rfl,ro2.same s3,g,s3 _ _ (kc2 _ _ hlw wz),s3.rds rd2,rw0,e3,λD' hD'=>?_,bnd,λd L H4 s4 nd4 e4 na=>?_⟩
 ·obtain⟨q',hq',rfl⟩:=Bi.mp hD';exact tok.ok q' hq'
 have s34:=s3.trans s4
 have z4:=s34 _ _ xc2
 have dz':d≠z:=A7 e4 z4 (by intro z;cases z)
 refine⟨_,rfl,z,CT,dz,_,rfl,z4,LT.cl,LT.n2,by show 1<1000;decide,?_⟩
 have kc5:∀c u,H4 c=some u->c≠z->(Ab H4 z (.ins CT dz (L2.putF "numbers" (.ref d) (g1 x)))) c=some u:=λc u e hc=>by rw[Ai hc];exact e
 have xc5:(Ab H4 z (.ins CT dz (L2.putF "numbers" (.ref d) (g1 x)))) z=some (.ins CT dz (g2 x d)):=Ag
 generalize (Ab H4 z (.ins CT dz (L2.putF "numbers" (.ref d) (g1 x))))=H5 at kc5 xc5 ⊢
 have k5:∀c u,H c=some u->c≠z->H5 c=some u:=λc u e hc=>kc5 c u (s34 _ _ (kc2 c u e hc)) hc
 have ro5:=(ro2.same s34).keepX z4 (UV x) kc5
 have hus5:A2 (Hc H5) us Ps:=hus.mono λv s _ ⟨c,e,et⟩=>⟨c,e,k5 _ _ et (A7 et hz (by intro z;cases z))⟩
 have l1:1<=L.length:=by obtain⟨t,et⟩:=na.pre;obtain⟨W,hW⟩:=List.exists_mem_of_ne_nil _ ne;have hm:W∈A3 [] Ws:=addN_mem.mpr (.inr hW);have:=List.length_pos_of_mem hm;rw[et,AY];lia
 refine⟨_,rfl,_,rfl,z,CT,dz,_,_,rfl,xc5,LT.cl,LT.n2,kS x d,_,rfl,_,rfl,?_⟩
 refine⟨x,d,a,b,rs,Ps,L,us,rfl,ro5,g,.inl (kc5 _ _ e4 dz'),na.nd,na.rw',l1,bnd _ na.nd na.rw',k5 _ _ ha az,hus5,tok,k5 _ _ hb bz,λq' hq' Z hZ W hW=>?_,λy ds H6 k6 r6 ca hm=>?_⟩
 ·obtain⟨i,hi⟩:=G9 hZ;exact na.clo i Z (AG.mp hi).1 hi q'.1 (Cy hq') W hW
 have z6:=k6 _ _ xc5 dz'.symm
 have ro6:=ro5.keepT (.inl (kc5 _ _ e4 dz')) k6
 refine⟨_,rfl,z,CT,dz,_,rfl,z6,LT.cl,LT.n3,by show 2<1000;decide,?_⟩
 have kc7:∀c u,H6 c=some u->c≠z->(Ab H6 z (.ins CT dz (L2.putF "made_chart" (.ref y) (g2 x d)))) c=some u:=λc u e hc=>by rw[Ai hc];exact e
 have xc7:(Ab H6 z (.ins CT dz (L2.putF "made_chart" (.ref y) (g2 x d)))) z=some (.ins CT dz (g3 x d y)):=Ag
 generalize (Ab H6 z (.ins CT dz (L2.putF "made_chart" (.ref y) (g2 x d))))=H7 at kc7 xc7 ⊢
 refine q L H7 (λc u e hc=>kc7 c u (k6 c u (k5 c u e hc) λh=>?_) hc) ⟨dz,x,d,y,xc7,ro6.keepX z6 (kT x d) kc7,?_⟩ na
 ·rw[h]at e
  have hn:H d=none:=by
   cases e':H d with
   | none=>rfl
   | some u'=>exact absurd (s3 _ _ (kc2 _ _ e' dz')) (by rw[nd4];intro z;cases z)
  rw[hn]at e;cases e
 rcases r6 with h | ⟨o,h⟩
 ·exact .inl (kc7 _ _ h dz')
 exact .inr ⟨o,kc7 _ _ h dz'⟩
theorem Nt:∀{M N:List Wl},M.Nodup->(∀W∈M,W∈N)->M.length<=N.length
 | [],_,_,_=>A5 _
 | W::r,N,nd,h=>by have nd':=Bq.mp nd;have hW:=h W Bj;have hle:=Nt (M:=r) (N:=N.erase W) nd'.2 λZ hZ=>(List.mem_erase_of_ne λe=>nd'.1 (by rw[<- e];exact hZ)).mpr (h Z (A6 _ hZ));rw[List.length_erase_of_mem hW]at hle;have:=List.length_pos_of_mem hW;rw[CS];lia
def GA (p:Br):List Str:=if p.2.1=true then ["open", "shut", "locked"]else ["open"]
def UN (n:Nat)(ls:List Str):List Str->List Wl
 | []=>[]
 | x::r=>(GF n r).map λh=>⟨some x,h,ls⟩
def NX (rs:List Ro):List Wl:=(Gs ((plc rs).map GA)).flatMap λls=>(FS ((ths rs).map (·.1))).flatMap λp=>((GF (plc rs).length p).map λh=>(⟨none,h,ls⟩:Wl))++UN (plc rs).length ls p
def gS (r:Cf rs W):W∈NX rs:=by
 obtain⟨hd,hs,ls⟩:=W;obtain⟨fw,sz⟩:=r;have sz1:hs.length=(plc rs).length:=sz.1;have sz2:ls.length=(plc rs).length:=sz.2;unfold NX;rw[EM];refine⟨ls,Ui (by rw[Ak];exact sz2) λi x o hx ho=>?_,?_⟩
 ·rw[AI]at ho;cases hp:(plc rs)[i]? with
  | none=>rw[hp]at ho;cases ho
  | some p=>
   rw[hp]at ho;cases ho;have lo:=fw.lids i p x hp hx;unfold GA;rcases lo with e | ⟨e,e2⟩ | ⟨e,e2⟩
   ·rw[e];split <;> exact Bj
   ·rw[e,As e2];exact A6 _ Bj
   rw[e,As (Jw (Bz hp) e2)];exact A6 _ (A6 _ Bj)
 rw[EM];refine⟨hd.toList++hs.flatten,Uj fw.perm,BK.mpr ?_⟩;cases hd with
 | none=>refine .inl (Bi.mpr ⟨hs,?_,rfl⟩);rw[<- sz1];exact QD hs
 | some x=>refine .inr (Bi.mpr ⟨hs,?_,rfl⟩);rw[<- sz1];exact QD hs
def K6 (n:Nat):Nat->Nat
 | 0=>0
 | t+1=>FW n t
def iL (rs:List Ro):(NX rs).length=(Gs ((plc rs).map GA)).length*(HW (ths rs).length*(FW (plc rs).length (ths rs).length+K6 (plc rs).length (ths rs).length)):=by
 have h2:∀ls:List Str,((FS ((ths rs).map (·.1))).flatMap λp=>((GF (plc rs).length p).map λh=>(⟨none,h,ls⟩:Wl))++UN (plc rs).length ls p).length=HW (ths rs).length*(FW (plc rs).length (ths rs).length+K6 (plc rs).length (ths rs).length):=λls=>by
  rw[Jv _ (λ_=>FW (plc rs).length (ths rs).length+K6 (plc rs).length (ths rs).length) _ λp hp=>?_,Of,J6,Ut,Ak];have hl:=Qz hp;rw[Ak]at hl;rw[AY,Ak,QF,<- hl];cases p with
  | nil=>rfl
  | cons x r=>show _+(List.map _ _).length=_;rw[Ak,QF];rfl
 unfold NX;rw[Jv _ (λ_=>HW (ths rs).length*(FW (plc rs).length (ths rs).length+K6 (plc rs).length (ths rs).length)) _ λls _=>h2 ls,Of,J6]
theorem Up:∀ps:List Br,((ps.map GA).map List.length).prod<=3^ps.length
 | []=>Au _
 | p::r=>by
  have h1:(GA p).length<=3:=by unfold GA;split <;> decide
  rw[A9,A9,Rm,CS,Nat.pow_succ,Nat.mul_comm (3^_)];exact Nat.mul_le_mul h1 (Up r)
def iH (g:Good rs):(Gs ((plc rs).map GA)).length<=3^((plc rs).length-1):=by obtain⟨n,t,e⟩:=g.first;rw[Us,e,A9,A9,Rm];have h1:(GA (n,false,none)).length=1:=rfl;rw[h1,Nat.one_mul];exact Up t
def smallS:List (Nat×Nat):=[(1,3),(2,1),(2,2),(2,3),(3,1),(3,2),(2,0),(3,0)]
def nM (g:Good rs)(h:((plc rs).length,(ths rs).length)∈smallS):∀M:List Wl,M.Nodup->(∀W∈M,Cf rs W)->M.length<=200:=λM nd hM=>by
 have h1:=Nt nd λW hW=>gS (hM W hW);have h2:=iH g;rw[iL]at h1;refine Eb h1 (Eb (Nat.mul_le_mul_right _ h2) ?_);generalize (plc rs).length=n at h;generalize (ths rs).length=t at h;have hall:∀q∈smallS,3^(q.1-1)*(HW q.2*(FW q.1 q.2+K6 q.1 q.2))<=200:=by decide +kernel
 exact hall _ h
inductive OY (vs:List V)(H:Hp)(Q:VK)(E0_:XK):Prop
 | mk (u v:V) (W:Wl) (c0:vs=[u,v]) (c1:RdV H u (dW W)) (c2:RdV H v (dW W)) (c3:Ok W) (c4:∀H':Hp,Same H H'->Q (.bl true) H'):OY  vs H Q E0_
abbrev Qu:List Str:=["_law_told", "_law_world_here"]
abbrev cR:List Str:=BI Qu ["_law_heap_here"]
def scSame:AM cR Qu (Av Mz):=AO
def ZJ (F:Fun K "_law_same" "_law_same" Mz f fd)(T:Bl mg):FnOk P w K mg base CX0 1 f fd ["_law_told", "_law_world_here"] OY:=by
 refine F.oq scSame λcdv A outer s H vs Q E hr h=>?_;obtain⟨u,v,W,rfl,ru,rv,ok,q⟩:=h;have af:=hr.units;have hsh:=Ka ok;obtain⟨c,v0,hb,cl,xs,ys,rfl,ea,r0,eb,rb,ec,rc⟩:=C2 ru;have at1:atI [v0,V.ref hb,V.ref cl] ((1:Nat):Int)=some (.ref hb):=Az rfl;have at2:atI [v0,V.ref hb,V.ref cl] ((2:Nat):Int)=some (.ref cl):=Az rfl;refine⟨_,Aj (AQ (PW.pt (CD (CY (Cs (AV NW (by rfl) T.isi Ln (Aa (pv 0) (Aa (KC (v:=.ty "tuple") (by rfl) T.tuple EF rfl) Ac))))) (CD (AC Gy (AV Bp (by rfl) T.len A8 (Aa (pv 0) Ac)) Ah (AD _)) (DU (AC (Zs af) (pv 0) (pv 1) (AD _)))))) (Ao (AA Eh)) AS) (Aj (BU BS rfl (Zb (Aq AJ (pv 0) Ah (λ_ _=>rfl))) (AZ (i:=2) scSame.nd) (Ao (AQ (CY (Cs (AV NW (by rfl) T.isi Ln (Aa (pv 2) (Aa (KC (v:=.ty "tuple") (by rfl) T.tuple EF rfl) Ac))))) (Ao (AA Eh)) AS))) (Ao (AA (IQ (AV NW (by rfl) T.isi Ln (Aa (Aq AJ (pv 0) Ah (λ_ _=>rfl)) (Aa (KC (v:=.ty "tuple") (by rfl) T.tuple EF rfl) Ac))) (IP (AV NW (by rfl) T.isi Ln (Aa (Aq AJ (pv 0) Ah (λ_ _=>rfl)) (Aa (KC (v:=.ty "tuple") (by rfl) T.tuple EF rfl) Ac)))))))),?_⟩;refine⟨_,rfl,c,_,rfl,ea,_,rfl,?_⟩;refine AN ?_;refine⟨_,rfl,_,_,rfl,.inr ⟨_,SqT.of ea,rfl⟩,rfl,_,rfl,?_⟩;refine jE rfl ?_;refine⟨_,rfl,_,rfl,dW W,dW W,ru,rv,hsh,hsh,_,rfl,?_⟩;rw[eqv_refl _ (GM hsh)];refine AN ?_;refine⟨_,rfl,c,_,_,_,rfl,rfl,SqT.of ea,at1,hb,rfl,⟨_,SqT.of eb⟩,?_⟩;refine kW (K:=K) (a:=hb) (xs:=xs) (λj σ H5=>∃v3:Option V,σ = [some (.ref c),some v,v3]/\H5=H) ⟨none,rfl,rfl⟩ (λj σ H5 _ hh0=>by obtain⟨_,_,e⟩:=hh0;rw[e];exact SqT.of eb) ?_ ?_
 ·rintro j y σ H5 hy ⟨v3,rfl,rfl⟩;obtain⟨d,hd,rd⟩:=rb.get hy;rw[AI]at hd;cases hj:W.heaps[j]? with
  | none=>rw[hj]at hd;cases hd
  | some hp=>
   rw[hj]at hd;have hd':dH hp=d:=Bs hd;subst hd';unfold dH at rd;cases rd with
   | tup eh rh=>refine⟨_,rfl,_,_,rfl,eh,_,rfl,?_⟩;refine AN ?_;exact⟨_,rfl,rfl⟩
 rintro σ H5 ⟨v3,rfl,rfl⟩;refine⟨_,rfl,c,_,_,_,rfl,rfl,SqT.of ea,at1,hb,_,rfl,eb,_,rfl,?_⟩;refine Bb ?_;exact⟨_,rfl,c,_,_,_,rfl,rfl,SqT.of ea,at2,cl,_,rfl,ec,q _ (Same.refl _)⟩
inductive J9 (vs:List V)(H:Hp)(Q:VK)(E0_:XK):Prop
 | mk (v:V) (W:Wl) (i:Nat) (a:V) (hq:List Str) (c0:vs=[v,.int (i:Int),a]) (c1:RdV H v (dW W)) (c2:RdV H a (dH hq)) (c3:i<W.heaps.length) (c4:W.heaps.length<=100) (c5:∀(v':V) (H':Hp),Same H H'->RdV H' v' (dW ⟨W.hand,W.heaps.set i hq,W.lids⟩)->Q v' H'):J9  vs H Q E0_
abbrev Hx:List Str:=["_law_world_here", "_law_at", "_law_heap_here"]
abbrev eR:List Str:=BI Hx ["_law_heaps"]
def scLHeap:AM eR Hx (Av IH):=AO
inductive Pq (vs:List V)(H:Hp)(Q:VK)(E0_:XK):Prop
 | mk (v:V) (W:Wl) (i:Nat) (t:Str) (c0:vs=[v,.int (i:Int)]) (c1:RdV H v (dW W)) (c2:i<W.heaps.length) (c3:W.heaps.length<=100) (c4:(W.heaps.getD i []).length<=100) (c5:W.hand=some t) (c6:∀(v':V) (H':Hp),Same H H'->RdV H' v' (dW (E3 t W i))->Q v' H'):Pq  vs H Q E0_
abbrev KU:List Str:=["_law_world_here", "_law_at"]
abbrev eQ:List Str:=BI KU ["_law_found"]
def scLLaid:AM eQ KU (Av MU):=AO
def Me (W:Wl)(i:Nat)(hp:List Str)(j:Nat)(hq:List Str)(lq:Str):List Wl:=if lq = "open" then [⟨none,(W.heaps.set i []).set j (hq++hp.reverse),W.lids⟩]else []
inductive Pi (vs:List V)(H:Hp)(Q:VK)(E0_:XK):Prop
 | mk (rs:List Ro) (v:V) (W:Wl) (i:Nat) (p:Br) (hp:List Str) (l:Str) (j:Nat) (pj:Br) (hq:List Str) (lq:Str) (c0:vs=[v,.int (i:Int),.int (j:Int)]) (c1:RdV H v (dW W)) (c2:Pt rs W i p hp l) (c3:Pt rs W j pj hq lq) (c4:i≠j) (c5:W.hand=none) (c6:∀(lw:Addr) (us:List V) (H':Hp),Same H H'->H' lw=some (.lst us)->RdVs H' us ((Me W i hp j hq lq).map dW)->Q (.ref lw) H'):Pi  vs H Q E0_
abbrev KS:List Str:=["_law_world_here", "_law_at", "_law_to"]
abbrev dZ:List Str:=BI KS ["_law_heap_here", "_law_turned"]
def scLTip:AM dZ KS (Av Kk):=AO
inductive Pm (vs:List V)(H:Hp)(Q:VK)(E0_:XK):Prop
 | mk (rs:List Ro) (v:V) (W:Wl) (w:Str) (i:Nat) (p:Br) (hp:List Str) (l:Str) (j:Nat) (pj:Br) (hq:List Str) (lq:Str) (c0:vs=[.str w,.int (i:Int),.int (j:Int),v]) (c1:RdV H v (dW W)) (c2:Pt rs W i p hp l) (c3:Pt rs W j pj hq lq) (c4:(w = "tip" -> i≠j)) (c5:w∈Gz) (c6:(∀h∈W.heaps,h.length<=100)) (c7:∀(lw:Addr) (us:List V) (H':Hp),Same H H'->H' lw=some (.lst us)->RdVs H' us ((Cb w W i hp l j hq lq).map dW)->Q (.ref lw) H'):Pm  vs H Q E0_
abbrev Jc:List Str:=["_law_word", "_law_at", "_law_to", "_law_world_here"]
abbrev eF:List Str:=BI Jc ["_law_heap_here", "_law_found"]
def scLMoves:AM eF Jc (Av MP):=AO
def NY {W:Wl}{w:Str}{i j:Nat}{hp hq:List Str}{l lq:Str}(h:w = "tip"):Cb w W i hp l j hq lq=DO W i hp l j hq lq:=by unfold Cb;rw[As h]
def NZ {W:Wl}{w:Str}{i j:Nat}{hp hq:List Str}{l lq:Str}(h:w = "take"):Cb w W i hp l j hq lq=Dv W i hp l:=by subst h;unfold Cb FX;rw[Am (by decide +kernel),As rfl]
def Rh {W:Wl}{w:Str}{i j:Nat}{hp hq:List Str}{l lq:Str}(h:w = "put"):Cb w W i hp l j hq lq=putF W i hp l:=by subst h;unfold Cb FX;rw[Am (by decide +kernel),Am (by decide +kernel),As rfl]
def Rg {W:Wl}{w:Str}{i j:Nat}{hp hq:List Str}{l lq:Str}(h:w = "toss"):Cb w W i hp l j hq lq=DM W i hp l:=by subst h;unfold Cb FX;rw[Am (by decide +kernel),Am (by decide +kernel),Am (by decide +kernel),As rfl]
def N0 {W:Wl}{w:Str}{i j:Nat}{hp hq:List Str}{l lq:Str}(h:w = "shake"):Cb w W i hp l j hq lq=Dw W i hp l:=by subst h;unfold Cb FX;rw[Am (by decide +kernel),Am (by decide +kernel),Am (by decide +kernel),Am (by decide +kernel)]
def YV {t l:Str}(hh:W.hand=some t)(hl:l = "open"):putF W i hp l=[E3 t W i]:=by unfold putF;rw[hh];dsimp only;rw[As hl]
def TC {l:Str}(h:W.hand=none\/l ≠ "open"):putF W i hp l=[]:=by
 unfold putF;split
 ·rename_i t ht;rcases h with h | h
  ·rw[h]at ht;cases ht
  rw[Am h]
 rfl
def WB {t l:Str}(hh:W.hand=some t)(hl:l = "open"):DM W i hp l=(CC i).map (E3 t W):=by unfold DM;rw[hh];dsimp only;rw[As hl]
def SA {l:Str}(h:W.hand=none\/l ≠ "open"):DM W i hp l=[]:=by
 unfold DM;split
 ·rename_i t ht;rcases h with h | h
  ·rw[h]at ht;cases ht
  rw[Am h]
 rfl
def QM {H:Hp}{W:Wl}{xs:List V}{i:Nat}{hp:List Str}(rb:RdVs H xs (W.heaps.map dH))(he:W.heaps[i]? = some hp):∃t,xs[i]? = some (V.ref t)/\H t=some (.tup (hp.map V.str)):=by
 have hl:=rb.length;rw[Ak]at hl;have hi:=(AG.mp he).1;have hxi:xs[i]? = some (xs[i]'(by lia)):=AH (by lia);obtain⟨d,hd,rd⟩:=rb.get hxi;rw[AI,he]at hd;have hd':dH hp=d:=Bs hd;subst hd';generalize xs[i]'(by lia)=y at hxi rd;unfold dH at rd;cases rd with
 | tup eh rh=>have hys:=Fi rh;subst hys;exact⟨_,hxi,eh⟩
def aT (F:Fun K "_law_heap" "_law_heap" IH f fd):FnOk P w K mg base CX0 1 f fd Hx J9:=by
 refine F.oq scLHeap λcdv A outer s H vs Q E hr h=>?_;obtain⟨v,W,i,a,hq,rfl,rv,ra,hi,hx,q⟩:=h;have ae:sizeLine=16777216:=AK;obtain⟨c,v0,hb,cl,xs,ys,rfl,ea,r0,eb,rb,ec,rc⟩:=C2 rv;have hxl:=rb.length;rw[Ak]at hxl;have Bx:atI [v0,V.ref hb,V.ref cl] ((0:Nat):Int)=some v0:=Az rfl;have at1:atI [v0,V.ref hb,V.ref cl] ((1:Nat):Int)=some (.ref hb):=Az rfl;have at2:atI [v0,V.ref hb,V.ref cl] ((2:Nat):Int)=some (.ref cl):=Az rfl;have c1:Bh xs none (some ((i:Nat):Int))=xs.take i:=by unfold Bh;rw[HT.sIx_none,HT.sIx_nat,FA,Gc];congr 1;lia
 have c2:Bh xs (some (((i+1:Nat)):Int)) none=xs.drop (i+1):=NQ (by lia);refine⟨_,(Aj (AB (i:=3) scLHeap.nd (Aq AJ (pv 0) Ah (λ_ _=>rfl))) (Ao (AA (BQ (Aa (Aq AJ (pv 0) Ah (λ_ _=>rfl)) (Aa (Ax EA (Ax EA (Dk Ff (pv 3) Di (Dh (pv 1))) (BQ (Aa (pv 2) Ac))) (Dk Ff (pv 3) (Dh (Ax Bm (pv 1) Ah)) Di)) (Aa (Aq AJ (pv 0) Ah (λ_ _=>rfl)) Ac))))))),?_⟩;refine⟨_,rfl,c,_,_,_,rfl,rfl,SqT.of ea,at1,?_⟩;refine⟨_,rfl,c,_,_,_,rfl,rfl,SqT.of ea,Bx,_,rfl,_,rfl,_,rfl,hb,_,rfl,SqT.of eb,?_,λp1 hp1=>?_⟩
 ·rw[HT.sIx_none,HT.sIx_nat];lia
 rw[c1];obtain⟨H2,g0,s2,e2⟩:=BD (H:=H) (o:=.tup (xs.take i)) hp1;rw[g0];refine⟨_,rfl,Bf,λp2 hp2=>?_⟩;obtain⟨H3,g0,s3,e3⟩:=BD (H:=H2) (o:=.tup [a]) hp2;rw[g0];refine EE (s3 _ _ e2) e3 (by rw[Bu];show _+1<=_;lia) λp3 H4 s4 e4=>?_;have s14:=s2.trans (s3.trans s4);refine⟨_,rfl,_,rfl,_,_,rfl,rfl,_,rfl,hb,_,rfl,SqT.of (s14 _ _ eb),?_,λp4 hp4=>?_⟩
 ·rw[show((i:Int)+1)=((i+1:Nat):Int) from rfl,HT.sIx_nat];lia
 rw[show((i:Int)+1)=((i+1:Nat):Int) from rfl,c2];have s5:Same H4 (Ab H4 p4 (.tup (xs.drop (i+1)))):=Same.new hp4;refine EE (s5 _ _ e4) Ag (by rw[AY,Bu,DC];show _+1+_<=_;lia) λt H6 s6 e6=>?_;have s16:=s14.trans (s5.trans s6);refine⟨_,rfl,c,_,_,_,rfl,rfl,SqT.of (s16 _ _ ea),at2,Bf,λtw htw=>?_⟩;have s7:Same H6 (Ab H6 tw (.tup [v0,.ref t,.ref cl])):=Same.new htw;have sA:=s16.trans s7;refine q (.ref tw) _ sA (Du Ag (sA.rd r0) (s7 _ _ e6) ?_ (sA _ _ ec) (sA.rds rc));have e:xs.take i++[a]++xs.drop (i+1)=xs.set i a:=by rw[RZ,As (by lia),De];rfl
 rw[e];show RdVs _ (xs.set i a) ((W.heaps.set i hq).map dH);rw[G0];exact FL i (sA.rds rb) (sA.rd ra)
def aK (F:Fun K "_law_laid" "_law_laid" MU f fd)(C_l_heap:Ca P w K mg base CX0 1 "_law_heap" IH Hx J9):FnOk P w K mg base CX0 2 f fd KU Pq:=by
 refine F.oq scLLaid λcdv A outer s H vs Q E hr1 h=>?_;obtain⟨v,W,i,t,rfl,rv,hi,hx,hl,hh,q⟩:=h;have ae:sizeLine=16777216:=AK;have rv':=rv;obtain⟨c,v0,hb,cl,xs,ys,rfl,ea,r0,eb,rb,ec,rc⟩:=C2 rv;have hv0:=Jx r0;subst hv0;have hxl:=rb.length;rw[Ak]at hxl;have at0':atI [oV W.hand,V.ref hb,V.ref cl] ((0:Nat):Int)=some (.str t):=by rw[hh];exact Az rfl
 have at1:atI [oV W.hand,V.ref hb,V.ref cl] ((1:Nat):Int)=some (.ref hb):=Az rfl;have hit:W.heaps[i]? = some (W.heaps.getD i []):=by (rw[Cz,AH hi]);rfl
 obtain⟨y,hy,ry⟩:∃y,xs[i]? = some y/\RdV H y (dH (W.heaps.getD i [])):=by have hxi:xs[i]? = some (xs[i]'(by lia)):=AH (by lia);obtain⟨d,hd,rd⟩:=rb.get hxi;rw[AI,hit]at hd;have hd':dH (W.heaps.getD i [])=d:=Bs hd;subst hd';exact⟨_,hxi,rd⟩
 unfold dH at ry;cases ry with
 | tup eh rh=>
  have hys:=Fi rh;subst hys;refine⟨_,(Aj (AB (i:=2) scLLaid.nd (A0 C_l_heap hr1 Ar (Aa (pv 0) (Aa (pv 1) (Aa (Ax EA (Aq AJ (Aq AJ (pv 0) Ah (λ_ _=>rfl)) (pv 1) (λ_ _=>rfl)) (BQ (Aa (Aq AJ (pv 0) Ah (λ_ _=>rfl)) Ac))) Ac)))))
  (Ao (AA (BQ (Aa CG (Aa (Aq AJ (pv 2) Ah (λ_ _=>rfl)) (Aa (Aq AJ (pv 2) Ah (λ_ _=>rfl)) Ac))))))),?_⟩
  refine⟨_,rfl,_,rfl,_,rfl,c,_,_,_,rfl,rfl,SqT.of ea,at1,_,rfl,hb,_,_,_,rfl,rfl,SqT.of eb,Az hy,?_⟩;refine⟨_,rfl,c,_,_,_,rfl,rfl,SqT.of ea,at0',Bf,λp2 hp2=>?_⟩;obtain⟨H2,g0,s2,e2⟩:=BD (H:=H) (o:=.tup [V.str t]) hp2;rw[g0];refine EE (s2 _ _ eh) e2 (by rw[Ak];show _+1<=_;lia) λp3 H3 s3 e3=>?_;have s13:=s2.trans s3;refine⟨_,W,i,.ref p3,W.heaps.getD i []++[t],rfl,s13.rd rv',.tup e3 ?_,hi,hx,λv' H4 s4 r4=>?_⟩
  ·rw[show(W.heaps.getD i []).map V.str++[V.str t]=(W.heaps.getD i []++[t]).map V.str by simp];exact RdVs.strs _
  obtain⟨c',u0,hb',cl',xs',ys',rfl,ea',r0',eb',rb',ec',rc'⟩:=C2 r4;have b1:atI [u0,V.ref hb',V.ref cl'] ((1:Nat):Int)=some (.ref hb'):=Az rfl;have b2:atI [u0,V.ref hb',V.ref cl'] ((2:Nat):Int)=some (.ref cl'):=Az rfl;refine⟨_,rfl,c',_,_,_,rfl,rfl,SqT.of ea',b1,_,rfl,c',_,_,_,rfl,rfl,SqT.of ea',b2,Bf,λtw htw=>?_⟩;have s5:Same H4 (Ab H4 tw (.tup [V.non,.ref hb',.ref cl'])):=Same.new htw;exact q (.ref tw) _ ((s13.trans s4).trans s5) (Du Ag .non (s5 _ _ eb') (s5.rds rb') (s5 _ _ ec') (s5.rds rc'))
def Z6 (F:Fun K "_law_tip" "_law_tip" Kk f fd)(T:Bl mg)(C_l_heap:Ca P w K mg base CX0 1 "_law_heap" IH Hx J9):FnOk P w K mg base CX0 2 f fd KS Pi:=by
 refine F.oq scLTip λcdv A outer s H vs Q E hr1 h=>?_;obtain⟨rs,v,W,i,p,hp,l,j,pj,hq,lq,rfl,rv,pt,pq,hij,hh,q⟩:=h;have ae:sizeLine=16777216:=AK;have hlen:=pt.len;have hlenq:=pq.len;have hif:=pt.few;have rv':=rv;obtain⟨c,v0,hb,cl,xs,ys,rfl,ea,r0,eb,rb,ec,rc⟩:=C2 rv;have hys:=Fi rc;subst hys;have w1:atI [v0,V.ref hb,V.ref cl] ((1:Nat):Int)=some (.ref hb):=Az rfl;have w2:atI [v0,V.ref hb,V.ref cl] ((2:Nat):Int)=some (.ref cl):=Az rfl;obtain⟨ti,hyi,eti⟩:=QM rb pt.he;obtain⟨tj,hyj,etj⟩:=QM rb pq.he;have hih:=(AG.mp pt.he).1;have hjh:=(AG.mp pq.he).1;have elj:(W.lids.map V.str)[j]? = some (.str lq):=by rw[AI,pq.li];rfl
 have hlm:(hp.map V.str).length=hp.length:=Ak ..;unfold Me at q;refine⟨_,(Aj (AQ (PW.pt (CD (AC Gy (Aq AJ (Aq AJ (pv 0) Ah (λ_ _=>rfl)) (pv 2) (λ_ _=>rfl)) AE (AD _)) (DU (AC Bo (pv 1) (pv 2) (AD _))))) (Ao (AA (Bk Ac))) AS) (Aj (FO (i:=3) scLTip.nd rfl (ET rfl) (Aq AJ (Aq AJ (pv 0) Ah (λ_ _=>rfl)) (pv 1) (λ_ _=>rfl))) (Aj (AB (i:=4) scLTip.nd (BW JB (by rfl) T.tuple EF (Aa (CZ (N:=["_law_k", "_law_heap_here"]) (sc:=Av Kk) (own:=["_law_k"]) (fr:=["_law_heap_here"]) (js:=[3]) BX rfl (Ex (by rfl) T.range (Aa (AV Bp (by rfl) T.len A8 (Aa (pv 3) Ac)) Ac)) (λ_ _ _ _=>AZ (i:=0) (show List.Nodup (["_law_k", "_law_heap_here"]:List Str) by decide +kernel)) (λ_ _ _ _=>B5) (λ_ _ _ _=>(Aq (EC K rfl) (pv 1) (Ax QA (Ax QA (AV (nJ K rfl) (by rfl) T.len A8 (Aa (pv 1) Ac)) Ah) (pv 0)) (λ_ _=>rfl)))) Ac))) (Ao (AA (Bk (Aa (A0 C_l_heap hr1 Ar (Aa (A0 C_l_heap hr1 Ar (Aa (pv 0) (Aa (pv 2) (Aa (Ax EA (Aq AJ (Aq AJ (pv 0) Ah (λ_ _=>rfl)) (pv 2) (λ_ _=>rfl)) (pv 4)) Ac)))) (Aa (pv 1) (Aa (BQ Ac) Ac)))) Ac))))))),?_⟩;refine⟨_,rfl,c,_,_,_,rfl,rfl,SqT.of ea,w2,_,rfl,cl,_,_,_,rfl,rfl,SqT.of ec,Az elj,rfl,_,rfl,?_⟩;by_cases hl:lq = "open"
 ·rw[As hl]at q;refine NK hl ?_;refine⟨_,rfl,_,rfl,rfl,_,rfl,?_⟩;refine Bd (λz=>?_) (λ_=>?_)
  ·exfalso;have:=V.int.inj (A4 z);lia
  refine⟨_,rfl,c,_,_,_,rfl,rfl,SqT.of ea,w1,_,rfl,hb,_,_,_,rfl,rfl,SqT.of eb,Az hyi,?_⟩;refine⟨_,rfl,_,_,rfl,.inr ⟨_,SqT.of eti,rfl⟩,_,rfl,by lia,by lia,λD hD=>?_⟩;refine B8 (n:=hp.length) (λk ys H4=>Same H H4/\H4 D=some (.lst ys)/\ys=(hp.reverse.take k).map V.str) ⟨Same.new hD,Ag,rfl⟩ (λk ys H4 hk _=>by show k<(((hp.map V.str).length:Nat):Int).toNat;lia) (λys H4 _=>by show(((hp.map V.str).length:Nat):Int).toNat<=hp.length;lia) ?_ ?_
  ·rintro k ys H4 y H5 hk ⟨s4,e4,y0⟩ ⟨rfl,rfl⟩;subst y0;refine Ce ?_;have hkr:k<hp.reverse.length:=by rw[Ip];exact hk
   have ax:atI (hp.map V.str) (((hp.map V.str).length:Int)-1-(0+(k:Int)))=some (.str hp.reverse[k]):=by rw[show((hp.map V.str).length:Int)-1-(0+(k:Int))=((hp.length-1-k:Nat):Int) by lia];refine Az ?_;rw[AI,AH (by lia),List.getElem_reverse];rfl
   refine⟨_,rfl,_,rfl,_,_,rfl,.inr ⟨_,SqT.of (s4 _ _ eti),rfl⟩,_,_,rfl,rfl,_,rfl,_,_,rfl,rfl,ti,_,_,_,rfl,rfl,SqT.of (s4 _ _ eti),ax,?_⟩;refine⟨_,e4,by rw[Ak,Bu];lia,s4.put hD,Ag,?_⟩;rw[BF hkr,Ba];rfl
  rintro ys H4 ⟨s4,e4,y0⟩;rw[FB (by rw[Ip];exact Au _)]at y0;subst y0;refine⟨D,_,rfl,.inl ⟨SqL.of e4,λp2 hp2=>?_⟩⟩;obtain⟨H5,g0,s5,e5⟩:=BD (H:=H4) (o:=.tup (hp.reverse.map V.str)) hp2;rw[g0];have s15:=s4.trans s5;refine⟨_,rfl,_,rfl,_,rfl,c,_,_,_,rfl,rfl,SqT.of (s15 _ _ ea),w1,_,rfl,hb,_,_,_,rfl,rfl,SqT.of (s15 _ _ eb),Az hyj,_,rfl,?_⟩;refine EE (s15 _ _ etj) e5 (by rw[Ak,Ak,Ip];lia) λp3 H6 s6 e6=>?_;have s16:=s15.trans s6;refine⟨_,W,j,.ref p3,hq++hp.reverse,rfl,s16.rd rv',.tup e6 ?_,hjh,hif,λv' H7 s7 r7=>?_⟩
  ·rw[<- Ba];exact RdVs.strs _
  have s17:=s16.trans s7;refine⟨_,rfl,A5 _,λp4 hp4=>?_⟩;have s8:Same H7 (Ab H7 p4 (.tup [])):=Same.new hp4;refine⟨v',⟨W.hand,W.heaps.set j (hq++hp.reverse),W.lids⟩,i,.ref p4,[],rfl,s8.rd r7,.tup Ag .nil,by show i<(W.heaps.set j _).length;rw[E8];exact hih,by show(W.heaps.set j _).length<=100;rw[E8];exact hif,λv2 H9 s9 r9=>⟨Bf,λlw hlw=>?_⟩⟩;refine q lw [v2] _ (((s17.trans s8).trans s9).trans (Same.new hlw)) Ag (.cons ((Same.new hlw).rd ?_) .nil);rw[<- hh,List.set_comm _ _ hij];exact r9
 rw[Am hl]at q;refine NL hl (Bb ?_);exact⟨A5 _,λl' hl'=>q l' [] _ (Same.new hl') Ag .nil⟩
def aB (F:Fun K "_law_moves" "_law_moves" MP f fd)(T:Bl mg)(C_l_heap:Ca P w K mg base CX0 1 "_law_heap" IH Hx J9)(C_l_laid:Ca P w K mg base CX0 2 "_law_laid" MU KU Pq)(C_l_tip:Ca P w K mg base CX0 2 "_law_tip" Kk KS Pi):FnOk P w K mg base CX0 3 f fd Jc Pm:=by
 refine F.oq scLMoves λcdv A outer s H vs Q E hr2 h=>?_;obtain⟨rs,v,W,w,i,p,hp,l,j,pj,hq,lq,rfl,rv,pt,pq,hij,hw,fh,q⟩:=h;have hr1:Room 1 _:=hr2.mono (by decide);have ae:sizeLine=16777216:=AK;have hlen:=pt.len;have hif:=pt.few;have rv':=rv;obtain⟨c,v0,hb,cl,xs,ys,rfl,ea,r0,eb,rb,ec,rc⟩:=C2 rv;have hv0:=Jx r0;subst hv0;have hys:=Fi rc;subst hys;have w0:atI [oV W.hand,V.ref hb,V.ref cl] ((0:Nat):Int)=some (oV W.hand):=Az rfl;have w1:atI [oV W.hand,V.ref hb,V.ref cl] ((1:Nat):Int)=some (.ref hb):=Az rfl;have w2:atI [oV W.hand,V.ref hb,V.ref cl] ((2:Nat):Int)=some (.ref cl):=Az rfl;obtain⟨ti,hyi,eti⟩:=QM rb pt.he;have hih:=(AG.mp pt.he).1;have eli:(W.lids.map V.str)[i]? = some (.str l):=by rw[AI,pt.li];rfl
 have hlm:(hp.map V.str).length=hp.length:=Ak ..;have none':Cb w W i hp l j hq lq=[]->∀l':Addr,H l'=none->Q (.ref l') (Ab H l' (.lst [])):=λe l' hl'=>q l' [] _ (Same.new hl') Ag (by rw[e];exact .nil);refine⟨_,(Aj (AB (i:=4) scLMoves.nd (Aq AJ (Aq AJ (pv 3) Ah (λ_ _=>rfl)) (pv 1) (λ_ _=>rfl))) (Aj (AQ (PW.pt (Cg (AC Bo (pv 0) AE (AD _)) (Cg (AC HL (Aq AJ (pv 3) Ah (λ_ _=>rfl)) CG (AD _)) (Cg (AC Gy (Aq AJ (Aq AJ (pv 3) Ah (λ_ _=>rfl)) (pv 1) (λ_ _=>rfl)) AE (AD _)) (Ef (AC Ez (AV Bp (by rfl) T.len A8 (Aa (pv 4) Ac)) Ah (AD _))))))) (Ao (AA (Bk (Aa (pv 3) (Aa (A0 C_l_heap hr1 Ar (Aa (pv 3) (Aa (pv 1) (Aa (Ax EA (Dk Ff (pv 4) Di (Dh (EX EU Ah))) (BQ (Aa (Aq AJ (pv 4) (EX EU Ah) (λ_ _=>rfl)) (Aa (Aq AJ (pv 4) (EX EU Ah) (λ_ _=>rfl)) Ac)))) Ac)))) Ac))))) AS) (Aj (AQ (AC Gy (Aq AJ (Aq AJ (pv 3) Ah (λ_ _=>rfl)) (pv 1) (λ_ _=>rfl)) AE (AD _)) (Ao (AA (Bk Ac))) AS) (Aj (AQ (PW.pt (Cg (AC Bo (pv 0) AE (AD _)) (Cg (AC HL (Aq AJ (pv 3) Ah (λ_ _=>rfl)) CG (AD _)) (Ef (AC Ez (AV Bp (by rfl) T.len A8 (Aa (pv 4) Ac)) Ah (AD _)))))) (Aj (AB (i:=5) scLMoves.nd (A0 C_l_heap hr1 Ar (Aa (pv 3) (Aa (pv 1) (Aa (Dk Ff (pv 4) Di (Dh (EX EU Ah))) Ac))))) (Ao (AA (Bk (Aa (BQ (Aa (Aq AJ (pv 4) (EX EU Ah) (λ_ _=>rfl)) (Aa (Aq AJ (pv 5) Ah (λ_ _=>rfl)) (Aa (Aq AJ (pv 5) Ah (λ_ _=>rfl)) Ac)))) Ac))))) AS) (Aj (AQ (PW.pt (Cg (AC Bo (pv 0) AE (AD _)) (Cg (AC HL (Aq AJ (pv 3) Ah (λ_ _=>rfl)) CG (AD _)) (Ef (AC Ez (AV Bp (by rfl) T.len A8 (Aa (pv 4) Ac)) Ah (AD _)))))) (Ao (AA (A0 C_l_tip hr2 Ar (Aa (pv 3) (Aa (pv 1) (Aa (pv 2) Ac)))))) AS) (Aj (AQ (PW.pt (Cg (AC Bo (pv 0) AE (AD _)) (Ef (AC Jn (Aq AJ (pv 3) Ah (λ_ _=>rfl)) CG (AD _))))) (Ao (AA (Bk (Aa (A0 C_l_laid hr2 Ar (Aa (pv 3) (Aa (pv 1) Ac))) Ac)))) AS) (Aj (AQ (PW.pt (Cg (AC Bo (pv 0) AE (AD _)) (Ef (AC Jn (Aq AJ (pv 3) Ah (λ_ _=>rfl)) CG (AD _))))) (Aj (AQ (AC Bo (pv 1) Ah (AD _)) (Ao (AA (Bk (Aa (A0 C_l_laid hr2 Ar (Aa (pv 3) (Aa Ah Ac))) Ac)))) AS) (Ao (AA (Bk (Aa (A0 C_l_laid hr2 Ar (Aa (pv 3) (Aa (pv 1) Ac))) (Aa (A0 C_l_laid hr2 Ar (Aa (pv 3) (Aa Ah Ac))) Ac)))))) AS) (Ao (AA (Bk Ac)))))))))),?_⟩;refine⟨_,rfl,c,_,_,_,rfl,rfl,SqT.of ea,w1,_,rfl,hb,_,_,_,rfl,rfl,SqT.of eb,Az hyi,?_⟩;dsimp only;refine Ee (λσ' H'=>σ'=[some (.str w),some (.int (i:Int)),some (.int (j:Int)),some (.ref c),some (.ref ti),none]/\H=H'/\(w = "shake" -> l ≠ "open" -> Cb w W i hp l j hq lq=[])) ?_ (λN hN=>?_);rotate_left
 ·refine⟨_,rfl,rfl,_,rfl,?_⟩;by_cases hs:w = "shake"
  ·refine CJ hs ?_;refine⟨_,rfl,c,_,_,_,rfl,rfl,SqT.of ea,w0,rfl,_,rfl,?_⟩;cases hh:W.hand with
   | some t=>exact AN (AN (hN _ _ ⟨rfl,rfl,λ_ _=>by rw[N0 hs];unfold Dw;rw[Am (λz=>by rw[hh]at z;cases z.1)]⟩))
   | none=>
    refine Bb ?_;refine⟨_,rfl,c,_,_,_,rfl,rfl,SqT.of ea,w2,_,rfl,cl,_,_,_,rfl,rfl,SqT.of ec,Az eli,rfl,_,rfl,?_⟩;by_cases hl:l = "open"
    ·exact NK hl (AN (hN _ _ ⟨rfl,rfl,λ_ z=>absurd hl z⟩))
    refine NL hl ?_;refine⟨_,rfl,_,_,rfl,.inr ⟨_,SqT.of eti,rfl⟩,_,_,rfl,rfl,_,rfl,?_⟩;refine Bd (λz=>?_) (λz=>?_)
    ·have h2:2<=hp.length:=by have:=A4 z;lia
     obtain⟨r,b,a,hr⟩:=Sr h2;subst hr;have em:(r++[b,a]).map V.str=r.map V.str++[V.str b,V.str a]:=by simp
     have em':(r++[b,a]).map V.str=(r.map V.str++[V.str b])++[V.str a]:=by simp
     have cut:Bh ((r++[b,a]).map V.str) none (some (-2))=r.map V.str:=by
      unfold Bh;rw[HT.sIx_none,FA,Gc,MW,em];have e:(r.map V.str++[V.str b,V.str a]).length-2=(r.map V.str).length:=by simp
      rw[e,N9]
     have hrl:(r++[b,a]).length=r.length+2:=by simp
     refine⟨_,rfl,_,rfl,_,rfl,_,rfl,_,rfl,_,rfl,ti,_,rfl,SqT.of eti,?_,λp1 hp1=>?_⟩
     ·rw[HT.sIx_none,MW];lia
     rw[cut];obtain⟨H3,g0,s3,e3⟩:=BD (H:=H) (o:=.tup (r.map V.str)) hp1;rw[g0];have et3:=s3 _ _ eti;have am1:atI ((r++[b,a]).map V.str) (-1)=some (.str a):=by rw[em'];exact Re _ _
     have am2:atI ((r++[b,a]).map V.str) (-2)=some (.str b):=by rw[em];exact VQ _ _ _
     refine⟨_,rfl,_,rfl,ti,_,_,_,rfl,rfl,SqT.of et3,am1,_,rfl,_,rfl,ti,_,_,_,rfl,rfl,SqT.of et3,am2,Bf,λp2 hp2=>?_⟩;obtain⟨H4,g0,s4,e4⟩:=BD (H:=H3) (o:=.tup [V.str a,V.str b]) hp2;rw[g0];refine EE (s4 _ _ e3) e4 (by rw[Ak];show _+2<=_;lia) λp3 H5 s5 e5=>?_;have s15:=s3.trans (s4.trans s5);refine⟨_,W,i,.ref p3,r++[a,b],rfl,s15.rd rv',.tup e5 ?_,hih,hif,λv' H6 s6 r6=>⟨Bf,λlw hlw=>?_⟩⟩
     ·rw[show r.map V.str++[V.str a,V.str b]=(r++[a,b]).map V.str by simp];exact RdVs.strs _
     have s16:=s15.trans s6;refine q lw [.ref c,v'] _ (s16.trans (Same.new hlw)) Ag ?_;rw[N0 hs];unfold Dw;rw[As ⟨hh,hl,h2⟩,SQ];rw[hh]at r6;exact .cons ((s16.trans (Same.new hlw)).rd rv') (.cons ((Same.new hlw).rd r6) .nil)
    refine hN _ _ ⟨rfl,rfl,λ_ _=>?_⟩;rw[N0 hs];unfold Dw;rw[Am (λy=>z (AR (by lia)))]
  exact CK hs (AN (hN _ _ ⟨rfl,rfl,λz=>absurd z hs⟩))
 rintro _ _ ⟨rfl,rfl,n1⟩;refine Ee (λσ' H'=>σ'=[some (.str w),some (.int (i:Int)),some (.int (j:Int)),some (.ref c),some (.ref ti),none]/\H=H'/\l = "open") ?_ (λN hN=>?_);rotate_left
 ·refine⟨_,rfl,c,_,_,_,rfl,rfl,SqT.of ea,w2,_,rfl,cl,_,_,_,rfl,rfl,SqT.of ec,Az eli,rfl,_,rfl,?_⟩;by_cases hl:l = "open"
  ·exact NK hl (hN _ _ ⟨rfl,rfl,hl⟩)
  refine NL hl ?_;refine⟨A5 _,none' ?_⟩;rcases Jq hw with e | e | e | e | e
  ·rw[NZ e];unfold Dv;rw[Am (λz=>hl z.2.1)]
  ·rw[Rh e,TC (.inr hl)]
  ·rw[Rg e,SA (.inr hl)]
  ·rw[NY e];unfold DO;rw[Am (λz=>hl z.2.1)]
  exact n1 e hl
 rintro _ _ ⟨rfl,rfl,hl⟩;refine Ee (λσ' H'=>σ'=[some (.str w),some (.int (i:Int)),some (.int (j:Int)),some (.ref c),some (.ref ti),none]/\H=H'/\(w = "take" -> Cb w W i hp l j hq lq=[])) ?_ (λN hN=>?_);rotate_left
 ·refine⟨_,rfl,rfl,_,rfl,?_⟩;by_cases hs:w = "take"
  ·refine CJ hs ?_;refine⟨_,rfl,c,_,_,_,rfl,rfl,SqT.of ea,w0,rfl,_,rfl,?_⟩;cases hh:W.hand with
   | some t=>exact AN (AN (hN _ _ ⟨rfl,rfl,λ_=>by rw[NZ hs];unfold Dv;rw[Am (λz=>by rw[hh]at z;cases z.1)]⟩))
   | none=>
    refine Bb ?_;refine⟨_,rfl,_,_,rfl,.inr ⟨_,SqT.of eti,rfl⟩,_,_,rfl,rfl,_,rfl,?_⟩;refine Bd (λz=>?_) (λz=>?_)
    ·have hpos:0<hp.length:=by have:=A4 z;lia
     have hne:hp≠[]:=Io.mp hpos
     obtain⟨y,hy⟩:∃y,hp.getLast? = some y:=by
      cases hg:hp.getLast? with
      | none=>exact absurd (RV.mp hg) hne
      | some y=>exact⟨y,rfl⟩
     have cut:Bh (hp.map V.str) none (some (-1))=(hp.dropLast).map V.str:=by unfold Bh;rw[HT.sIx_none,FA,Gc,MX,hlm,<- DH,List.dropLast_eq_take]
     refine⟨_,rfl,_,rfl,_,rfl,_,rfl,_,rfl,ti,_,rfl,SqT.of eti,?_,λp1 hp1=>?_⟩
     ·rw[HT.sIx_none,MX];lia
     rw[cut];have s3:Same H (Ab H p1 (.tup ((hp.dropLast).map V.str))):=Same.new hp1;refine⟨_,W,i,.ref p1,hp.dropLast,rfl,s3.rd rv',.tup Ag (RdVs.strs _),hih,hif,λv' H6 s6 r6=>?_⟩;have s16:=s3.trans s6;obtain⟨c',u0,hb',cl',xs',ys',rfl,ea',r0',eb',rb',ec',rc'⟩:=C2 r6;have b1:atI [u0,V.ref hb',V.ref cl'] ((1:Nat):Int)=some (.ref hb'):=Az rfl;have b2:atI [u0,V.ref hb',V.ref cl'] ((2:Nat):Int)=some (.ref cl'):=Az rfl;refine⟨_,rfl,_,rfl,ti,_,_,_,rfl,rfl,SqT.of (s16 _ _ eti),VP (by rw[List.getLast?_map,hy];rfl),_,rfl,c',_,_,_,rfl,rfl,SqT.of ea',b1,_,rfl,c',_,_,_,rfl,rfl,SqT.of ea',b2,Bf,λtw htw=>⟨Bf,λlw hlw=>?_⟩⟩;have s7:Same H6 (Ab H6 tw (.tup [V.str y,.ref hb',.ref cl'])):=Same.new htw;have s8:Same (Ab H6 tw (.tup [V.str y,.ref hb',.ref cl'])) (Ab (Ab H6 tw (.tup [V.str y,.ref hb',.ref cl'])) lw (.lst [V.ref tw])):=Same.new hlw;have s78:=s7.trans s8;refine q lw [.ref tw] _ (s16.trans s78) Ag ?_;rw[NZ hs];unfold Dv;rw[As ⟨hh,hl,hne⟩,hy];exact .cons (Du (s8 _ _ Ag) (.str y) (s78 _ _ eb') (s78.rds rb') (s78 _ _ ec') (s78.rds rc')) .nil
    refine hN _ _ ⟨rfl,rfl,λ_=>?_⟩;rw[NZ hs];unfold Dv;rw[Am (λy=>z (AR (by have:=Io.mpr y.2.2;lia)))]
  exact CK hs (AN (hN _ _ ⟨rfl,rfl,λz=>absurd z hs⟩))
 rintro _ _ ⟨rfl,rfl,n2⟩;refine Ee (λσ' H'=>σ'=[some (.str w),some (.int (i:Int)),some (.int (j:Int)),some (.ref c),some (.ref ti),none]/\H=H'/\(w = "tip" -> Cb w W i hp l j hq lq=[])) ?_ (λN hN=>?_);rotate_left
 ·refine⟨_,rfl,rfl,_,rfl,?_⟩;by_cases hs:w = "tip"
  ·refine CJ hs ?_;refine⟨_,rfl,c,_,_,_,rfl,rfl,SqT.of ea,w0,rfl,_,rfl,?_⟩;cases hh:W.hand with
   | some t=>exact AN (AN (hN _ _ ⟨rfl,rfl,λ_=>by rw[NY hs];unfold DO;rw[Am (λz=>by rw[hh]at z;cases z.1)]⟩))
   | none=>
    refine Bb ?_;refine⟨_,rfl,_,_,rfl,.inr ⟨_,SqT.of eti,rfl⟩,_,_,rfl,rfl,_,rfl,?_⟩;refine Bd (λz=>?_) (λz=>?_)
    ·have hne:hp≠[]:=Io.mp (by have:=A4 z;lia);refine⟨_,rfl,_,rfl,_,rfl,rs,_,W,i,p,hp,l,j,pj,hq,lq,rfl,rv',pt,pq,hij hs,hh,λlw us H6 s6 e6 r6=>q lw us H6 s6 e6 ?_⟩
     have e:Cb w W i hp l j hq lq=Me W i hp j hq lq:=by
      rw[NY hs];unfold DO Me;by_cases hlq:lq = "open"
      ·rw[As ⟨hh,hl,hlq,hne⟩,As hlq]
      rw[Am (λy=>hlq y.2.2.1),Am hlq]
     rw[e];exact r6
    refine hN _ _ ⟨rfl,rfl,λ_=>?_⟩;rw[NY hs];unfold DO;rw[Am (λy=>z (AR (by have:=Io.mpr y.2.2.2;lia)))]
  exact CK hs (AN (hN _ _ ⟨rfl,rfl,λz=>absurd z hs⟩))
 rintro _ _ ⟨rfl,rfl,n3⟩;have lay:∀t,W.hand=some t->∀k:Nat,k<W.heaps.length->(W.heaps.getD k []).length<=100:=λt _ k hk=>by rw[Cz,AH hk];exact fh _ (BY hk)
 refine Ee (λσ' H'=>σ'=[some (.str w),some (.int (i:Int)),some (.int (j:Int)),some (.ref c),some (.ref ti),none]/\H=H'/\(w = "put" -> Cb w W i hp l j hq lq=[])) ?_ (λN hN=>?_);rotate_left
 ·refine⟨_,rfl,rfl,_,rfl,?_⟩;by_cases hs:w = "put"
  ·refine CJ hs ?_;refine⟨_,rfl,c,_,_,_,rfl,rfl,SqT.of ea,w0,rfl,_,rfl,?_⟩;cases hh:W.hand with
   | none=>exact AN (hN _ _ ⟨rfl,rfl,λ_=>by rw[Rh hs,TC (.inl hh)]⟩)
   | some t=>refine Bb ?_;refine⟨_,rfl,_,rfl,_,W,i,t,rfl,rv',hih,hif,lay t hh i hih,hh,λv' H6 s6 r6=>⟨Bf,λlw hlw=>?_⟩⟩;refine q lw [v'] _ (s6.trans (Same.new hlw)) Ag ?_;rw[Rh hs,YV hh hl];exact .cons ((Same.new hlw).rd r6) .nil
  exact CK hs (AN (hN _ _ ⟨rfl,rfl,λz=>absurd z hs⟩))
 rintro _ _ ⟨rfl,rfl,n4⟩;refine Ee (λσ' H'=>σ'=[some (.str w),some (.int (i:Int)),some (.int (j:Int)),some (.ref c),some (.ref ti),none]/\H=H'/\(w = "toss" -> Cb w W i hp l j hq lq=[])) ?_ (λN hN=>?_);rotate_left
 ·refine⟨_,rfl,rfl,_,rfl,?_⟩;by_cases hs:w = "toss"
  ·refine CJ hs ?_;refine⟨_,rfl,c,_,_,_,rfl,rfl,SqT.of ea,w0,rfl,_,rfl,?_⟩;cases hh:W.hand with
   | none=>exact AN (hN _ _ ⟨rfl,rfl,λ_=>by rw[Rg hs,SA (.inl hh)]⟩)
   | some t=>
    refine Bb ?_;have h0:0<W.heaps.length:=by lia
    have fin:∀ws:List V,∀H6:Hp,Same H H6->∀lw,H6 lw=none->RdVs H6 ws ((CC i).map λk=>dW (E3 t W k))->Q (.ref lw) (Ab H6 lw (.lst ws)):=λws H6 s6 lw hlw r6=>by refine q lw ws _ (s6.trans (Same.new hlw)) Ag ?_;rw[Rg hs,WB hh hl,By];exact(Same.new hlw).rds r6
    refine⟨_,rfl,rfl,_,rfl,?_⟩;refine Bd (λz=>?_) (λz=>?_)
    ·have hi0:i=0:=by have:=V.int.inj (A4 z);lia
     refine⟨_,rfl,_,W,0,t,rfl,rv',h0,hif,lay t hh 0 h0,hh,λv' H6 s6 r6=>⟨Bf,λlw hlw=>fin [v'] H6 s6 lw hlw ?_⟩⟩;unfold CC;rw[As hi0];exact .cons r6 .nil
    have hi0:i≠0:=λe=>z (AR (by rw[e];rfl));refine⟨_,rfl,_,rfl,_,W,i,t,rfl,rv',hih,hif,lay t hh i hih,hh,λv' H6 s6 r6=>?_⟩;refine⟨_,rfl,_,W,0,t,rfl,s6.rd rv',h0,hif,lay t hh 0 h0,hh,λv2 H7 s7 r7=>⟨Bf,λlw hlw=>fin [v',v2] H7 (s6.trans s7) lw hlw ?_⟩⟩;unfold CC;rw[Am hi0];exact .cons (s7.rd r6) (.cons r7 .nil)
  exact CK hs (AN (hN _ _ ⟨rfl,rfl,λz=>absurd z hs⟩))
 rintro _ _ ⟨rfl,rfl,n5⟩;refine⟨A5 _,none' ?_⟩;rcases Jq hw with e | e | e | e | e
 ·exact n2 e
 ·exact n4 e
 ·exact n5 e
 ·exact n3 e
 rw[N0 e];unfold Dw;rw[Am (λy=>y.2.1 hl)]
inductive Pp (vs:List V)(H:Hp)(Q:VK)(E0_:XK):Prop
 | mk (v:V) (W:Wl) (i:Nat) (b:Str) (c0:vs=[v,.int (i:Int),.str b]) (c1:RdV H v (dW W)) (c2:i<W.lids.length) (c3:W.lids.length<=100) (c4:∀(v':V) (H':Hp),Same H H'->RdV H' v' (dW ⟨W.hand,W.heaps,W.lids.set i b⟩)->Q v' H'):Pp  vs H Q E0_
abbrev Jf:List Str:=["_law_world_here", "_law_at", "_law_lid_here"]
abbrev eN:List Str:=Jf
def XW:AM eN Jf (Av MS):=AO
inductive Po (vs:List V)(H:Hp)(Q:VK)(E0_:XK):Prop
 | mk (r:Addr) (rs:List Ro) (w:Str) (v:V) (W:Wl) (i:Nat) (p:Br) (hp:List Str) (l:Str) (c0:vs=[.ref r,.str w,.int (i:Int),v]) (c1:RmS H r rs) (c2:w∈lidW) (c3:RdV H v (dW W)) (c4:Pt rs W i p hp l) (c5:Lo p l) (c6:W.lids.length<=100) (c7:∀(lw:Addr) (us:List V) (H':Hp),Same H H'->H' lw=some (.lst us)->RdVs H' us ((CN w p W i l).map dW)->Q (.ref lw) H'):Po  vs H Q E0_
abbrev Je:List Str:=["_law_room_here", "_law_word", "_law_at", "_law_world_here"]
abbrev eM:List Str:=BI Je ["_law_place", "_law_lid_here", "_law_holds_key"]
def scLLidded:AM eM Je (Av MQ):=AO
def NC {w:Str}{p:Br}{W:Wl}{i:Nat}{l:Str}(h1:l=EH w)(h2:Em W p w=true):CN w p W i l=[⟨W.hand,W.heaps,W.lids.set i (EG w)⟩]:=by unfold CN;rw[As ⟨h1,h2⟩]
def FZ {w:Str}{p:Br}{W:Wl}{i:Nat}{l:Str}(h:¬(l=EH w/\Em W p w=true)):CN w p W i l=[]:=by unfold CN;rw[Am h]
def U2 {w:Str}{p:Br}{W:Wl}(h:w = "open" \/ w = "shut"):Em W p w=(W.hand.isNone && p.2.1):=by unfold Em;rw[Am];rcases h with h | h <;> (rw[h];decide +kernel)
def U1 {w:Str}{p:Br}{W:Wl}(h:w = "lock" \/ w = "unlock"):Em W p w=(W.hand.isSome && decide (oV' p.2.2=oV W.hand)):=by unfold Em;rw[As (by rcases h with h | h <;> (rw[h];decide +kernel))];congr 1;exact decide_eq_decide.mpr eq_comm
def hU {l:Str}(lo:Lo p l)(h:l = "shut"):p.2.1=true:=by
 rcases lo with e | e | e
 ·rw[h]at e;exact absurd e (by decide +kernel)
 ·exact e.2
 rw[h]at e;exact absurd e.1 (by decide +kernel)
def aJ (F:Fun K "_law_lid" "_law_lid" MS f fd):FnOk P w K mg base CX0 1 f fd Jf Pp:=by
 refine F.oq XW λcdv A outer s H vs Q E hr h=>?_;obtain⟨v,W,i,b,rfl,rv,hi,hx,q⟩:=h;have ae:sizeLine=16777216:=AK;obtain⟨c,v0,hb,cl,xs,ys,rfl,ea,r0,eb,rb,ec,rc⟩:=C2 rv;have hys:=Fi rc;subst hys;have Bx:atI [v0,V.ref hb,V.ref cl] ((0:Nat):Int)=some v0:=Az rfl;have at1:atI [v0,V.ref hb,V.ref cl] ((1:Nat):Int)=some (.ref hb):=Az rfl;have at2:atI [v0,V.ref hb,V.ref cl] ((2:Nat):Int)=some (.ref cl):=Az rfl;have hlm:(W.lids.map V.str).length=W.lids.length:=Ak ..;have c1:Bh (W.lids.map V.str) none (some ((i:Nat):Int))=(W.lids.map V.str).take i:=by unfold Bh;rw[HT.sIx_none,HT.sIx_nat,FA,Gc];congr 1;lia
 have c2:Bh (W.lids.map V.str) (some (((i+1:Nat)):Int)) none=(W.lids.map V.str).drop (i+1):=NQ (by lia);refine⟨_,(Ao (AA (BQ (Aa (Aq AJ (pv 0) Ah (λ_ _=>rfl)) (Aa (Aq AJ (pv 0) Ah (λ_ _=>rfl)) (Aa (Ax EA (Ax EA (Dk Ff (Aq AJ (pv 0) Ah (λ_ _=>rfl)) Di (Dh (pv 1))) (BQ (Aa (pv 2) Ac))) (Dk Ff (Aq AJ (pv 0) Ah (λ_ _=>rfl)) (Dh (Ax Bm (pv 1) Ah)) Di)) Ac)))))),?_⟩;refine⟨_,rfl,c,_,_,_,rfl,rfl,SqT.of ea,Bx,_,rfl,c,_,_,_,rfl,rfl,SqT.of ea,at1,_,rfl,c,_,_,_,rfl,rfl,SqT.of ea,at2,_,rfl,_,rfl,cl,_,rfl,SqT.of ec,?_,λp1 hp1=>?_⟩
 ·rw[HT.sIx_none,HT.sIx_nat];lia
 rw[c1];obtain⟨H2,g0,s2,e2⟩:=BD (H:=H) (o:=.tup ((W.lids.map V.str).take i)) hp1;rw[g0];refine⟨_,rfl,Bf,λp2 hp2=>?_⟩;obtain⟨H3,g0,s3,e3⟩:=BD (H:=H2) (o:=.tup [V.str b]) hp2;rw[g0];refine EE (s3 _ _ e2) e3 (by rw[Bu];show _+1<=_;lia) λp3 H4 s4 e4=>?_;have s14:=s2.trans (s3.trans s4);refine⟨_,rfl,c,_,_,_,rfl,rfl,SqT.of (s14 _ _ ea),at2,_,rfl,_,_,rfl,rfl,_,rfl,cl,_,rfl,SqT.of (s14 _ _ ec),?_,λp4 hp4=>?_⟩
 ·rw[show((i:Int)+1)=((i+1:Nat):Int) from rfl,HT.sIx_nat];lia
 rw[show((i:Int)+1)=((i+1:Nat):Int) from rfl,c2];have s5:Same H4 (Ab H4 p4 (.tup ((W.lids.map V.str).drop (i+1)))):=Same.new hp4;refine EE (s5 _ _ e4) Ag (by rw[AY,Bu,DC];show _+1+_<=_;lia) λt H6 s6 e6=>?_;refine⟨Bf,λtw htw=>?_⟩;have s7:Same H6 (Ab H6 tw (.tup [v0,.ref hb,.ref t])):=Same.new htw;have sA:=(s14.trans (s5.trans s6)).trans s7;refine q (.ref tw) _ sA (Du Ag (sA.rd r0) (sA _ _ eb) (sA.rds rb) (s7 _ _ e6) ?_);have e:(W.lids.map V.str).take i++[V.str b]++(W.lids.map V.str).drop (i+1)=(W.lids.map V.str).set i (.str b):=by rw[RZ,As (by lia),De];rfl
 rw[e];show RdVs _ ((W.lids.map V.str).set i (.str b)) ((W.lids.set i b).map PyData.str);rw[G0];exact FL i (sA.rds rc) (.str _)
def aH {f1:Addr} (F:Fun K "_law_lidded" "_law_lidded" MQ f fd)(D_l_lid:Df K mg "_law_lid" MS Jf f1 d1)(G_l_lid:FnOk P w K mg base CX0 1 f1 d1 Jf Pp):FnOk P w K mg base CX0 2 f fd Je Po:=by
 refine F.oq scLLidded λcdv A outer s H vs Q E hr1 h=>?_;obtain⟨r,rs,w,v,W,i,p,hp,l,rfl,R,hw,rv,pt,lo,hll,q⟩:=h;have hu:=CL hr1;have ae:sizeLine=16777216:=AK;have g:=R.good;obtain⟨kvs,L3,pp,pt',d1,d2,d3,D,k1,k2,k3,k4,k5,k6,k7,g1,g2,g3,g4,g5,g6,g7⟩:=R.ex;have rv':=rv;obtain⟨c,v0,hb,cl,xs,ys,rfl,ea,r0,eb,rb,ec,rc⟩:=C2 rv;have hv0:=Jx r0;subst hv0;have hys:=Fi rc;subst hys;have w0:atI [oV W.hand,V.ref hb,V.ref cl] ((0:Nat):Int)=some (oV W.hand):=Az rfl;have w2:atI [oV W.hand,V.ref hb,V.ref cl] ((2:Nat):Int)=some (.ref cl):=Az rfl;have elc:(W.lids.map V.str)[i]? = some (.str l):=by rw[AI,pt.li];rfl
 have ep:(((plc rs).map (·.1)).map V.str)[i]? = some (.str p.1):=by rw[AI,AI,pt.pl];rfl
 have hpm:=Bz pt.pl;have hil:=(AG.mp pt.li).1;refine⟨_,(Aj (AB (i:=4) scLLidded.nd (Aq Bc (B6 hu (pv 0) AE (λ_ _=>rfl)) (pv 2) (λ_ _=>rfl))) (Aj (AB (i:=5) scLLidded.nd (Aq AJ (Aq AJ (pv 3) Ah (λ_ _=>rfl)) (pv 2) (λ_ _=>rfl))) (Aj (AQ (PW.pt (Cg (AC Bo (pv 1) AE (AD _)) (Cg (AC HL (Aq AJ (pv 3) Ah (λ_ _=>rfl)) CG (AD _)) (Ef (AC Bo (pv 5) AE (AD _)))))) (Ao (AA (Bk (Aa (AW G_l_lid hr1 (by rfl) D_l_lid.m D_l_lid.F.kp D_l_lid.b .nil Ar (Aa (pv 3) (Aa (pv 2) (Aa AE Ac)))) Ac)))) AS) (Aj (AQ (PW.pt (Cg (AC Bo (pv 1) AE (AD _)) (Cg (AC HL (Aq AJ (pv 3) Ah (λ_ _=>rfl)) CG (AD _)) (Cg (AC Bo (pv 5) AE (AD _)) (Ef (FM (KE hu (pv 4) (B6 hu (pv 0) AE (λ_ _=>rfl))))))))) (Ao (AA (Bk (Aa (AW G_l_lid hr1 (by rfl) D_l_lid.m D_l_lid.F.kp D_l_lid.b .nil Ar (Aa (pv 3) (Aa (pv 2) (Aa AE Ac)))) Ac)))) AS) (Aj (AB (i:=6) scLLidded.nd (IQ (Fl Jn (Aq AJ (pv 3) Ah (λ_ _=>rfl)) CG (AD _)) (IP (Fl Bo (Zj hu (B6 hu (pv 0) AE (λ_ _=>rfl)) (pv 4) ⟨by rfl,by rfl,by rfl,by rfl⟩) (Aq AJ (pv 3) Ah (λ_ _=>rfl)) (AD _))))) (Aj (AQ (PW.pt (Cg (AC Bo (pv 1) AE (AD _)) (Cg (Cs (pv 6)) (Ef (AC Bo (pv 5) AE (AD _)))))) (Ao (AA (Bk (Aa (AW G_l_lid hr1 (by rfl) D_l_lid.m D_l_lid.F.kp D_l_lid.b .nil Ar (Aa (pv 3) (Aa (pv 2) (Aa AE Ac)))) Ac)))) AS) (Aj (AQ (PW.pt (Cg (AC Bo (pv 1) AE (AD _)) (Cg (Cs (pv 6)) (Ef (AC Bo (pv 5) AE (AD _)))))) (Ao (AA (Bk (Aa (AW G_l_lid hr1 (by rfl) D_l_lid.m D_l_lid.F.kp D_l_lid.b .nil Ar (Aa (pv 3) (Aa (pv 2) (Aa AE Ac)))) Ac)))) AS) (Ao (AA (Bk Ac)))))))))),?_⟩;refine⟨_,rfl,r,_,rfl,B9 k1 k2,_,rfl,pp,_,_,_,rfl,rfl,SqL.of g1,Az ep,?_⟩;refine⟨_,rfl,c,_,_,_,rfl,rfl,SqT.of ea,w2,_,rfl,cl,_,_,_,rfl,rfl,SqT.of ec,Az elc,?_⟩;have done:∀b,CN w p W i l=[⟨W.hand,W.heaps,W.lids.set i b⟩]->∀(v':V) (H':Hp),Same H H'->RdV H' v' (dW ⟨W.hand,W.heaps,W.lids.set i b⟩)->∀lw,H' lw=none->Q (.ref lw) (Ab H' lw (.lst [v'])):=λb e v' H' s' rd lw hlw=>by refine q lw [v'] _ (s'.trans (Same.new hlw)) Ag ?_;rw[e];exact .cons ((Same.new hlw).rd rd) .nil
 have none':CN w p W i l=[]->∀l':Addr,H l'=none->Q (.ref l') (Ab H l' (.lst [])):=λe l' hl'=>q l' [] _ (Same.new hl') Ag (by rw[e];exact .nil);dsimp only;refine Ee (λσ' H'=>σ'=[some (.ref r),some (.str w),some (.int (i:Int)),some (.ref c),some (.str p.1),some (.str l),none]/\H=H'/\(w = "open" -> CN w p W i l=[])) ?_ (λN hN=>?_);rotate_left
 ·refine⟨_,rfl,rfl,_,rfl,?_⟩;by_cases hwo:w = "open"
  ·refine CJ hwo ?_;refine⟨_,rfl,c,_,_,_,rfl,rfl,SqT.of ea,w0,rfl,_,rfl,?_⟩;have fb:=U2 (W:=W) (p:=p) (.inl hwo);have hb:EH w = "shut" := by rw[hwo];decide +kernel
   have hbh:EG w = "open" := by rw[hwo];decide +kernel
   cases hh:W.hand with
   | some t=>exact AN (AN (hN _ _ ⟨rfl,rfl,λ_=>FZ λz=>by rw[fb,hh]at z;cases z.2⟩))
   | none=>
    refine Bb ?_;refine⟨_,rfl,rfl,_,rfl,?_⟩;by_cases hl:l = "shut"
    ·refine CJ hl ?_;have hp1:p.2.1=true:=hU lo hl;refine⟨_,rfl,_,rfl,_,W,i,_,rfl,rv',hil,hll,λv' H' s' rd=>⟨Bf,λlw hlw=>done _ ?_ v' H' s' rd lw hlw⟩⟩;rw[NC (hl.trans hb.symm) (by rw[fb,hh,hp1];rfl),hbh]
    exact CK hl (hN _ _ ⟨rfl,rfl,λ_=>FZ λz=>hl (z.1.trans hb)⟩)
  exact CK hwo (AN (hN _ _ ⟨rfl,rfl,λz=>absurd z hwo⟩))
 rintro _ _ ⟨rfl,rfl,n1⟩;refine Ee (λσ' H'=>σ'=[some (.ref r),some (.str w),some (.int (i:Int)),some (.ref c),some (.str p.1),some (.str l),none]/\H=H'/\(w = "open" \/ w = "shut" -> CN w p W i l=[])) ?_ (λN hN=>?_);rotate_left
 ·refine⟨_,rfl,rfl,_,rfl,?_⟩;by_cases hws:w = "shut"
  ·refine CJ hws ?_;refine⟨_,rfl,c,_,_,_,rfl,rfl,SqT.of ea,w0,rfl,_,rfl,?_⟩;have fb:=U2 (W:=W) (p:=p) (.inr hws);have hb:EH w = "open" := by rw[hws];decide +kernel
   have hbh:EG w = "shut" := by rw[hws];decide +kernel
   cases hh:W.hand with
   | some t=>exact AN (AN (hN _ _ ⟨rfl,rfl,λ_=>FZ λz=>by rw[fb,hh]at z;cases z.2⟩))
   | none=>
    refine Bb ?_;refine⟨_,rfl,rfl,_,rfl,?_⟩;by_cases hl:l = "open"
    ·refine CJ hl ?_;refine⟨_,rfl,_,rfl,r,_,rfl,B9 k1 k4,_,_,rfl,DGet.k (k:=(Sum.inr p.1:Af)) g3,_,rfl,?_⟩;rw[La g.nd hpm];cases hp1:p.2.1 with
     | true=>refine Bb ?_;refine⟨_,rfl,_,rfl,_,W,i,_,rfl,rv',hil,hll,λv' H' s' rd=>⟨Bf,λlw hlw=>done _ ?_ v' H' s' rd lw hlw⟩⟩;rw[NC (hl.trans hb.symm) (by rw[fb,hh,hp1];rfl),hbh]
     | false=>exact AN (hN _ _ ⟨rfl,rfl,λ_=>FZ λz=>by rw[fb,hh,hp1]at z;cases z.2⟩)
    exact CK hl (AN (hN _ _ ⟨rfl,rfl,λ_=>FZ λz=>hl (z.1.trans hb)⟩))
  exact CK hws (AN (hN _ _ ⟨rfl,rfl,λz=>z.elim n1 (λz=>absurd z hws)⟩))
 rintro _ _ ⟨rfl,rfl,n2⟩;obtain⟨hk,hke⟩:∃hk,hk=(W.hand.isSome && decide (oV' p.2.2=oV W.hand)):=⟨_,rfl⟩;refine Ee (λσ' H'=>σ'=[some (.ref r),some (.str w),some (.int (i:Int)),some (.ref c),some (.str p.1),some (.str l),some (.bl hk)]/\H=H') ?_ (λN hN=>?_);rotate_left
 ·refine⟨_,rfl,c,_,_,_,rfl,rfl,SqT.of ea,w0,rfl,_,rfl,?_⟩;cases hh:W.hand with
  | none=>exact AN (hN _ _ ⟨by rw[hke,hh];rfl,rfl⟩)
  | some t=>
   refine Bb ?_;refine⟨_,rfl,r,_,rfl,B9 k1 k5,d2,rfl,.inl ⟨_,Rd.of g4⟩,_,rfl,_,DGet.k (k:=(Sum.inr p.1:Af)) g4,?_⟩;rw[Ld g.nd hpm];have w0':atI [oV W.hand,V.ref hb,V.ref cl] ((0:Nat):Int)=some (.str t):=by rw[w0,hh];rfl
   refine⟨_,rfl,c,_,_,_,rfl,rfl,SqT.of ea,w0',by cases p.2.2 <;> rfl,hN _ _ ⟨by rw[hke,hh];rfl,rfl⟩⟩
 rintro _ _ ⟨rfl,rfl⟩;refine Ee (λσ' H'=>σ'=[some (.ref r),some (.str w),some (.int (i:Int)),some (.ref c),some (.str p.1),some (.str l),some (.bl hk)]/\H=H'/\(w = "lock" -> CN w p W i l=[])) ?_ (λN hN=>?_);rotate_left
 ·refine⟨_,rfl,rfl,_,rfl,?_⟩;by_cases hwk:w = "lock"
  ·refine CJ hwk ?_;have hf:Em W p w=hk:=(U1 (.inl hwk)).trans hke.symm;have hb:EH w = "shut" := by rw[hwk];decide +kernel
   have hbh:EG w = "locked" := by rw[hwk];decide +kernel
   refine⟨_,rfl,_,rfl,?_⟩;cases hk with
   | false=>exact AN (AN (hN _ _ ⟨rfl,rfl,λ_=>FZ λz=>by rw[hf]at z;cases z.2⟩))
   | true=>
    refine Bb ?_;refine⟨_,rfl,rfl,_,rfl,?_⟩;by_cases hl:l = "shut"
    ·refine CJ hl ?_;refine⟨_,rfl,_,rfl,_,W,i,_,rfl,rv',hil,hll,λv' H' s' rd=>⟨Bf,λlw hlw=>done _ ?_ v' H' s' rd lw hlw⟩⟩;rw[NC (hl.trans hb.symm) hf,hbh]
    exact CK hl (hN _ _ ⟨rfl,rfl,λ_=>FZ λz=>hl (z.1.trans hb)⟩)
  exact CK hwk (AN (hN _ _ ⟨rfl,rfl,λz=>absurd z hwk⟩))
 rintro _ _ ⟨rfl,rfl,n3⟩;refine Ee (λσ' H'=>σ'=[some (.ref r),some (.str w),some (.int (i:Int)),some (.ref c),some (.str p.1),some (.str l),some (.bl hk)]/\H=H'/\(w = "unlock" -> CN w p W i l=[])) ?_ (λN hN=>?_);rotate_left
 ·refine⟨_,rfl,rfl,_,rfl,?_⟩;by_cases hwu:w = "unlock"
  ·refine CJ hwu ?_;have hf:Em W p w=hk:=(U1 (.inr hwu)).trans hke.symm;have hb:EH w = "locked" := by rw[hwu];decide +kernel
   have hbh:EG w = "shut" := by rw[hwu];decide +kernel
   refine⟨_,rfl,_,rfl,?_⟩;cases hk with
   | false=>exact AN (AN (hN _ _ ⟨rfl,rfl,λ_=>FZ λz=>by rw[hf]at z;cases z.2⟩))
   | true=>
    refine Bb ?_;refine⟨_,rfl,rfl,_,rfl,?_⟩;by_cases hl:l = "locked"
    ·refine CJ hl ?_;refine⟨_,rfl,_,rfl,_,W,i,_,rfl,rv',hil,hll,λv' H' s' rd=>⟨Bf,λlw hlw=>done _ ?_ v' H' s' rd lw hlw⟩⟩;rw[NC (hl.trans hb.symm) hf,hbh]
    exact CK hl (hN _ _ ⟨rfl,rfl,λ_=>FZ λz=>hl (z.1.trans hb)⟩)
  exact CK hwu (AN (hN _ _ ⟨rfl,rfl,λz=>absurd z hwu⟩))
 rintro _ _ ⟨rfl,rfl,n4⟩
 have fin:CN w p W i l=[]:=by
  rcases NB hw with e | e | e | e
  ·exact n2 (.inl e)
  ·exact n2 (.inr e)
  ·exact n3 e
  exact n4 e
 exact⟨A5 _,none' fin⟩
inductive Pg (vs:List V)(H:Hp)(Q:VK)(E0_:XK):Prop
 | mk (r:Addr) (rs:List Ro) (v:V) (W:Wl) (D:C8) (c0:vs=[.ref r,.str D.line,v]) (c1:RmS H r rs) (c2:RdV H v (dW W)) (c3:Cf rs W) (c4:FI rs D) (c5:∀(lw:Addr) (us:List V) (H':Hp),Same H H'->H' lw=some (.lst us)->RdVs H' us ((Cq D W).map dW)->Q (.ref lw) H'):Pg  vs H Q E0_
abbrev KR:List Str:=["_law_room_here", "_law_line", "_law_world_here"]
abbrev dX:List Str:=BI KR ["_law_words", "_law_at"]
def scLTurns:AM dX KR (Av MN):=AO
def Z4 {f1 f2:Addr} (F:Fun K "_law_turns" "_law_turns" MN f fd)(T:Bl mg)(D_l_lidded:Df K mg "_law_lidded" MQ Je f1 d1)(G_l_lidded:FnOk P w K mg base CX0 2 f1 d1 Je Po)(D_l_moves:Df K mg "_law_moves" MP Jc f2 d2)(G_l_moves:FnOk P w K mg base CX0 3 f2 d2 Jc Pm):FnOk P w K mg base CX0 4 f fd KR Pg:=by
 refine F.oq scLTurns λcdv A outer s H vs Q E hr4 h=>?_;obtain⟨r,rs,v,W,D,rfl,R,rv,rz,dk,q⟩:=h;have hu:=CL hr4;have hr2:Room 2 _:=hr4.mono (by decide);have hr3:Room 3 _:=hr4.mono (by decide);have ae:sizeLine=16777216:=AK;have g:=R.good;have fP:=g.fewP;have okW:Ok W:=rz.1.ok g rz.2;have pt:=FN g rz dk.pi;have pq:=FN g rz dk.pq;obtain⟨kvs,L3,pp,pt',d1,d2,d3,D',k1,k2,k3,k4,k5,k6,k7,g1,g2,g3,g4,g5,g6,g7⟩:=R.ex;refine⟨_,(Aj (AB (i:=3) scLTurns.nd (C1 LO Iq Ox Nu (pv 1) (Aa AE Ac))) (Aj (AB (i:=4) scLTurns.nd (C1 DZ JD LV K7 (B6 hu (pv 0) AE (λ_ _=>rfl)) (Aa (Aq Bc (pv 3) Ah (λ_ _=>rfl)) Ac))) (Aj (AQ (AC K4 (Aq Bc (pv 3) Ah (λ_ _=>rfl)) (Bk (Aa AE (Aa AE (Aa AE (Aa AE Ac))))) (by rfl)) (Ao (AA (AW G_l_lidded hr2 (by rfl) D_l_lidded.m D_l_lidded.F.kp D_l_lidded.b .nil Ar (Aa (pv 0) (Aa (Aq Bc (pv 3) Ah (λ_ _=>rfl)) (Aa (pv 4) (Aa (pv 2) Ac))))))) AS) (Ao (AA (AW G_l_moves hr3 (by rfl) D_l_moves.m D_l_moves.F.kp D_l_moves.b .nil Ar (Aa (Aq Bc (pv 3) Ah (λ_ _=>rfl)) (Aa (pv 4) (Aa (C1 DZ JD LV K7 (B6 hu (pv 0) AE (λ_ _=>rfl)) (Aa (Aq Bc (pv 3) (EX EU Ah) (λ_ _=>rfl)) Ac)) (Aa (pv 2) Ac)))))))))),?_⟩;have hln:=dk.len;refine⟨_,rfl,rfl,_,_,rfl,rfl,by rfl,by lia,λl hl=>?_⟩;refine Nz (C9 D.w D.p.1 D.pj.1) _ (by show(Txt.split _ Cu).map V.str=_;rw[dk.wd.split]) hl λH1 s1 el=>?_;have a0:atI ((C9 D.w D.p.1 D.pj.1).map V.str) ((0:Nat):Int)=some (.str D.w):=by unfold C9;split <;> exact Az rfl
 have a1:atI ((C9 D.w D.p.1 D.pj.1).map V.str) ((1:Nat):Int)=some (.str D.p.1):=by unfold C9;split <;> exact Az rfl
 have hpi:((plc rs).map (·.1))[D.i]? = some D.p.1:=by rw[AI,dk.pi];rfl
 have hpj:((plc rs).map (·.1))[D.j]? = some D.pj.1:=by rw[AI,dk.pq];rfl
 refine⟨_,rfl,r,_,rfl,B9 (s1 _ _ k1) k2,.inl ⟨rfl,_,SqL.of (s1 _ _ g1)⟩,_,rfl,l,_,_,_,rfl,rfl,SqL.of el,a1,pp,_,_,D.i,rfl,rfl,s1 _ _ g1,hpi,JC g.ndP hpi,?_⟩;refine⟨_,rfl,l,_,_,_,rfl,rfl,SqL.of el,a0,?_⟩;refine⟨Bf,λl2 hl2=>?_⟩;have s2:Same H1 (Ab H1 l2 (.lst (lidW.map V.str))):=Same.new hl2;have e2:(Ab H1 l2 (.lst (lidW.map V.str))) l2=some (.lst (lidW.map V.str)):=Ag;change Kw _ _ _ _ (Ab H1 l2 (.lst (lidW.map V.str))) _;generalize (Ab H1 l2 (.lst (lidW.map V.str)))=H2 at s2 e2 ⊢;have s12:=s1.trans s2;have el2:=s2 _ _ el;have g12:=s12 _ _ g1;have k12:=s12 _ _ k1;refine⟨l2,_,rfl,.inl (SqL.of e2),rfl,by rfl,_,rfl,?_⟩;refine Bd (λz=>?_) (λz=>?_)
 ·have hm:D.w∈lidW:=A4 ((GC D.w lidW).symm.trans z);refine⟨_,rfl,_,rfl,l,_,_,_,rfl,rfl,SqL.of el2,a0,_,rfl,_,rfl,r,rs,D.w,v,W,D.i,D.p,_,_,rfl,R.same s12,hm,s12.rd rv,pt,rz.1.lids D.i D.p _ dk.pi pt.li,by have:=rz.2.2;lia,λlw us H' s' e' r'=>q lw us H' (s12.trans s') e' ?_⟩;unfold Cq FV;rw[As hm];exact r'
 have hm:¬D.w∈lidW:=λh=>z ((GC D.w lidW).trans (AR h))
 have hmv:D.w∈Gz:=by
  rcases Nr dk.nine with h | h
  ·exact h
  exact absurd h hm
 by_cases htip:D.w = "tip"
 ·have am:atI ((C9 D.w D.p.1 D.pj.1).map V.str) (-1)=some (.str D.pj.1):=by unfold C9;rw[As htip];rfl
  refine⟨_,rfl,l,_,_,_,rfl,rfl,SqL.of el2,a0,_,rfl,_,rfl,r,_,rfl,B9 k12 k2,.inl ⟨rfl,_,SqL.of g12⟩,_,rfl,1,rfl,l,_,_,_,rfl,rfl,SqL.of el2,am,pp,_,_,D.j,rfl,rfl,g12,hpj,JC g.ndP hpj,_,rfl,?_⟩;refine⟨rs,v,W,D.w,D.i,D.p,_,_,D.j,D.pj,_,_,rfl,s12.rd rv,pt,pq,dk.tip,hmv,okW.few,λlw us H' s' e' r'=>q lw us H' (s12.trans s') e' ?_⟩;unfold Cq FV;rw[Am hm];exact r'
 have am:atI ((C9 D.w D.p.1 D.pj.1).map V.str) (-1)=some (.str D.p.1):=by unfold C9;rw[Am htip];rfl
 refine⟨_,rfl,l,_,_,_,rfl,rfl,SqL.of el2,a0,_,rfl,_,rfl,r,_,rfl,B9 k12 k2,.inl ⟨rfl,_,SqL.of g12⟩,_,rfl,1,rfl,l,_,_,_,rfl,rfl,SqL.of el2,am,pp,_,_,D.i,rfl,rfl,g12,hpi,JC g.ndP hpi,_,rfl,?_⟩;refine⟨rs,v,W,D.w,D.i,D.p,_,_,D.i,D.p,_,_,rfl,s12.rd rv,pt,pt,λh=>absurd h htip,hmv,okW.few,λlw us H' s' e' r'=>q lw us H' (s12.trans s') e' ?_⟩;unfold Cq FV;rw[Am hm];unfold Cb at r' ⊢;rw[Am htip]at r' ⊢;exact r'
inductive Pl (vs:List V)(H:Hp)(Q:VK)(E0_:XK):Prop
 | mk (r a:Addr) (rs:List Ro) (Ps:List (C8×Int)) (us:List V) (v:V) (W:Wl) (c0:vs=[.ref r,.ref a,v]) (c1:RmS H r rs) (c2:H a=some (.lst us)) (c3:A2 (Hc H) us Ps) (c4:(∀q∈Ps,FI rs q.1)) (c5:Ps.length<=40) (c6:RdV H v (dW W)) (c7:Cf rs W) (c8:∀(lw:Addr) (zs:List V) (H':Hp),Same H H'->H' lw=some (.lst zs)->RdVs H' zs ((Ps.flatMap λq=>Cq q.1 W).map dW)->Q (.ref lw) H'):Pl  vs H Q E0_
abbrev Jb:List Str:=["_law_drawn", "_law_deeds", "_law_world_here"]
abbrev eE:List Str:=BI Jb ["_law_found", "_law_line", "_law_price"]
def scLNext:AM eE Jb (Av MO):=AO
def aA (F:Fun K "_law_next" "_law_next" MO f fd)(C_l_turns:Ca P w K mg base CX0 4 "_law_turns" MN KR Pg):FnOk P w K mg base CX0 5 f fd Jb Pl:=by
 refine F.oq scLNext λcdv A outer s H vs Q E hr5 h=>?_;obtain⟨r,a,rs,Ps,us,v,W,rfl,R,ha,hus,dok,few,rv,rz,q⟩:=h;have hr4:Room 4 _:=hr5.mono (by decide);have ae:sizeLine=16777216:=AK;have g:=R.good;have hul:=hus.len;refine⟨_,(Aj (AB (i:=3) scLNext.nd (Bk Ac)) (Aj (BU BS rfl (BM (pv 1)) (Gv rfl (Dj (AZ (i:=4) scLNext.nd) (Dj (AZ (i:=5) scLNext.nd) Gu))) (Ao (AB (i:=3) scLNext.nd (Ax Jo (pv 3) (A0 C_l_turns hr4 Ar (Aa (pv 0) (Aa (pv 4) (Aa (pv 2) Ac)))))))) (Ao (AA (pv 3))))),?_⟩;refine⟨Bf,λl0 hl0=>?_⟩;have s0:Same H (Ab H l0 (.lst [])):=Same.new hl0;have e0:(Ab H l0 (.lst [])) l0=some (.lst []):=Ag;change E4 _ _ _ (Ab H l0 (.lst [])) _;generalize (Ab H l0 (.lst []))=H0 at s0 e0 ⊢;refine⟨_,rfl,a,rfl,⟨_,SqL.of (s0 _ _ ha)⟩,Dn (K:=K) (a:=a) (xs:=us) (λi σ H2=>∃(v4 v5:Option V) (lw:Addr) (zs:List V),σ = [some (.ref r),some (.ref a),some v,some (.ref lw),v4,v5]/\Same H H2/\H2 lw=some (.lst zs)/\RdVs H2 zs (((Ps.take i).flatMap λq=>Cq q.1 W).map dW)/\zs.length<=2*i) ⟨none,none,l0,[],rfl,s0,e0,.nil,A5 _⟩ (λi σ H2 _ hh0=>by obtain⟨_,_,_,_,_,s2,_⟩:=hh0;exact SqL.of (s2 _ _ ha)) ?_ ?_⟩
 ·rintro i y σ H2 hy ⟨v4,v5,lw,zs,rfl,s2,e2,r2,hz⟩;obtain⟨⟨Dl,pr⟩,hq,hqm,a',rfl,et⟩:=hus.at hy;have dk:=dok _ hqm;have hi:=(AG.mp hy).1;have hi':i<Ps.length:=by lia
  have htk:Ps.take (i+1)=Ps.take i++[(Dl,pr)]:=by rw[BF hi'];rw[AH hi']at hq;rw[Bs hq]
  obtain⟨_,tl⟩:=Sx g rz dk;refine⟨a',_,rfl,SqT.of (s2 _ _ et),rfl,?_⟩;refine⟨_,_,rfl,_,_,rfl,rfl,?_⟩;refine⟨_,rfl,_,rfl,_,rfl,_,rfl,r,rs,v,W,Dl,rfl,R.same s2,s2.rd rv,rz,dk,λlt us4 H4 s4 e4 r4=>?_⟩;have hl4:us4.length<=2:=by rw[r4.length,Ak];exact tl
  refine⟨lw,lt,_,_,rfl,rfl,s4 _ _ e2,e4,by lia,λl5 hl5=>?_⟩;have s5:Same H4 (Ab H4 l5 (.lst (zs++us4))):=Same.new hl5;have s25:=s4.trans s5;refine⟨_,_,l5,zs++us4,rfl,s2.trans s25,Ag,?_,by rw[AY];lia⟩;rw[htk,List.flatMap_append,Ba];refine(s25.rds r2).append ?_;have:=s5.rds r4;simpa using this
 rintro σ H2 ⟨v4,v5,lw,zs,rfl,s2,e2,r2,hz⟩;rw[hul,BP]at r2;exact⟨_,rfl,q lw zs H2 s2 e2 r2⟩
inductive Pr (vs:List V)(H:Hp)(Q:VK)(E0_:XK):Prop
 | mk (a:Addr) (us:List V) (Ws:List Wl) (c0:vs=[.ref a]) (c1:H a=some (.lst us)) (c2:RdVs H us (Ws.map dW)) (c3:(∀W∈Ws,Ok W)) (c4:Ws.length<=100) (c5:∀(lw:Addr) (zs:List V) (H':Hp),Same H H'->H lw=none->H' lw=some (.lst zs)->RdVs H' zs ((A3 [] Ws).map dW)->Q (.ref lw) H'):Pr  vs H Q E0_
abbrev Jg:List Str:=["_law_some"]
abbrev eU:List Str:=BI Jg ["_law_found", "_law_one"]
def scLFirstOnes:AM eU Jg (Av MV):=AO
def aU (F:Fun K "_law_first_ones" "_law_first_ones" MV f fd):FnOk P w K mg base CX0 1 f fd Jg Pr:=by
 refine F.oq scLFirstOnes λcdv A outer s H vs Q E hr h=>?_;obtain⟨a,us,Ws,rfl,ha,rd,ok,few,q⟩:=h;have hun1:_+65<cLine:=lt_of_le_of_lt (Nat.add_le_add_left (by decide:65<=16*0+200) _) hr.un;have ae:sizeLine=16777216:=AK;have hlu:us.length=Ws.length:=by rw[rd.length,Ak]
 refine⟨_,(Aj (AB (i:=1) scLFirstOnes.nd (Bk Ac)) (Aj (BU BS rfl (BM (pv 0)) (AZ (i:=2) scLFirstOnes.nd) (Ao (AQ (AC (Zq hun1) (pv 2) (pv 1) (by rfl)) (Ao (B1 (C1 DZ Ia JF HM (pv 1) (Aa (pv 2) Ac)))) AS))) (Ao (AA (pv 1))))),?_⟩;refine⟨Bf,λl0 hl0=>?_⟩;have s0:Same H (Ab H l0 (.lst [])):=Same.new hl0;have e0:(Ab H l0 (.lst [])) l0=some (.lst []):=Ag;change E4 _ _ _ (Ab H l0 (.lst [])) _;generalize (Ab H l0 (.lst []))=H0 at s0 e0 ⊢;refine⟨_,rfl,a,rfl,⟨_,SqL.of (s0 _ _ ha)⟩,Dn (K:=K) (a:=a) (xs:=us) (λi σ H2=>∃(v2:Option V) (zs:List V),σ = [some (.ref a),some (.ref l0),v2]/\Same H H2/\H2 l0=some (.lst zs)/\RdVs H2 zs ((A3 [] (Ws.take i)).map dW)) ⟨none,[],rfl,s0,e0,.nil⟩ (λi σ H2 _ hh0=>by obtain⟨_,_,_,s2,_⟩:=hh0;exact SqL.of (s2 _ _ ha)) ?_ ?_⟩
 ·rintro i y σ H2 hy ⟨v2,zs,rfl,s2,e2,r2⟩;have hi:i<Ws.length:=by have:=(AG.mp hy).1;lia
  obtain⟨dd,hdd,rdv⟩:=rd.get hy;rw[AI,AH hi]at hdd;cases hdd;have htk:Ws.take (i+1)=Ws.take i++[Ws[i]]:=BF hi;have okW:=ok Ws[i] (BY hi);generalize Ws[i]=W at rdv htk okW
  have okA:∀Z∈A3 [] (Ws.take i),Ok Z:=λZ hZ=>by
   rcases addN_mem.mp hZ with z | z
   ·cases z
   exact ok Z (G8 z)
  have hadd:A3 [] (Ws.take (i+1))=if W∈A3 [] (Ws.take i)then A3 [] (Ws.take i)else A3 [] (Ws.take i)++[W]:=by rw[htk,Ls];rfl
  have hzl:zs.length<=100:=by
   have h1:=Nt (Lr (L:=[]) (A:=Ws.take i) GS) (N:=Ws) λZ hZ=>by
    rcases addN_mem.mp hZ with z | z
    ·cases z
    exact G8 z
   rw[r2.length,Ak];lia
  have ry:=s2.rd rdv;refine⟨_,rfl,_,rfl,l0,zs,dW W,_,rfl,e2,r2,ry,Ka okW,PV okA,_,rfl,?_⟩;rw[VT];by_cases hm:W∈A3 [] (Ws.take i)
  ·rw[As hm]at hadd;rw[AR hm];refine AN ?_;exact⟨_,zs,rfl,s2,e2,by rw[hadd];exact r2⟩
  rw[Am hm]at hadd;rw[BC hm];refine Bb ?_;refine⟨_,rfl,.inl ⟨rfl,_,SqL.of e2⟩,_,rfl,l0,zs,y,rfl,rfl,e2,by lia,?_⟩;refine⟨_,zs++[y],rfl,s2.put hl0,Ag,?_⟩;rw[hadd,Ba];have kp:∀c xs,H2 c=some (.tup xs)->(Ab H2 l0 (.lst (zs++[y]))) c=some (.tup xs):=λc xs e=>by rw[Ai (A7 e e2 (by intro z;cases z))];exact e
  exact(r2.same kp).append (.cons (ry.same kp) .nil)
 rintro σ H2 ⟨v2,zs,rfl,s2,e2,r2⟩;rw[hlu,BP]at r2;exact⟨_,rfl,q l0 zs H2 s2 hl0 e2 r2⟩
inductive Pj (K:W.Frag)(vs:List V)(H:Hp)(Q:VK)(E0_:XK):Prop
 | mk (a:Addr) (ns:List Int) (c0:vs=[.ref a]) (c1:SqL K H a (ns.map V.int)) (c2:ns.length<=63) (c3:∀(t:Addr) (p m:Nat) (H':Hp),Same H H'->H' t=some (.tup [.int (p:Int),.int (m:Int)])->(p,m)∈smallS->Q (.ref t) H'):Pj K vs H Q E0_
abbrev I0:List Str:=["_law_script"]
abbrev eA:List Str:=I0
def XU:AM eA I0 (Av Hm):=AO
def QJ:Expr->Bool
 | .Tuple [.Constant (.int _) _ _,.Constant (.int _) _ _] _ _=>true
 | _=>false
def TJ:Expr->Int×Int
 | .Tuple [.Constant (.int a) _ _,.Constant (.int b) _ _] _ _=>(a,b)
 | _=>(0,0)
def oA (H:Hp)(v:V)(p:Int×Int):Prop:=∃t,v=V.ref t/\H t=some (.tup [.int p.1,.int p.2])
def A2.one {α:Type}{R:V->α->Prop}{v:V}{t:α}(h:R v t):A2 R [v] [t]:=⟨rfl,λi v' t' hv ht=>by
 cases i with
 | zero=>cases hv;cases ht;exact h
 | succ n=>cases hv⟩
def A2.nil {α:Type}{R:V->α->Prop}:A2 R [] []:=⟨rfl,λi v t hv _=>by cases hv⟩
theorem TZ :∀{es:List Expr},es.all QJ=true->PA X es (λ_ H Q=>∀(vs:List V) (H':Hp),Same H H'->A2 (oA H') vs (es.map TJ)->Q vs H')
 | [],_=>λpos aa s σ H Q I h=>Ac pos aa s σ H Q I (h [] H (Same.refl H) A2.nil)
 | e::es,h=>by
  (rw[JK,BZ]at h);have ih:=TZ (X:=X) h.2;have h1:=h.1;unfold QJ at h1;split at h1
  ·rename_i a j1 p1 b j2 p2 x1 p3;intro pos aa s σ H Q I q;have hpc:=Aa (X:=X) (BQ (x1:=x1) (pos:=p3) (Aa (Ah (i:=a) (j:=j1) (pos:=p1)) (Aa (Ah (i:=b) (j:=j2) (pos:=p2)) Ac))) ih;refine hpc pos aa s σ H Q I ?_;refine⟨by show 2<=sizeLine;rw[AK];decide,λp hp vs H' sm hA=>?_⟩;exact q (.ref p::vs) H' ((Same.new hp).trans sm) ((A2.one ⟨p,rfl,sm _ _ Ag⟩).app hA)
  cases h1
def Xu (es:List Expr):List Stmt:=match Cj Hm with
 | [.Return (some (.Subscript (.List _ p1) i p2)) p3]=>[.Return (some (.Subscript (.List es p1) i p2)) p3]
 | l=>l
def smE:List Expr:=match Cj Hm with
 | [.Return (some (.Subscript (.List es _) _ _)) _]=>es
 | _=>[]
def Xt:Xu smE=Cj Hm:=by rfl
def Xq:List (Int×Int):=smallS.map λq=>((q.1:Int),(q.2:Int))
def Xr:smE.map TJ=Xq:=by rfl
def Xs:smE.all QJ=true:=by decide +kernel
def Vu (xs:List V)(k:Nat):Bh xs none (some (k:Int))=xs.take k:=by
 unfold Bh;rw[HT.sIx_none,HT.sIx_nat,FA,Gc];rcases Nat.le_total k xs.length with h | h
 ·rw[LB h]
 rw[Nat.min_eq_right h,BP,FB h]
def Lw (x:Str):Prop:=∀c∈cs x,c<200
def Lw.app (h:Lw x)(k:Lw y):Lw (x++y):=λc hc=>by
 rw[BH]at hc;rcases(BK.mp hc)with z | z
 ·exact h c z
 exact k c z
def Lw.ok (h:Lw x):strOk x=true:=T6 λc hc=>Ib (h c hc) (by decide)
structure L0 (xs:List Str)(x:Str):Prop where
 ex:∃(w:Str) (i j:Nat) (na nb:Str),w∈FU/\xs[i]? = some na/\xs[j]? = some nb/\(w = "tip" -> i≠j)/\Wd x (C9 w na nb)
 l1:1<=x.length
 l2:x.length<=30
 lw:Lw x
inductive Pn (K:W.Frag)(vs:List V)(H:Hp)(Q:VK)(E0_:XK):Prop
 | mk (a pp:Addr) (ns:List Int) (k m:Int) (xs:List Str) (c0:vs=[.ref a,.int k,.ref pp,.int m]) (c1:SqL K H a (ns.map V.int)) (c2:ns.length<=63) (c3:0<=k) (c4:k<9000) (c5:0<=m) (c6:m<=30) (c7:H pp=some (.lst (xs.map V.str))) (c8:1<=xs.length) (c9:xs.length<=6) (c10:(∀x∈xs,x.length<=8/\32∉cs x/\Lw x)) (c11:∀(l:Addr) (ls:List Str) (H':Hp),Same H H'->H l=none->H' l=some (.lst (ls.map V.str))->(ls.length:Int)<=m->ls.Nodup->(∀x∈ls,L0 xs x)->Q (.ref l) H'):Pn K vs H Q E0_
abbrev Jd:List Str:=["_law_script", "_law_k", "_law_places", "_law_most"]
abbrev eK:List Str:=BI Jd ["_law_lines_here", "_law_i", "_law_words", "_law_word", "_law_at", "_law_line"]
def scLLines:AM eK Jd (Av Hn):=AO
def w11:List Str:=["take", "put", "toss", "tip", "open", "shut", "lock", "unlock", "shake", "take", "put"]
def iD (es:List Expr):List Stmt:=match Cj Hn with
 | [r1,.For x1 x2 (.Assign a (.List _ p2) p3::r2) x3 x4,r3]=>[r1,.For x1 x2 (.Assign a (.List es p2) p3::r2) x3 x4,r3]
 | l=>l
def lnE:List Expr:=match (Cj Hn).getD 1 (.Pass ⟨0,0,0,0⟩)with
 | .For _ _ (.Assign _ (.List es _) _::_) _ _=>es
 | _=>[]
def iC:iD lnE=Cj Hn:=by rfl
def iA:lnE.map Mg=w11.map V.str:=by rfl
def iB:lnE.all NM=true:=by decide +kernel
inductive Pk (K:W.Frag)(vs:List V)(H:Hp)(Q:VK)(E0_:XK):Prop
 | mk (a b:Addr) (ns:List Int) (k:Int) (ls:List Str) (c0:vs=[.ref a,.int k,.ref b]) (c1:SqL K H a (ns.map V.int)) (c2:ns.length<=63) (c3:0<=k) (c4:k<9000) (c5:H b=some (.lst (ls.map V.str))) (c6:ls.length<=40) (c7:∀(l:Addr) (us:List V) (ps:List (Str×Int)) (H':Hp),Same H H'->H l=none->H' l=some (.lst us)->A2 (Hb H') us ps->ps.map (·.1)=ls->(∀p∈ps,1<=p.2/\p.2<=1000000000)->Q (.ref l) H'):Pk K vs H Q E0_
abbrev Ja:List Str:=["_law_script", "_law_k", "_law_lines_here"]
abbrev eC:List Str:=BI Ja ["_law_most"]
def scLPriced:AM eC Ja (Av Kl):=AO
inductive Ph (K:W.Frag)(vs:List V)(H:Hp)(Q:VK)(E0_:XK):Prop
 | mk (a r:Addr) (ns:List Int) (rs:List Ro) (c0:vs=[.ref a,.ref r]) (c1:SqL K H a (ns.map V.int)) (c2:ns.length<=63) (c3:RmS H r rs) (c4:1<=(plc rs).length) (c5:∀(l:Addr) (us:List V) (Ws:List Wl) (H':Hp),Same H H'->H l=none->H' l=some (.lst us)->RdVs H' us (Ws.map dW)->Ws≠[]->Ws.length<=6->(∀W∈Ws,Cf rs W)->Q (.ref l) H'):Ph K vs H Q E0_
abbrev IZ:List Str:=["_law_script", "_law_drawn"]
abbrev dY:List Str:=BI IZ ["_law_some"]
def scLToldWorlds:AM dY IZ (Av Kj):=AO
def Z7 (F:Fun K "_law_small" "_law_small" Hm f fd)(C_l_pick:Ca P w K mg base CX0 1 "_law_pick" EV CI (FJ K)):FnOk P w K mg base CX0 2 f fd I0 (Pj K):=by
 refine F.oq XU λcdv A outer s H vs Q E hr1 h=>?_;obtain⟨a,ns,rfl,hS,hn,q⟩:=h;have ae:sizeLine=16777216:=AK;have hv:=Xr;have hp:=Xs;rw[<- Xt];generalize smE=es at hv hp ⊢;refine⟨_,(Ao (AA (Aq Bc (Bk (TZ hp)) (A0 C_l_pick hr1 Ar (Aa (pv 0) (Aa Ah (Aa Ah Ac)))) (λ_ _=>rfl)))),?_⟩;refine λvs H1 s1 hA=>?_;rw[hv]at hA;have hvl:vs.length=8:=hA.len;refine⟨by lia,λl hl=>?_⟩;have s2:Same H1 (Ab H1 l (.lst vs)):=Same.new hl;refine⟨_,rfl,a,ns,_,_,rfl,(s1.trans s2).seq hS,hn,by decide,by decide,by decide,λj j0 j1=>?_⟩;obtain⟨jj,rfl⟩:∃n:Nat,(n:Int)=j:=⟨j.toNat,En j0⟩;have hjl:jj<vs.length:=by lia
 obtain⟨p,hp1,hp2,t,et,er⟩:=hA.at (AH hjl);obtain⟨⟨pn,mn⟩,hm,rfl⟩:=Bi.mp hp2;refine⟨l,_,_,_,rfl,rfl,SqL.of Ag,Az (AH hjl),?_⟩;rw[et];exact q t pn mn _ (s1.trans s2) (s2 _ _ er) hm
def aG (F:Fun K "_law_lines" "_law_lines" Hn f fd)(T:Bl mg)(C_l_pick:Ca P w K mg base CX0 1 "_law_pick" EV CI (FJ K)):FnOk P w K mg base CX0 2 f fd Jd (Pn K):=by
 refine F.oq scLLines λcdv A outer s H vs Q E hr1 h=>?_;obtain⟨a,pp,ns,k,m,xs,rfl,hS,hn,k0,k1,m0,m1,ep,x1,x6,hx,q⟩:=h;have ae:sizeLine=16777216:=AK;have hxm:(xs.map V.str).length=xs.length:=Ak ..;have v1:=iA;have h1:=iB;rw[<- iC];generalize lnE=es at v1 h1 ⊢;have b1:(Str.ofString " ").length=1:=by decide +kernel
 have lb:Lw (Str.ofString " "):=by unfold Lw;decide +kernel
 have b5:(Str.ofString "take ").length=5:=by decide +kernel
 refine⟨_,(Aj (AB (i:=4) scLLines.nd (Bk Ac)) (Aj (BU BS rfl (Ex (by rfl) T.range (Aa (A0 C_l_pick hr1 Ar (Aa (pv 0) (Aa (pv 1) (Aa (Ax Bm (pv 3) Ah) Ac)))) Ac)) (AZ (i:=5) scLLines.nd) (Aj (AB (i:=6) scLLines.nd (Bk (TX (w11.map V.str) h1 v1))) (Aj (AB (i:=7) scLLines.nd (Aq Bc (pv 6) (A0 C_l_pick hr1 Ar (Aa (pv 0) (Aa (Ax Bm (Ax Bm (pv 1) Ah) (Ax Fm Ah (pv 5))) (Aa Ah Ac)))) (λ_ _=>rfl))) (Aj (AB (i:=8) scLLines.nd (A0 C_l_pick hr1 Ar (Aa (pv 0) (Aa (Ax Bm (Ax Bm (pv 1) Ah) (Ax Fm Ah (pv 5))) (Aa (AV Bp (by rfl) T.len A8 (Aa (pv 2) Ac)) Ac))))) (Aj (AB (i:=9) scLLines.nd (Ax Dx (Ax Dx (pv 7) AE) (Aq Bc (pv 2) (pv 8) (λ_ _=>rfl)))) (Aj (AQ (PW.pt (Cg (AC Bo (pv 7) AE (AD _)) (Ef (AC Bo (AV Bp (by rfl) T.len A8 (Aa (pv 2) Ac)) Ah (AD _))))) (Ao (AB (i:=9) scLLines.nd (Ax Dx AE (Aq Bc (pv 2) Ah (λ_ _=>rfl))))) (Ao (AQ (AC Bo (pv 7) AE (AD _)) (Ao (AB (i:=9) scLLines.nd (Ax Dx (Ax Dx (pv 9) AE) (Aq Bc (pv 2) (Ax Fn (Ax Bm (Ax Bm (pv 8) Ah) (A0 C_l_pick hr1 Ar (Aa (pv 0) (Aa (Ax Bm (Ax Bm (pv 1) Ah) (Ax Fm Ah (pv 5))) (Aa (Ax QA (AV Bp (by rfl) T.len A8 (Aa (pv 2) Ac)) Ah) Ac))))) (AV Bp (by rfl) T.len A8 (Aa (pv 2) Ac))) (λ_ _=>rfl))))) AS))) (Ao (AQ (AC T4 (pv 9) (pv 4) (by rfl)) (Ao (B1 (C1 DZ Ia JF HM (pv 4) (Aa (pv 9) Ac)))) AS)))))))) (Ao (AA (pv 4))))),?_⟩;refine⟨Bf,λl0 hl0=>?_⟩;refine Nz [] _ rfl hl0 λH0 s0 e0=>?_;refine⟨_,rfl,_,rfl,_,rfl,_,_,rfl,rfl,a,ns,_,_,rfl,s0.seq hS,hn,by lia,by lia,by lia,λr r0 r1=>?_⟩;refine⟨_,rfl,by lia,by lia,HV (n:=r.toNat) (λi σ H2=>∃(v5 v6 v7 v8 v9:Option V) (ls:List Str),σ = [some (.ref a),some (.int k),some (.ref pp),some (.int m),some (.ref l0),v5,v6,v7,v8,v9]/\Same H H2/\H2 l0=some (.lst (ls.map V.str))/\ls.length<=i/\ls.Nodup/\∀x∈ls,L0 xs x) ⟨none,none,none,none,none,[],rfl,s0,e0,Au _,GS,(λ_ h=>by cases h)⟩ ?_ ?_⟩
 ·rintro i σ H2 hi ⟨v5,v6,v7,v8,v9,ls,rfl,s2,e2,hl,nd,hok⟩;refine⟨Bf,λlw hlw=>?_⟩;refine Nz w11 _ rfl hlw λH3 s23 e3=>?_;have s3:=s2.trans s23;have hS3:=s3.seq hS;have ep3:=s3 _ _ ep;have e03:=s23 _ _ e2;refine⟨_,rfl,_,rfl,_,rfl,_,_,rfl,rfl,_,rfl,_,_,rfl,rfl,.inl ⟨by lia,by lia⟩,_,_,rfl,rfl,a,ns,_,_,rfl,hS3,hn,by lia,by lia,by decide,λj j0 j1=>?_⟩;obtain⟨wd,hwd',hat⟩:=VO (xs:=w11) j0 (by show j<11;exact j1)
  have hwd:wd∈FU:=by
   have h:∀z∈w11,z∈FU:=by decide +kernel
   exact h wd hwd'
  have hwl:wd.length<=6/\1<=wd.length/\32∉cs wd/\∀c∈cs wd,c<200:=by
   have h:∀z∈w11,z.length<=6/\1<=z.length/\32∉cs z/\∀c∈cs z,c<200:=by decide +kernel
   exact h wd hwd'
  refine⟨lw,_,_,_,rfl,rfl,SqL.of e3,hat,?_⟩;refine⟨_,rfl,_,rfl,_,_,rfl,rfl,_,rfl,_,_,rfl,rfl,.inl ⟨by lia,by lia⟩,_,_,rfl,rfl,_,rfl,_,_,rfl,.inl ⟨_,SqL.of ep3,rfl⟩,a,ns,_,_,rfl,hS3,hn,by lia,by lia,by lia,λix ix0 ix1=>?_⟩;rw[hxm]at ix1;obtain⟨ii,hii⟩:∃n:Nat,(n:Int)=ix:=⟨ix.toNat,En ix0⟩;subst hii;have hil:ii<xs.length:=by lia
  have hxi:xs[ii]? = some xs[ii]:=AH hil;have hxk:=hx xs[ii] (BY hil);generalize xs[ii]=na at hxi hxk;have an:atI (xs.map V.str) ((ii:Nat):Int)=some (.str na):=Az (by rw[AI,hxi];rfl);refine⟨_,rfl,_,_,rfl,rfl,by rw[b1];lia,_,rfl,_,rfl,pp,_,_,_,rfl,rfl,SqL.of ep3,an,_,_,rfl,rfl,by rw[B7,b1];lia,?_⟩
  have one:∀(w':Str) (c:Nat) (nc:Str),xs[c]? = some nc->nc.length<=8/\32∉cs nc/\Lw nc->w'∈FU->w' ≠ "tip" -> w'.length<=6/\1<=w'.length/\32∉cs w'/\(∀c∈cs w',c<200)->L0 xs (w'++Str.ofString " " ++ nc):=λw' c nc hc hk hw' ht hl'=>by
   refine⟨⟨w',c,c,nc,nc,hw',hc,hc,λz=>absurd z ht,?_⟩,by rw[B7,B7,b1];lia,by rw[B7,B7,b1];lia,(Lw.app hl'.2.2.2 lb).app hk.2.2⟩;unfold C9;rw[Am ht];refine⟨rfl,JR _ _,λy hy=>?_⟩;rcases(AL.mp hy)with e | e
   ·rw[e];exact hl'.2.2.1
   rw[AX.mp e];exact hk.2.1
  dsimp only;refine Ee (λσ' H'=>∃line:Str,σ'=[some (.ref a),some (.int k),some (.ref pp),some (.int m),some (.ref l0),some (.int (0+(i:Int))),some (.ref lw),some (.str wd),some (.int (ii:Int)),some (.str line)]/\H'=H3/\L0 xs line) ?_ (λN hN=>?_);rotate_left
  ·refine⟨_,rfl,rfl,_,rfl,?_⟩;by_cases ht:wd = "tip"
   ·refine CJ ht ?_;refine⟨_,rfl,_,_,rfl,.inl ⟨_,SqL.of ep3,rfl⟩,rfl,_,rfl,?_⟩;refine Bd (λz=>?_) (λz=>?_)
    ·obtain⟨n0,hn0⟩:∃n0,xs[0]? = some n0:=⟨xs[0],AH (by lia)⟩;have hk0:=hx n0 (Bz hn0);refine⟨_,rfl,pp,_,_,_,rfl,rfl,SqL.of ep3,Az (j:=0) (by rw[AI,hn0];rfl),_,_,rfl,rfl,by rw[b5];lia,hN _ _ ⟨_,rfl,rfl,?_⟩⟩;exact one "take" 0 n0 hn0 hk0 (by decide +kernel) (by decide +kernel) (by decide +kernel)
    have hx1:xs.length≠1:=λe=>z (AR (by rw[hxm,e];rfl));refine⟨_,rfl,rfl,_,rfl,CJ ht ?_⟩;refine⟨_,rfl,_,_,rfl,rfl,by rw[B7,B7,b1];lia,_,rfl,_,rfl,_,_,rfl,rfl,_,rfl,_,rfl,_,_,rfl,rfl,_,rfl,_,_,rfl,rfl,.inl ⟨by lia,by lia⟩,_,_,rfl,rfl,_,rfl,_,_,rfl,.inl ⟨_,SqL.of ep3,rfl⟩,_,_,rfl,rfl,a,ns,_,_,rfl,hS3,hn,by lia,by lia,by rw[hxm];lia,λmm m0 m1=>?_⟩;rw[hxm]at m1
    have hm:∃jj:Nat,(jj:Int)=((ii:Int)+1+mm) % ((xs.map V.str).length:Int)/\jj<xs.length/\ii≠jj:=by
     rw[hxm];by_cases h:(ii:Int)+1+mm<xs.length
     ·refine⟨((ii:Int)+1+mm).toNat,?_,by lia,by lia⟩;rw[Int.emod_eq_of_lt (by lia) h];lia
     refine⟨((ii:Int)+1+mm-xs.length).toNat,?_,by lia,by lia⟩;rw[show(ii:Int)+1+mm=((ii:Int)+1+mm-xs.length)+xs.length by lia,Int.add_emod_right,Int.emod_eq_of_lt (by lia) (by lia)];lia
    obtain⟨jj,e,hj1,hj2⟩:=hm;have hxj:xs[jj]? = some xs[jj]:=AH hj1;have hxk2:=hx xs[jj] (BY hj1);generalize xs[jj]=nb at hxj hxk2;have an2:atI (xs.map V.str) (((ii:Int)+1+mm) % ((xs.map V.str).length:Int))=some (.str nb):=by rw[<- e];exact Az (by rw[AI,hxj];rfl)
    refine⟨_,_,rfl,rfl,_,rfl,_,_,rfl,.inl ⟨_,SqL.of ep3,rfl⟩,_,_,rfl,rfl,by rw[hxm];lia,pp,_,_,_,rfl,rfl,SqL.of ep3,an2,_,_,rfl,rfl,by rw[B7,B7,B7,b1];lia,hN _ _ ⟨_,rfl,rfl,?_⟩⟩;have b3:wd.length=3:=by rw[ht];decide +kernel
    refine⟨⟨wd,ii,jj,na,nb,hwd,hxi,hxj,λ_=>hj2,?_⟩,by rw[B7,B7,B7,B7,b1];lia,by rw[B7,B7,B7,B7,b1];lia,(((Lw.app hwl.2.2.2 lb).app hxk.2.2).app lb).app hxk2.2.2⟩;unfold C9;rw[As ht];refine⟨rfl,JR _ _,λy hy=>?_⟩;rcases(AL.mp hy)with e | e
    ·rw[e];exact hwl.2.2.1
    rcases(AL.mp e)with e | e
    ·rw[e];exact hxk.2.1
    rw[AX.mp e];exact hxk2.2.1
   refine CK ht (AN ?_);exact⟨_,rfl,rfl,_,rfl,CK ht (hN _ _ ⟨_,rfl,rfl,one wd ii na hxi hxk hwd ht hwl⟩)⟩
  rintro _ _ ⟨line,rfl,rfl,lk⟩;have hlm:(ls.map V.str).length=ls.length:=Ak ..;refine⟨_,rfl,_,rfl,l0,_,rfl,.inl (SqL.of e03),rfl,flat_strs _,_,rfl,?_⟩;rw[GC];by_cases hm:line∈ls
  ·rw[AR hm];refine AN ?_;exact⟨_,_,_,_,_,ls,rfl,s3,e03,by lia,nd,hok⟩
  rw[BC hm];refine Bb ?_;refine⟨_,rfl,.inl ⟨rfl,_,SqL.of e03⟩,_,rfl,l0,_,_,rfl,rfl,e03,by lia,?_⟩;refine⟨_,_,_,_,_,ls++[line],rfl,s3.put hl0,by rw[Ba];exact Ag,by rw[AY];show _+1<=_;lia,QC nd hm,λx hx'=>?_⟩;rcases BK.mp hx' with z | z
  ·exact hok x z
  rw[AX.mp z];exact lk
 rintro σ H2 ⟨v5,v6,v7,v8,v9,ls,rfl,s2,e2,hl,nd,hok⟩;exact⟨_,rfl,q l0 ls H2 s2 hl0 e2 (by lia) nd hok⟩
def Z8 (F:Fun K "_law_priced" "_law_priced" Kl f fd)(T:Bl mg)(C_l_pick:Ca P w K mg base CX0 1 "_law_pick" EV CI (FJ K)):FnOk P w K mg base CX0 2 f fd Ja (Pk K):=by
 refine F.oq scLPriced λcdv A outer s H vs Q E hr1 h=>?_;obtain⟨a,b,ns,k,ls,rfl,hS,hn,k0,k1,eb,few,q⟩:=h;have ae:sizeLine=16777216:=AK;have hlm:(ls.map V.str).length=ls.length:=Ak ..;refine⟨_,(Aj (FO (i:=3) scLPriced.nd rfl (ET rfl) (Aq Bc (Bk (Aa Ah (Aa (Ax T2 Ah Ah) Ac))) (A0 C_l_pick hr1 Ar (Aa (pv 0) (Aa (pv 1) (Aa Ah Ac)))) (λ_ _=>rfl))) (Ao (AA (CZ (N:=["_law_i", "_law_lines_here", "_law_script", "_law_most", "_law_k"]) (sc:=Av Kl) (own:=["_law_i"]) (fr:=["_law_lines_here", "_law_script", "_law_most", "_law_k"]) (js:=[2,0,3,1]) BX rfl (Ex (by rfl) T.range (Aa (AV Bp (by rfl) T.len A8 (Aa (pv 2) Ac)) Ac)) (λ_ _ _ _=>AZ (i:=0) (show List.Nodup (["_law_i", "_law_lines_here", "_law_script", "_law_most", "_law_k"]:List Str) by decide +kernel)) (λ_ _ _ _=>B5) (λ_ _ _ _=>(BQ (Aa (Aq (NJ K rfl) (pv 1) (pv 0) (λ_ _=>rfl)) (Aa (Ax Bm Ah (A0 C_l_pick hr1 Ar (Aa (pv 2) (Aa (Ax Bm (Ax Bm (pv 4) Ah) (pv 0)) (Aa (pv 3) Ac))))) Ac)))))))),?_⟩;refine⟨_,_,rfl,rfl,⟨by decide,by decide,by decide⟩,Bf,λl1 hl1=>?_⟩;have s1:Same H (Ab H l1 (.lst [V.int 9,V.int (10^Int.toNat 9)])):=Same.new hl1;refine⟨_,rfl,_,rfl,a,ns,_,_,rfl,s1.seq hS,hn,by lia,by lia,by decide,λj j0 j1=>?_⟩
 obtain⟨mo,hat,mo1,mo2⟩:∃mo:Int,atI [V.int 9,V.int (10^Int.toNat 9)] j=some (.int mo)/\1<=mo/\mo<=1000000000:=by
  rcases(by lia:j=0\/j=1)with e | e
  ·exact⟨9,by rw[e];exact Az (j:=0) rfl,by decide,by decide⟩
  exact⟨10^Int.toNat 9,by rw[e];exact Az (j:=1) rfl,by decide,by decide⟩
 refine⟨l1,_,_,_,rfl,rfl,SqL.of Ag,hat,?_⟩;generalize (Ab H l1 (.lst [V.int 9,V.int (10^Int.toNat 9)]))=H1 at s1 ⊢;refine⟨_,rfl,_,_,rfl,.inl ⟨_,SqL.of (s1 _ _ eb),rfl⟩,_,rfl,by lia,by lia,λD hD=>?_⟩;have hD0:=s1.free hD
 refine B8 (n:=ls.length) (λi ys H2=>∃ps:List (Str×Int),A2 (Hb H2) ys ps/\ps.map (·.1)=ls.take i/\(∀p∈ps,1<=p.2/\p.2<=1000000000)/\Same H1 H2/\H2 D=some (.lst ys))
  ⟨[],A2.nil,rfl,(λ_ h=>by cases h),Same.new hD,Ag⟩ (λi _ _ hi _=>by show i<_;rw[hlm,Co];exact hi) (λ_ _ _=>by show _<=ls.length;rw[hlm,Co];exact Au _) ?_ ?_
 ·rintro i ys H3 v H2 hi ⟨ps,ap,mp,hp,s2,e2⟩ ⟨rfl,rfl⟩;have s12:=s1.trans s2;have hli:ls[i]? = some ls[i]:=AH hi;have htk:ls.take (i+1)=ls.take i++[ls[i]]:=BF hi;generalize ls[i]=li at hli htk;refine Ce ?_;refine⟨_,rfl,_,rfl,b,_,_,_,rfl,rfl,SqL.of (s12 _ _ eb),(by rw[Ig];exact Az (by rw[AI,hli];rfl)),?_⟩;refine⟨_,rfl,_,rfl,_,_,rfl,rfl,_,rfl,_,_,rfl,rfl,_,rfl,a,ns,_,_,rfl,s12.seq hS,hn,by lia,by lia,by lia,λz z0 z1=>?_⟩;refine⟨_,_,rfl,rfl,Bf,λt ht=>?_⟩;have s5:Same H2 (Ab H2 t (.tup [.str li,.int (1+z)])):=Same.new ht;have hyl:=ap.len;have hpl:ps.length=i:=by have:=BJ List.length mp;rw[Ak,Bu]at this;lia
  refine⟨ys,s5 _ _ e2,by lia,ps++[(li,1+z)],?_,by rw[Ba,mp,htk];rfl,λp hp'=>?_,(s2.trans s5).put hD,Ag⟩
  ·have kp:∀c zs,(Ab H2 t (.tup [.str li,.int (1+z)])) c=some (.tup zs)->(Ab (Ab H2 t (.tup [.str li,.int (1+z)])) D (.lst (ys++[V.ref t]))) c=some (.tup zs):=λc zs e=>by rw[Ai (A7 e (s5 _ _ e2) (by intro z;cases z))];exact e
   exact A2.app (ap.mono λv t _ hp0=>by obtain⟨x,h1,h2⟩:=hp0;exact⟨x,h1,kp _ _ (s5 _ _ h2)⟩) (A2.one ⟨t,rfl,kp _ _ Ag⟩)
  rcases BK.mp hp' with h | h
  ·exact hp p h
  rw[AX.mp h];exact⟨by show 1<=1+z;lia,by show 1+z<=_;lia⟩
 rintro ys H2 ⟨ps,ap,mp,hp,s2,e2⟩;rw[BP]at mp;exact q D ys ps H2 (s1.trans s2) hD0 e2 ap mp hp
def Z5 (F:Fun K "_law_told_worlds" "_law_told_worlds" Kj f fd)(T:Bl mg)(C_l_pick:Ca P w K mg base CX0 1 "_law_pick" EV CI (FJ K))(C_l_world:Ca P w K mg base CX0 2 "_law_world" ID Qt (OW K)):FnOk P w K mg base CX0 3 f fd IZ (Ph K):=by
 refine F.oq scLToldWorlds λcdv A outer s H vs Q E hr2 h=>?_;obtain⟨a,r,ns,rs,rfl,hS,hn,R,p1,q⟩:=h;have hr1:Room 1 _:=hr2.mono (by decide);have ae:sizeLine=16777216:=AK;refine⟨_,(Aj (FP (i:=2) (N:=["_law_k", "_law_script", "_law_drawn"]) (sc:=Av Kj) (own:=["_law_k"]) (fr:=["_law_script", "_law_drawn"]) (js:=[0,1]) scLToldWorlds.nd rfl rfl BX rfl (Ex (by rfl) T.range (Aa (Ax Bm Ah (A0 C_l_pick hr1 Ar (Aa (pv 0) (Aa Ah (Aa Ah Ac))))) Ac)) (λ_ _ _ _=>AZ (i:=0) (show List.Nodup (["_law_k", "_law_script", "_law_drawn"]:List Str) by decide +kernel)) (λ_ _ _ _=>B5) (λ_ _ _ _=>(A0 C_l_world hr2 Ar (Aa (pv 1) (Aa (Ax Bm Ah (Ax Fm Ah (pv 0))) (Aa (pv 2) Ac)))))) (Ao (AA (Ax Jo (pv 2) (Dk IB (pv 2) Di (Dh (A0 C_l_pick hr1 Ar (Aa (pv 0) (Aa Ah (Aa Ah Ac)))))))))),?_⟩;refine⟨_,rfl,a,ns,_,_,rfl,hS,hn,by decide,by decide,by decide,λj j0 j1=>?_⟩;refine⟨_,_,rfl,rfl,_,rfl,by lia,by lia,λD hD=>?_⟩
 refine B8 (n:=(1+j).toNat) (λi ys H2=>∃Ws:List Wl,RdVs H2 ys (Ws.map dW)/\Ws.length=i/\(∀W∈Ws,Cf rs W)/\Same H H2/\H2 D=some (.lst ys))
  ⟨[],.nil,rfl,(λ_ h=>by cases h),Same.new hD,Ag⟩ (λi _ _ hi _=>by show i<_;lia) (λ_ _ _=>by show _<=_;lia) ?_ ?_
 ·rintro i ys H2 v H3 hi ⟨Ws,rd,wl,hW,s2,e2⟩ ⟨rfl,rfl⟩;refine Ce ?_;refine⟨_,rfl,_,rfl,_,_,rfl,rfl,.inl ⟨by lia,by lia⟩,_,_,rfl,rfl,_,rfl,a,ns,_,r,rs,rfl,s2.seq hS,hn,by lia,by lia,R.same s2,p1,λv W H4 s4 rv sz fw=>?_⟩;have hyl:ys.length=i:=by rw[rd.length,Ak,wl]
  refine⟨ys,s4 _ _ e2,by lia,Ws++[W],?_,by rw[AY,wl];rfl,λZ hZ=>?_,(s2.trans s4).put hD,Ag⟩
  ·have kp:∀c xs,H4 c=some (.tup xs)->(Ab H4 D (.lst (ys++[v]))) c=some (.tup xs):=λc xs e=>by rw[Ai (A7 e (s4 _ _ e2) (by intro z;cases z))];exact e
   rw[Ba];exact((s4.rds rd).same kp).append (.cons (rv.same kp) .nil)
  rcases(BK.mp hZ)with h | h
  ·exact hW Z h
  rw[AX.mp h];exact⟨fw,sz⟩
 rintro ys H2 ⟨Ws,rd,wl,hW,s2,e2⟩;have hyl:ys.length=(1+j).toNat:=by rw[rd.length,Ak,wl]
 refine⟨_,rfl,_,rfl,_,rfl,a,ns,_,_,rfl,s2.seq hS,hn,by decide,by decide,by decide,λz z0 z1=>?_⟩;obtain⟨zn,rfl⟩:∃n:Nat,(n:Int)=z:=⟨z.toNat,En z0⟩;refine⟨_,rfl,D,ys,rfl,SqL.of e2,λc hc=>?_⟩;rw[Vu];have s3:Same H2 (Ab H2 c (.lst (ys.take zn))):=Same.new hc;refine⟨D,c,_,_,rfl,rfl,s3 _ _ e2,Ag,by rw[Bu];lia,λl hl=>?_⟩;have s4:Same (Ab H2 c (.lst (ys.take zn))) (Ab (Ab H2 c (.lst (ys.take zn))) l (.lst (ys++ys.take zn))):=Same.new hl;have s24:=s3.trans s4;refine q l (ys++ys.take zn) (Ws++Ws.take zn) _ (s2.trans s24) ((s2.trans s3).free hl) Ag ?_ ?_ ?_ ?_
 ·rw[Ba,DH];exact(s24.rds rd).append ((s24.rds rd).take zn)
 ·intro e;have:=BJ List.length e;rw[AY,wl]at this;have h0:([]:List Wl).length=0:=rfl;lia
 ·rw[AY,Bu,wl];lia
 intro W hW';rcases BK.mp hW' with h | h
 ·exact hW W h
 exact hW W (G8 h)
def B2 (L:List Wl):List (PyData×V):=L.map λW=>(dW W,V.bl true)
def NF :(Ay (B2 L) (dW W)).isSome=decide (W∈L):=by
 rw[<- Fe];by_cases h:W∈L
 ·rw[AR h,Ie];exact⟨(dW W,V.bl true),Bi.mpr ⟨W,h,rfl⟩,AR rfl⟩
 rw[BC h,any_eq_false];intro x hx e;obtain⟨Z,hZ,rfl⟩:=Bi.mp hx;exact h (by rw[<- Q3 (A4 e)];exact hZ)
def Uz :BL (B2 L) (dW W) (V.bl true)=B2 (if W∈L then L else L++[W]):=by
 unfold BL;rw[Fe,NF];by_cases h:W∈L
 ·rw[As (AR h),As h];unfold B2;rw[By];refine map_congr_left λZ _=>?_;show(if dW Z=dW W then(dW Z,V.bl true)else(dW Z,V.bl true))=_;split <;> rfl
 rw[Am (λz=>h (A4 z)),Am h];unfold B2;rw[Ba];rfl
def NG (L:List Wl):(B2 L).length=L.length:=Ak ..
def nW (L A:List Wl)(W:Wl):A3 L (A++[W])=if W∈A3 L A then A3 L A else A3 L A++[W]:=by rw[Ls];rfl
def U5 (A B:List Wl):PyData.eqv (.list (A.map dW)) (.list (B.map dW))=decide (A=B):=by rw[PyData.eqv,Lk U6]
def Fv (q:Str×Int):PyData:=.tuple [.str q.1,.int q.2]
def HY (Ws:List Wl)(ps:List (Str×Int)):PyData:=.list [.list (Ws.map dW),.list (ps.map Fv),.list []]
def lI (a b:Str×Int):PyData.eqv (Fv a) (Fv b)=decide (a=b):=by unfold Fv;rw[PyData.eqv,PyData.eqvAll,PyData.eqvAll,PyData.eqvAll,Lj];obtain⟨a1,a2⟩:=a;obtain⟨b1,b2⟩:=b;simp[PyData.eqv,Prod.mk.injEq];rfl
def lO (Ws:List Wl)(ps:List (Str×Int)):PyData.eqv (HY Ws ps) (HY Ws ps)=true:=by unfold HY;rw[PyData.eqv,PyData.eqvAll,PyData.eqvAll,PyData.eqvAll,PyData.eqvAll,U5,PyData.eqv,Lk lI,PyData.eqv,PyData.eqvAll];simp
theorem OO :∀{us:List V}{ps:List (Str×Int)},A2 (Hb H) us ps->RdVs H us (ps.map Fv)
 | [],[],_=>.nil
 | [],_::_,h=>by cases h.len
 | _::_,[],h=>by cases h.len
 | v::us,p::ps,h=>by obtain⟨a,rfl,e⟩:=h.got 0 v p rfl rfl;exact .cons (.tup e (.cons (.str _) (.cons (.int _) .nil))) (OO ⟨Nat.succ.inj h.len,λi v t hv ht=>h.got (i+1) v t hv ht⟩)
def S8 (q:Str×Int):(strOk q.1=true->(Fv q).canLay0=true)/\(Fv q).depth<=1:=by
 unfold Fv;constructor
 ·intro h;simp[PyData.canLay0,PyData.canLayAll0,h]
 simp[PyData.depth,PyData.depthAll]
def XC (h:∀W∈Ws,Ok W)(hp:∀q∈ps,strOk q.1=true):shaped (HY Ws ps)=true:=by
 have h1:=HX (g:=dW) (n:=3) (xs:=Ws) λW _=>Vj W;have h2:=HX (g:=Fv) (n:=1) (xs:=ps) λq _=>(S8 q).2;have l1:PyData.canLayAll0 (Ws.map dW)=true:=GB λW hW=>GM (Ka (h W hW));have l2:PyData.canLayAll0 (ps.map Fv)=true:=GB λq hq=>(S8 q).1 (hp q hq);unfold HY;refine Mv ?_ ?_
 ·simp[PyData.canLay0,PyData.canLayAll0,l1,l2]
 simp only[PyData.depth,PyData.depthAll];lia
def A2.un {α β:Type}{R:V->α->Prop}{vs:List V}{f:β->α}{ts:List β}(h:A2 R vs (ts.map f)):A2 (λv t=>R v (f t)) vs ts:=⟨by rw[h.len,Ak],λi v t hv ht=>h.got i v _ hv (by rw[AI,ht];rfl)⟩
theorem SD :∀{ps:List (Str×Int)},(∀p∈ps,L0 ((plc rs).map (·.1)) p.1)->∃Ps:List (C8×Int),Ps.map (λq=>(q.1.line,q.2))=ps/\∀q∈Ps,FI rs q.1
 | [],_=>⟨[],rfl,λ_ h=>by cases h⟩
 | p::ps,h=>by
  obtain⟨Ps,e,ok⟩:=SD (rs:=rs) (ps:=ps) λx hx=>h x (A6 _ hx);have lo:=h p Bj;obtain⟨wd,i,j,na,nb,hw,hi,hj,ht,w⟩:=lo.ex;rw[AI,JN]at hi hj;obtain⟨pi,hi,rfl⟩:=hi;obtain⟨pj,hj,rfl⟩:=hj;refine⟨((⟨p.1,wd,i,j,pi,pj⟩:C8),p.2)::Ps,by rw[A9,e],λq hq=>?_⟩;rcases(AL.mp hq)with z | z
  ·rw[z];exact⟨w,Eb lo.l2 (by decide),hi,hj,ht,hw⟩
  exact ok q z
def UU (x d y:Addr){m:Str}(h1:¬m = "made_chart")(h2:¬m = "numbers")(h3:¬m = "told_room"):(g3 x d y).lookup m=none:=by unfold g3 g2 g1;rw[Cd,Am h1,Cd,Am h2,Cd,Am h3];rfl
def AtAt.same (h:AtAt C CT H z rs L)(s:Same H H'):AtAt C CT H' z rs L:=by obtain⟨dz,x,d,y,h1,h2,h3⟩:=h.ex;exact⟨dz,x,d,y,s _ _ h1,h2.same s,Hu s h3⟩
abbrev Ct (Ps:List (C8×Int))(W:Wl):List Wl:=Ps.flatMap λq=>Cq q.1 W
def jL (n:Nat):Fs (V.bl false) ((replicate n true).map V.bl)=false:=by
 induction n with
 | zero=>rfl
 | succ n ih=>rw[JT,A9];show(ED (.bl true) (.bl false) || Fs (.bl false) ((replicate n true).map V.bl))=false;rw[ih];rfl
def aV (F:Fun K "law" "law" Hl f fd)(T:Bl mg)(L:Cl K C)(LT:L7 K CT)
  (D_l_small:Df K mg "_law_small" Hm I0 fS dS)(D_l_room:Df K mg "_law_room" Gk Nh fR dR)(D_l_told_worlds:Df K mg "_law_told_worlds" Kj IZ fW dV)(D_l_lines:Df K mg "_law_lines" Hn Jd fL dL)(D_l_priced:Df K mg "_law_priced" Kl Ja fP dP)(D_l_first_ones:Df K mg "_law_first_ones" MV Jg fF dF)(D_l_same:Df K mg "_law_same" Mz ["_law_told", "_law_world_here"] fE dE)(D_l_next:Df K mg "_law_next" MO Jb fN dN)
  (MR:L2.Mk K C fI)(mR:mg "Room" = some (.ref C))(bR:Binds K dI ["self", "lines"] [])(GRi:FnOk P w K mg base CX0 4 fI dI ["self", "lines"] (Pz C))(MT:L2.Mk K CT fT)(mT:mg "Atlas" = some (.ref CT))(bT:Binds K dT Jm [])(GTi:FnOk P w K mg base CX0 10 fT dT Jm (Px C CT))
  (b_worlds:Binds K dw ["self"] [])(m_worlds:Dr K CT "worlds" fw)(G_worlds:FnOk P w K mg base CX0 1 fw dw ["self"] (OV C CT))(b_room:Binds K dr0 ["self"] [])(m_room:Dr K CT "room" fr)(G_room:FnOk P w K mg base CX0 1 fr dr0 ["self"] (OZ C CT))(b_places:Binds K dp ["self"] [])(m_places:Dr K C "places" fp)(G_places:FnOk P w K mg base CX0 1 fp dp ["self"] (Gi C))
  (G_l_small:FnOk P w K mg base CX0 2 fS dS I0 (Pj K))(G_l_room:FnOk P w K mg base CX0 3 fR dR Nh (O0 K))(G_l_told_worlds:FnOk P w K mg base CX0 3 fW dV IZ (Ph K))(G_l_lines:FnOk P w K mg base CX0 2 fL dL Jd (Pn K))(G_l_priced:FnOk P w K mg base CX0 2 fP dP Ja (Pk K))(G_l_first_ones:FnOk P w K mg base CX0 1 fF dF Jg Pr)(G_l_same:FnOk P w K mg base CX0 1 fE dE ["_law_told", "_law_world_here"] OY)(G_l_next:FnOk P w K mg base CX0 5 fN dN Jb Pl):FnOk P w K mg base CX0 12 f fd Qv (J8 K):=by
 refine F.oq scLaw λcdv A outer s H vs Q E hr11 h=>?_
 obtain⟨a,ns,rfl,hS,hn,q⟩:=h
 have hr1:Room 1 _:=hr11.mono (by decide)
 have hr2:Room 2 _:=hr11.mono (by decide)
 have hr3:Room 3 _:=hr11.mono (by decide)
 have hr5:Room 5 _:=hr11.mono (by decide)
 have af:=hr11.units
 have hu:=CL hr11
 have ae:sizeLine=16777216:=AK
 refine⟨_,(Aj (Y1 (AW G_l_small hr2 (by rfl) D_l_small.m D_l_small.F.kp D_l_small.b .nil Ar (Aa (pv 0) Ac)) (Gv rfl (Dj (AZ (i:=1) scLaw.nd) (Dj (AZ (i:=2) scLaw.nd) Gu)))) (Aj (AB (i:=3) scLaw.nd (AW G_l_room hr3 (by rfl) D_l_room.m D_l_room.F.kp D_l_room.b .nil Ar (Aa (pv 0) (Aa (pv 1) (Aa (pv 2) Ac))))) (Aj (AB (i:=4) scLaw.nd (AW G_l_told_worlds hr3 (by rfl) D_l_told_worlds.m D_l_told_worlds.F.kp D_l_told_worlds.b .nil Ar (Aa (pv 0) (Aa (pv 3) Ac)))) (Aj (AB (i:=5) scLaw.nd (AW G_l_priced hr2 (by rfl) D_l_priced.m D_l_priced.F.kp D_l_priced.b .nil Ar (Aa (pv 0) (Aa Ah (Aa (AW G_l_lines hr2 (by rfl) D_l_lines.m D_l_lines.F.kp D_l_lines.b .nil Ar (Aa (pv 0) (Aa Ah (Aa (B6 hu (pv 3) AE (λ_ _=>rfl)) (Aa Ah Ac))))) Ac))))) (Aj (AB (i:=6) scLaw.nd (Bk (Aa (BW Fz (by rfl) T.list DV (Aa (pv 4) Ac)) (Aa (BW Fz (by rfl) T.list DV (Aa (pv 5) Ac)) (Aa (Bk Ac) Ac))))) (Aj (AB (i:=7) scLaw.nd (Qo MT GTi hr11 (by rfl) mT bT .nil Ar (Aa (Qo MR GRi hr5 (by rfl) mR bR .nil Ar (Aa (BW Fz (by rfl) T.list DV (Aa (B6 hu (pv 3) AE (λ_ _=>rfl)) Ac)) Ac)) (Aa (Aq Bc (pv 6) Ah (λ_ _=>rfl)) (Aa (Aq Bc (pv 6) Ah (λ_ _=>rfl)) (Aa (Aq Bc (pv 6) Ah (λ_ _=>rfl)) Ac)))))) (Aj (AQ (AC (Zr af) (pv 6) (Bk (Aa (pv 4) (Aa (pv 5) (Aa (Bk Ac) Ac)))) (AD _)) (Ao (AA Eh)) AS) (Aj (AB (i:=8) scLaw.nd (Gw (pv 7) LT.cl m_worlds G_worlds hr1 b_worlds .nil Ar)) (Aj (AB (i:=9) scLaw.nd (AW G_l_first_ones hr1 (by rfl) D_l_first_ones.m D_l_first_ones.F.kp D_l_first_ones.b .nil Ar (Aa (pv 4) Ac))) (Aj (AQ (PW.pt (CD (CY (Cs (AV nK (by rfl) T.isi Ln (Aa (pv 8) (Aa (KC (v:=.ty "list") (by rfl) T.list DV rfl) Ac))))) (DU (AC (T5 af) (Dk IB (pv 8) Di (Dh (AV Bp (by rfl) T.len A8 (Aa (pv 9) Ac)))) (pv 9) (AD _))))) (Ao (AA Eh)) AS) (Aj (FO (i:=10) scLaw.nd rfl (ET rfl) Qr) (Aj (AB (i:=11) scLaw.nd Qr) (Aj (BU BS rfl (Ex (by rfl) T.range (Aa (AV Bp (by rfl) T.len A8 (Aa (pv 8) Ac)) Ac)) (AZ (i:=12) scLaw.nd) (Aj (AQ (PW.pt (CD (CY (Cs (AW G_l_same hr1 (by rfl) D_l_same.m D_l_same.F.kp D_l_same.b .nil Ar (Aa (Aq Bc (pv 8) (pv 12) (λ_ _=>rfl)) (Aa (Aq Bc (pv 8) (pv 12) (λ_ _=>rfl)) Ac))))) (DU (FM (KE hu (Aq Bc (pv 8) (pv 12) (λ_ _=>rfl)) (pv 10)))))) (Ao (AA Eh)) AS) (Aj (AQ (PW.pt (Cg (AC Zw (pv 12) (AV Bp (by rfl) T.len A8 (Aa (pv 9) Ac)) (AD _)) (Ef (FM (Ng hu (Aq Bc (pv 8) (pv 12) (λ_ _=>rfl)) (pv 11)))))) (Ao (AA Eh)) AS) (Aj (Dg hu (pv 10) (Aq Bc (pv 8) (pv 12) (λ_ _=>rfl)) Eh rfl) (Ao (BU BS rfl (BM (AW G_l_next hr5 (by rfl) D_l_next.m D_l_next.F.kp D_l_next.b .nil Ar (Aa (pv 3) (Aa (pv 5) (Aa (Aq Bc (pv 8) (pv 12) (λ_ _=>rfl)) Ac))))) (AZ (i:=13) scLaw.nd) (Ao (Dg hu (pv 11) (pv 13) Eh rfl)))))))) (Ao (AA (IQ (Fl T4 Eh (CZ (N:=["_law_world_here", "_law_known"]) (sc:=Av Hl) (own:=["_law_world_here"]) (fr:=["_law_known"]) (js:=[10]) BX rfl (TM (pv 11)) (λ_ _ _ _=>AZ (i:=0) (show List.Nodup (["_law_world_here", "_law_known"]:List Str) by decide +kernel)) (λ_ _ _ _=>B5) (λ_ _ _ _=>(Zk (KE hu (pv 0) (pv 1))))) (by rfl)) (IP (Fl (Zy af) (Gw (Gw (pv 7) LT.cl m_room G_room hr1 b_room .nil Ar) L.cl m_places G_places hr1 b_places .nil Ar) (B6 hu (pv 3) AE (λ_ _=>rfl)) (AD _))))))))))))))))))),?_⟩
 refine⟨_,rfl,a,ns,rfl,hS,hn,λt p m H1 s1 e1 hpm=>?_⟩
 have hpb:1<=p/\p<=3/\m<=3:=by
  have h:∀q∈smallS,1<=q.1/\q.1<=3/\q.2<=3:=by decide
  exact h _ hpm
 refine⟨t,_,rfl,SqT.of e1,rfl,_,_,rfl,_,_,rfl,rfl,?_⟩
 refine⟨_,rfl,_,rfl,_,rfl,a,ns,_,_,rfl,s1.seq hS,hn,by lia,by lia,by lia,by lia,λdr rs H2 s2 R hpl htl hrl=>?_⟩
 have s12:=s1.trans s2
 have g:=R.good
 have bnd:=nM g (by rw[show(plc rs).length=p by lia,show(ths rs).length=m by lia];exact hpm)
 refine⟨_,rfl,_,rfl,a,dr,ns,rs,rfl,s12.seq hS,hn,R,by lia,λlS us Ws H3 s3 hlS eS rdS neS fewS rwS=>?_⟩
 have s13:=s12.trans s3
 have R3:=R.same s3
 have hnm:((plc rs).map (·.1)).length=(plc rs).length:=Ak ..
 obtain⟨kvs,L3,pp,pt,d1,d2,d3,D,k1,k2,k3,k4,k5,k6,k7,g1,g2,g3,g4,g5,g6,g7⟩:=R3.ex
 refine⟨_,rfl,_,rfl,_,rfl,dr,_,rfl,B9 k1 k2,a,pp,ns,_,_,_,rfl,s13.seq hS,hn,by decide,by decide,by decide,by decide,g1,by rw[hnm];lia,by rw[hnm];lia,λx hx=>?_,λlL ls H4 s4 hlL eL mL ndL okL=>?_⟩
 ·obtain⟨y,hy,rfl⟩:=Bi.mp hx;have nv:=QP g (FY hx);exact⟨nv.len,λz=>(by have:=nv.low _ z;lia),λc hc=>(by have:=nv.low c hc;lia)⟩
 have s34:=s3.trans s4
 refine⟨a,lL,ns,_,ls,rfl,(s13.trans s4).seq hS,hn,by decide,by decide,eL,by lia,λlD usD ps H5 s5 hlD eD tpD mpD prD=>?_⟩
 have s35:=s4.trans s5
 obtain⟨Ps,ePs,okP⟩:=SD (rs:=rs) (ps:=ps) λp hp=>okL p.1 (by rw[<- mpD];exact Cy hp)
 have hPl:Ps.length=ls.length:=by rw[<- mpD,<- ePs,Ak,Ak]
 have tok:OF rs Ps:=⟨okP,λq hq=>by
   have hq':(q.1.line,q.2)∈ps:=by rw[<- ePs];exact Cy (f:=λq:C8×Int=>(q.1.line,q.2)) hq
   have lo:=okL q.1.line (by rw[<- mpD];exact Cy (f:=λx:Str×Int=>x.1) hq');have pr:=prD _ hq';exact⟨lo.l1,lo.l2,pr.1,pr.2⟩,by lia,by
   have:(Ps.map λq=>q.1.line)=ls:=by rw[<- mpD,<- ePs,By];rfl
   rw[this];exact ndL⟩
 refine⟨_,rfl,lS,_,rfl,.inl (SqL.of (s35 _ _ eS)),λl1 hl1=>?_⟩
 obtain⟨H6,g0,s6,e6⟩:=BD (H:=H5) (o:=.lst us) hl1
 rw[g0]
 refine⟨_,rfl,lD,_,rfl,.inl (SqL.of (s6 _ _ eD)),λl2 hl2=>?_⟩
 obtain⟨H7,g0,s7,e7⟩:=BD (H:=H6) (o:=.lst usD) hl2
 rw[g0]
 refine⟨Bf,λl3 hl3=>?_⟩
 obtain⟨H8,g0,s8,e8⟩:=BD (H:=H7) (o:=.lst []) hl3
 rw[g0]
 refine⟨Bf,λlh hlh=>?_⟩
 obtain⟨H9,g0,s9,e9⟩:=BD (H:=H8) (o:=.lst [.ref l1,.ref l2,.ref l3]) hlh
 rw[g0]
 have s59:=((s6.trans s7).trans s8).trans s9
 have s39:=s35.trans s59
 have e19:=((s7.trans s8).trans s9) _ _ e6
 have e29:=(s8.trans s9) _ _ e7
 have e39:=s9 _ _ e8
 refine⟨_,rfl,dr,_,rfl,B9 (s39 _ _ k1) k7,D,_,rfl,.inl (SqL.of (s39 _ _ g6)),λl4 hl4=>?_⟩
 obtain⟨H10,g0,s10,e10⟩:=BD (H:=H9) (o:=.lst ((rs.map Ro.txt).map V.str)) hl4
 rw[g0]
 intro x dx nx ndx nex
 have t4:Same H10 (Ab (Ab H10 dx (.own x)) x (.ins C dx [])):=λb o e=>by rw[Ai (AF e nx),Ai (AF e ndx)];exact e
 refine⟨x,dx,l4,rs,rfl,Ag,t4 _ _ e10,g,hrl,λH11 kp RA=>⟨rfl,?_⟩⟩
 have s11:Same H10 H11:=λb o e=>kp b o (t4 _ _ e) (AF e nx)
 have s911:=s10.trans s11
 refine⟨_,rfl,lh,_,_,_,rfl,rfl,SqL.of (s911 _ _ e9),Az (j:=0) rfl,?_⟩
 refine⟨_,rfl,lh,_,_,_,rfl,rfl,SqL.of (s911 _ _ e9),Az (j:=1) rfl,?_⟩
 refine⟨_,rfl,lh,_,_,_,rfl,rfl,SqL.of (s911 _ _ e9),Az (j:=2) rfl,?_⟩
 intro z dz nz ndz nez
 have t5:Same H11 (Ab (Ab H11 dz (.own z)) z (.ins CT dz [])):=λb o e=>by rw[Ai (AF e nz),Ai (AF e ndz)];exact e
 have okR:∀{W:Wl},Cf rs W->Ok W:=λr=>r.1.ok g r.2
 have s5t:=(s59.trans s911).trans t5
 have s3t:=s35.trans s5t
 refine⟨z,dz,x,l1,l2,l3,rs,Ws,Ps,us,usD,rfl,Ag,RA.same t5,g,t5 _ _ (s911 _ _ e19),s3t.rds rdS,neS,rwS,t5 _ _ (s911 _ _ e29),?_,tok,t5 _ _ (s911 _ _ e39),bnd,λM H12 k12 AT na=>⟨rfl,?_⟩⟩
 ·have h1:A2 (Hb (Ab (Ab H11 dz (.own z)) z (.ins CT dz []))) usD ps:=tpD.mono λv t _ hp0=>by obtain⟨x,h1,h2⟩:=hp0;exact⟨x,h1,s5t _ _ h2⟩
  rw[<- ePs]at h1;exact h1.un
 have s12':Same H11 H12:=λb o e=>k12 b o (t5 _ _ e) (AF e nz)
 have s912:=s911.trans s12'
 have s512:=s59.trans s912
 have s312:=s35.trans s512
 clear t5 s5t s3t t4 kp k12 nx ndx nex nz ndz nez
 refine⟨_,rfl,_,rfl,_,rfl,Bf,λl5 hl5=>?_⟩
 obtain⟨H13,g0,s13',e13⟩:=BD (H:=H12) (o:=.lst []) hl5
 rw[g0]
 refine⟨Bf,λl6 hl6=>?_⟩
 have s14':Same H13 (Ab H13 l6 (.lst [.ref lS,.ref lD,.ref l5])):=Same.new hl6
 have e14:(Ab H13 l6 (.lst [.ref lS,.ref lD,.ref l5])) l6=some (.lst [.ref lS,.ref lD,.ref l5]):=Ag
 have s14:=s13'.trans s14'
 generalize (Ab H13 l6 (.lst [.ref lS,.ref lD,.ref l5]))=H14 at s14 s14' e14 ⊢
 have rd14:=(s312.trans s14).rds rdS
 have tp14:A2 (Hb H14) usD ps:=tpD.mono λv t _ ⟨x,h1,h2⟩=>⟨x,h1,(s512.trans s14) _ _ h2⟩
 have sh:=XC (Ws:=Ws) (ps:=ps) (λW hW=>okR (rwS W hW)) λq hq=>(okL q.1 (by rw[<- mpD];exact Cy (f:=λx:Str×Int=>x.1) hq)).lw.ok
 refine⟨HY Ws ps,HY Ws ps,RdW.lst ((s912.trans s14) _ _ e9) (.cons (.lst ((s912.trans s14) _ _ e19) (RdWs.of rd14)) (.cons (.lst ((s912.trans s14) _ _ e29) (RdWs.of (OO tp14))) (.cons (.lst ((s912.trans s14) _ _ e39) .nil) .nil))),RdW.lst e14 (.cons (.lst ((s312.trans s14) _ _ eS) (RdWs.of rd14)) (.cons (.lst ((s512.trans s14) _ _ eD) (RdWs.of (OO tp14))) (.cons (.lst (s14' _ _ e13) .nil) .nil))),sh,sh,_,rfl,?_⟩
 rw[lO]
 refine AN ?_
 unfold OR
 have s314:=s312.trans s14
 have td14:A2 (Hc H14) usD Ps:=by rw[<- ePs]at tp14;exact tp14.un
 have R14:=R3.same s314
 have eS14:=s314 _ _ eS
 have eD14:=(s512.trans s14) _ _ eD
 have AT14:=AT.same s14
 clear s14' e13 e14 sh tp14 e9 e19 e29 e39 e6 e7 e8 eS eD AT
 clear s6 s7 s8 s9 s10 s11 s12' s13' s59 s39 s911 s912 s512 s312 s14 s314
 obtain⟨az,ax,ad,ay,hz,ra,had⟩:=AT14.ex
 refine⟨_,rfl,z,az,_,rfl,hz,UU ax ad ay (by decide +kernel) (by decide +kernel) (by decide +kernel),z,rs,M,rfl,AT14,λlt ut H15 s15 hlt et rdt=>?_⟩
 have hut:ut.length=M.length:=by rw[rdt.length,Ak]
 refine⟨_,rfl,lS,us,Ws,rfl,s15 _ _ eS14,s15.rds rd14,λW hW=>okR (rwS W hW),by lia,λlf uf H16 s16 hlf ef rdf=>?_⟩
 have huf:uf.length=(A3 [] Ws).length:=by rw[rdf.length,Ak]
 obtain⟨mt,hmt⟩:=na.pre
 have htk:M.take uf.length=A3 [] Ws:=by rw[hmt,huf,N9]
 have okM:∀{W:Wl},W∈M->Ok W:=λh=>okR (na.rw' _ h)
 have et16:=s16 _ _ et
 have rdt16:=s16.rds rdt
 refine⟨_,rfl,lt,ut,rfl,et16,_,rfl,AN ?_⟩
 refine⟨_,rfl,_,rfl,_,_,rfl,.inl ⟨_,SqL.of ef,rfl⟩,_,rfl,lt,ut,rfl,SqL.of et16,λlc hlc=>?_⟩
 rw[Vu]
 obtain⟨H17,g0,s17,e17⟩:=BD (H:=H16) (o:=.lst (ut.take uf.length)) hlc
 rw[g0]
 have rdc:RdVs H17 (ut.take uf.length) ((A3 [] Ws).map dW):=by have:=(s17.rds rdt16).take uf.length;rw[<- DH,htk]at this;exact this
 have okF:∀W∈A3 [] Ws,Ok W:=λW hW=>okM (by rw[hmt];exact JO _ hW)
 refine⟨_,rfl,lc,lf,_,_,_,_,rfl,rfl,e17,s17 _ _ ef,rdc,s17.rds rdf,PV okF,PV okF,_,rfl,?_⟩
 rw[U5,AR rfl]
 refine AN ?_
 dsimp only
 have s47:=(s15.trans s16).trans s17
 have et17:=s17 _ _ et16
 have rdt17:=s17.rds rdt16
 have ef17:=s17 _ _ ef
 have R17:=R14.same s47
 have eD17:=s47 _ _ eD14
 have td17:A2 (Hc H17) usD Ps:=td14.mono λv t _ ⟨x,h1,h2⟩=>⟨x,h1,s47 _ _ h2⟩
 have AT17:=AT14.same s47
 clear e17 rdc hz ra had s15 s16 s17 s47
 have ndM:=na.nd
 have lM:=bnd _ na.nd na.rw'
 have hPf:Ps.length<=40:=tok.few
 have clo:∀W∈M,∀Z∈Ct Ps W,Z∈M:=λW hW Z hZ=>by obtain⟨j,hj⟩:=G9 hW;obtain⟨q',hq',hz'⟩:=EM.mp hZ;exact na.clo j W (AG.mp hj).1 hj q'.1 (Cy hq') Z hz'
 have few:∀A:List Wl,(∀W∈A,W∈M)->(A3 [] A).length<=200:=λA hA=>by
  have:=Nt (Lr (L:=[]) (A:=A) GS) (N:=M) λW hW=>by
   rcases addN_mem.mp hW with z | z
   ·cases z
   exact hA W z
  lia
 intro dk hdk
 have s18:Same H17 (Ab H17 dk (.dT [])):=Same.new hdk
 have e18:(Ab H17 dk (.dT [])) dk=some (.dT (B2 [])):=Ag
 generalize (Ab H17 dk (.dT []))=H18 at s18 e18 ⊢
 intro de hde
 have s19:Same H18 (Ab H18 de (.dT [])):=Same.new hde
 have e19:(Ab H18 de (.dT [])) de=some (.dT (B2 (A3 [] []))):=Ag
 have hde0:=s18.free hde
 have hkd:dk≠de:=AF e18 hde
 generalize (Ab H18 de (.dT []))=H19 at s19 e19 ⊢
 refine⟨_,rfl,_,_,rfl,.inl ⟨_,SqL.of (s19 _ _ (s18 _ _ et17)),rfl⟩,_,rfl,by lia,by lia,HV (n:=ut.length) (λk σ H2=>∃(v12 v13:Option V),σ = [some (.ref a),some (.int (p:Int)),some (.int (m:Int)),some (.ref dr),some (.ref lS),some (.ref lD),some (.ref lh),some (.ref z),some (.ref lt),some (.ref lf),some (.ref dk),some (.ref de),v12,v13]/\Same H17 H2/\H2 dk=some (.dT (B2 (M.take k)))/\H2 de=some (.dT (B2 (A3 [] ((M.take k).flatMap (Ct Ps)))))) ⟨none,none,rfl,s18.trans s19,s19 _ _ e18,e19⟩ ?_ ?_⟩
 ·rintro k σ H2 hk ⟨v12,v13,rfl,s2,ek,ee⟩;have hkM:k<M.length:=by lia
  have hy:ut[k]? = some ut[k]:=AH hk;generalize ut[k]=y at hy;obtain⟨dd,hdd,rdv⟩:=(s2.rds rdt17).get hy;have hMk:M[k]? = some M[k]:=AH hkM;rw[AI,hMk]at hdd;cases hdd;have htk1:M.take (k+1)=M.take k++[M[k]]:=BF hkM;have hWM:M[k]∈M:=BY hkM;have hnot:M[k]∉M.take k:=λh=>by have h2:=ndM;rw[<- DG (k+1) M,htk1]at h2;have h3:=(Cw.mp h2).1;exact(Cw.mp h3).2.2 _ h _ Bj rfl
  generalize M[k]=W at rdv hMk htk1 hWM hnot;have okW:=okM hWM;obtain⟨b,rfl,rt⟩:=Nc rdv okW;have hat:atI ut (0+(k:Int))=some (.ref b):=by rw[Ig];exact Az hy
  have et2:=s2 _ _ et17;dsimp only;refine⟨_,rfl,_,rfl,lt,_,_,_,rfl,rfl,SqL.of et2,hat,_,rfl,_,rfl,lt,_,_,_,rfl,rfl,SqL.of et2,hat,_,_,W,rfl,rdv,rdv,okW,λH3 s3=>?_⟩;refine⟨_,rfl,AN ?_⟩;have s23:=s2.trans s3;have et3:=s3 _ _ et2;have rt3:=rt.same λc xs e=>s3 _ _ e;have ek3:=s3 _ _ ek;have ee3:=s3 _ _ ee;have rdv3:=s3.rd rdv;refine⟨_,rfl,_,rfl,lt,_,_,_,rfl,rfl,SqL.of et3,hat,_,rfl,dk,_,rfl,DGet.t ek3 rt3,_,rfl,?_⟩;rw[NF,BC hnot];refine AN ?_;dsimp only;refine Ee (λσ' H'=>σ'=[some (.ref a),some (.int (p:Int)),some (.int (m:Int)),some (.ref dr),some (.ref lS),some (.ref lD),some (.ref lh),some (.ref z),some (.ref lt),some (.ref lf),some (.ref dk),some (.ref de),some (.int (0+(k:Int))),v13]/\H3=H') ?_ (λN hN=>?_);rotate_left
  ·refine⟨_,rfl,_,rfl,_,_,rfl,.inl ⟨_,SqL.of (s23 _ _ ef17),rfl⟩,_,_,rfl,rfl,_,rfl,?_⟩;refine Bd (λhz=>?_) (λ_=>AN (hN _ _ ⟨rfl,rfl⟩));have hge:(A3 [] Ws).length<=k:=by have:=A4 hz;lia
   obtain⟨j,Z,D',_,hjk,hj,hD',hW'⟩:=na.rch k W hMk hge
   have hin:W∈A3 [] ((M.take k).flatMap (Ct Ps)):=by
    refine addN_mem.mpr (.inr (EM.mpr ⟨Z,?_,?_⟩))
    ·exact Bz (i:=j) (by rw[List.getElem?_take,As hjk];exact hj)
    obtain⟨q',hq',rfl⟩:=Bi.mp hD';exact EM.mpr ⟨q',hq',hW'⟩
   refine⟨_,rfl,_,rfl,lt,_,_,_,rfl,rfl,SqL.of et3,hat,_,rfl,de,_,rfl,DGet.t ee3 rt3,_,rfl,?_⟩;rw[NF,AR hin];exact AN (hN _ _ ⟨rfl,rfl⟩)
  rintro _ _ ⟨rfl,rfl⟩;refine⟨_,rfl,_,rfl,_,rfl,lt,_,_,_,rfl,rfl,SqL.of et3,hat,dk,_,rfl,DPut.t ek3 rt3 (by rw[NG,Bu];lia),?_⟩;rw[Uz,Am hnot,<- htk1];have s4:Same H17 (Ab H3 dk (.dT (B2 (M.take (k+1))))):=s23.put hdk;have ek4:(Ab H3 dk (.dT (B2 (M.take (k+1))))) dk=some (.dT (B2 (M.take (k+1)))):=Ag;have ee4:(Ab H3 dk (.dT (B2 (M.take (k+1))))) de=some (.dT (B2 (A3 [] ((M.take k).flatMap (Ct Ps))))):=by rw[Ai hkd.symm];exact ee3
  have rdv4:RdV (Ab H3 dk (.dT (B2 (M.take (k+1))))) (.ref b) (dW W):=rdv3.same λc xs e=>by rw[Ai (A7 e ek3 (by intro z;cases z))];exact e
  generalize (Ab H3 dk (.dT (B2 (M.take (k+1)))))=H4 at s4 ek4 ee4 rdv4 ⊢;have hclo:=clo W hWM;refine⟨_,rfl,_,rfl,_,rfl,_,rfl,lt,_,_,_,rfl,rfl,SqL.of (s4 _ _ et17),hat,dr,lD,rs,Ps,usD,_,W,rfl,R17.same s4,s4 _ _ eD17,(td17.mono λv t _ hp0=>by obtain⟨x,h1,h2⟩:=hp0;exact⟨x,h1,s4 _ _ h2⟩),okP,hPf,rdv4,na.rw' W hWM,λlw zs H5 s5 ew rdw=>?_⟩;have hzl:zs.length=(Ct Ps W).length:=by rw[rdw.length,Ak]
  have ee5:=s5 _ _ ee4;refine⟨lw,rfl,⟨_,SqL.of ew⟩,Dn (K:=K) (a:=lw) (xs:=zs) (λi σ H6=>∃v13:Option V,σ = [some (.ref a),some (.int (p:Int)),some (.int (m:Int)),some (.ref dr),some (.ref lS),some (.ref lD),some (.ref lh),some (.ref z),some (.ref lt),some (.ref lf),some (.ref dk),some (.ref de),some (.int (0+(k:Int))),v13]/\(∀c u,H5 c=some u->c≠de->H6 c=some u)/\H6 de=some (.dT (B2 (A3 [] ((M.take k).flatMap (Ct Ps)++(Ct Ps W).take i))))) ⟨_,rfl,λc u e _=>e,by rw[GO,Cm];exact ee5⟩ (λi σ H6 _ hh0=>by obtain⟨_,_,kp,_⟩:=hh0;exact SqL.of (kp _ _ ew (A7 ew ee5 (by intro z;cases z)))) ?_ ?_⟩
  ·rintro i y σ H6 hy' ⟨v13',rfl,k6,e6⟩;have hi:i<(Ct Ps W).length:=by have:=(AG.mp hy').1;lia
   obtain⟨dd,hdd,rdy⟩:=rdw.get hy';rw[AI,AH hi]at hdd;cases hdd;have htk2:(Ct Ps W).take (i+1)=(Ct Ps W).take i++[(Ct Ps W)[i]]:=BF hi;have hZM:=hclo _ (BY hi);generalize (Ct Ps W)[i]=Z at rdy htk2 hZM;have rdy6:RdV H6 y (dW Z):=rdy.same λc xs e=>k6 c _ e (A7 e ee5 (by intro z;cases z));obtain⟨b',rfl,rt'⟩:=Nc rdy6 (okM hZM)
   have hfew:=few ((M.take k).flatMap (Ct Ps)++(Ct Ps W).take i) λZ' hZ'=>by
    rcases BK.mp hZ' with h | h
    ·obtain⟨Y,hY,hZY⟩:=EM.mp h;exact clo Y (G8 hY) _ hZY
    exact hclo _ (G8 h)
   refine⟨_,rfl,_,rfl,de,_,rfl,DPut.t e6 rt' (by rw[NG];lia),?_⟩;refine⟨_,rfl,λc u e hc=>by rw[Ai hc];exact k6 c u e hc,?_⟩;rw[Ag,Uz,htk2,<- De,nW]
  rintro σ H6 ⟨v13',rfl,k6,e6⟩;rw[hzl,BP]at e6;refine⟨_,_,rfl,λc u e=>k6 c u (s5 _ _ (s4 _ _ e)) (AF e hde0),k6 _ _ (s5 _ _ ek4) hkd,?_⟩;rw[htk1,List.flatMap_append,e6,List.flatMap_cons,List.flatMap_nil,Cm]
 rintro σ H2 ⟨v12,v13,rfl,s2,ek,ee⟩
 rw[hut,BP]at ek ee
 refine⟨_,rfl,de,_,rfl,.inl ⟨ee,λo=>?_⟩⟩
 have s20:Same H17 (Ab H2 de (.frz o (.dT (B2 (A3 [] (M.flatMap (Ct Ps))))))):=s2.put hde0
 have e20:(Ab H2 de (.frz o (.dT (B2 (A3 [] (M.flatMap (Ct Ps))))))) de=some (.frz o (.dT (B2 (A3 [] (M.flatMap (Ct Ps)))))):=Ag
 have ek20:(Ab H2 de (.frz o (.dT (B2 (A3 [] (M.flatMap (Ct Ps))))))) dk=some (.dT (B2 M)):=by rw[Ai hkd];exact ek
 have hRM:∀W∈A3 [] (M.flatMap (Ct Ps)),W∈M:=λW hW=>by
  rcases addN_mem.mp hW with h | h
  ·cases h
  obtain⟨Y,hY,hZ⟩:=EM.mp h;exact clo Y hY W hZ
 have hRl:=few (M.flatMap (Ct Ps)) λW hW=>by obtain⟨Y,hY,hZ⟩:=EM.mp hW;exact clo Y hY W hZ
 generalize (A3 [] (M.flatMap (Ct Ps)))=Rl at s20 e20 ek20 hRM hRl ⊢
 generalize (Ab H2 de (.frz o (.dT (B2 Rl))))=H20 at s20 e20 ek20 ⊢
 intro D0 hD0
 refine B8 (n:=Rl.length) (λi ys H3=>ys=(replicate i true).map V.bl/\Same H20 H3/\H3 D0=some (.lst ys)) ⟨rfl,Same.new hD0,Ag⟩ (λi ys H3 hi hh0=>by obtain⟨_,s3,_⟩:=hh0;exact⟨by rw[NG];exact hi,s3 _ _ e20⟩) (λys H3 hh0=>by obtain⟨_,s3,_⟩:=hh0;exact⟨by rw[NG];exact Au _,s3 _ _ e20⟩) ?_ ?_
 ·rintro i ys H4 y H3 hi ⟨rfl,s3,e3⟩ ⟨rfl,kk,v,b,hk,rfl,rt⟩;refine Ce ?_;have hz:Rl[i]? = some Rl[i]:=AH hi;have hzM:=hRM Rl[i] (BY hi);generalize Rl[i]=Z at hz hzM;unfold B2 at hk;rw[AI,hz]at hk;cases hk;refine⟨_,rfl,_,rfl,dk,_,rfl,DGet.t (s3 _ _ ek20) rt,?_⟩;rw[NF,AR hzM];refine⟨_,e3,by rw[Ak,F5];lia,?_,s3.put hD0,Ag⟩;rw[RJ,Ba];rfl
 rintro ys H3 ⟨rfl,s3,e3⟩
 have s173:=s20.trans s3
 refine⟨D0,_,rfl,.inl (SqL.of e3),rfl,UY _,?_⟩
 rw[jL]
 refine⟨_,rfl,Bb ?_⟩
 have AT3:=AT17.same s173
 obtain⟨az,ax,ad,ay,hz,ra,had⟩:=AT3.ex
 refine⟨_,rfl,z,az,_,rfl,hz,UU ax ad ay (by decide +kernel) (by decide +kernel) (by decide +kernel),z,rs,M,rfl,AT3,λx' rx=>?_⟩
 obtain⟨dx',d1',d2',o',kvs',h1,_⟩:=rx.ex
 refine⟨x',dx',_,rfl,h1,Fg d1' d2' (by decide +kernel) (by decide +kernel),x',rs,rfl,rx,λlq Hq sq hlq eq=>?_⟩
 obtain⟨kvs,L3,pp,pt,d1,d2,d3,D,k1,k2,k3,k4,k5,k6,k7,g1,g2,g3,g4,g5,g6,g7⟩:=(R17.same (s173.trans sq)).ex
 have hsh:shaped (.list (((plc rs).map (·.1)).map PyData.str))=true:=XB λx hx=>(T8 (QP g (FY hx))).1
 refine⟨_,rfl,dr,_,rfl,B9 k1 k2,lq,pp,_,_,rfl,rfl,eq,g1,hsh,hsh,?_⟩
 rw[PyData.eqv,Lk Lj,AR rfl]
 exact q _
end
end K19
namespace K19
open PySem L2 Tx Rk PyProof.Rows PySem.SeqAt
theorem C4 {P:List Value->Prop}(h:∀a0:Value,P [a0]):∀us:List Value,us.length=1->P us
 | [a0],_=>h a0
theorem C3 {P:List Value->Prop}(h:∀a0 a1:Value,P [a0,a1]):∀us:List Value,us.length=2->P us
 | [a0,a1],_=>h a0 a1
theorem BN {P:List Value->Prop}(h:∀a0 a1 a2:Value,P [a0,a1,a2]):∀us:List Value,us.length=3->P us
 | [a0,a1,a2],_=>h a0 a1 a2
theorem E1 {P:List Value->Prop}(h:∀a0 a1 a2 a3:Value,P [a0,a1,a2,a3]):∀us:List Value,us.length=4->P us
 | [a0,a1,a2,a3],_=>h a0 a1 a2 a3
theorem iE {P:List Value->Prop}(h:∀a0 a1 a2 a3 a4:Value,P [a0,a1,a2,a3,a4]):∀us:List Value,us.length=5->P us
 | [a0,a1,a2,a3,a4],_=>h a0 a1 a2 a3 a4
open PySem.W (Frag OpenLaw codeIn findIn fnOf hasDictIn isFn keepIn makesIn mg_none_of mg_of nsIn plainGet plainOver)
abbrev nA (K:Frag)(x:Str)(f:Addr):Prop:=nsIn K mainGlobals x=some (some (.ref f))
abbrev lK (K:Frag)(f:Addr)(x q:Str)(s:Stmt)(oc:Value)(od:Option Addr)(kV dc pm:Value)(an:Option Addr)(cd ct:Value)(sl:Array (Option Value)):Prop:=K.lookup f=some ⟨oc,od,.func (fnOf x q (Fu s) (Cj s) (Av s) .none kV dc pm an cd ct),sl⟩
def all_mk {l:OpenLaw}{w:World}{K:Frag}{h:Heap}{mg:Str->Option Value}{fa CH CT C aN aF tF1 tF2 tF3 tF4 f1 f2 f3 f4 f5 f6 f7 f8 f9 f10 f11 f12 f13 f14 f15 f16 f17 f18 f19 f20 f21 f22 f23 f24 f25 f26 f27 f28 f29 f30 f31 f32 f33 f34 f35 f36 f37 f38 f39 f40 f41 f42 f43 f44 f45 f46 f47 f48 f49 f50 f51 f52 f53 f54 f55 f56 f57 f58 f59 f60 f61 f62 f63 f64 f65 f66 f67 f68 f69 f70 f71 f72 f73 f74 f75 f76 f77 f78 f79 f80:Addr}(X:K.In h)(G:h.Ns mainGlobals mg)(hfa:mg "law" = some (.ref fa))
  {od71 an71 od72 an72 od73 an73 od74 an74 od75 an75 od76 an76 odN odF oF1 oF2 oF3 oF4:Option Addr}{sl71 sl72 sl73 sl74 sl75 sl76 slN slF sF1 sF2 sF3 sF4:Array (Option Value)}{oc71 kV71 dc71 pm71 cd71 ct71 oc72 kV72 dc72 pm72 cd72 ct72 oc73 kV73 dc73 pm73 cd73 ct73 oc74 kV74 dc74 pm74 cd74 ct74 oc75 kV75 dc75 pm75 cd75 ct75 oc76 kV76 dc76 pm76 cd76 ct76 uL uO uP uT uWc uSc uNc uRc:Value}{itN itF iF1 iF2 iF3 iF4:Array Value}{nN nF nF1 nF2 nF3 nF4:Nat}
  {esP esL:Array DictEntry}{epP epL:Nat}{aP aL t1 t2 t3 t4:Addr}{oT1 oT2 oT3 oT4:Option Addr}{iT1 iT2 iT3 iT4:Array Value}{nT1 nT2 nT3 nT4:Nat}{sT1 sT2 sT3 sT4:Array (Option Value)}
  (q1:Qf K "set_of" IE f1)
  (q2:Qf K "worlds_of" Ye f2)
  (q3:Qf K "check_many" M3 f3)
  (q4:Qf K "check_steps" Gp f4)
  (q5:Qf K "check_name" Kq f5)
  (q6:Qf K "check_price" Kp f6)
  (q7:Qf K "check_table" Ko f7)
  (q8:Qf K "check_entry" Kr f8)
  (q9:Qf K "read_deeds" Ke f9)
  (q10:Qf K "read_looks" MD f10)
  (q11:Qf K "parted" MG f11)
  (q12:Qf K "doable_sets" II f12)
  (q13:Qf K "heap_in" Hr f13)
  (q14:Qf K "lid_on" Kh f14)
  (q15:Qf K "turns" Kb f15)
  (q16:Qf K "read_deed" IG f16)
  (q17:Qf K "move_things" MI f17)
  (q18:Qf K "take" Mx f18)
  (q19:Qf K "put" MF f19)
  (q20:Qf K "toss" Kc f20)
  (q21:Qf K "shake" My f21)
  (q22:Qf K "tip" Mw f22)
  (q23:Qf K "move_lid" MJ f23)
  (q24:Qf K "hand_fits" MY f24)
  (q25:Qf K "is_free" Gm f25)
  (q26:Qf K "is_open" Ho f26)
  (q27:Qf K "can_put" Kt f27)
  (q28:Qf K "laid" Ki f28)
  (q29:Qf K "changed" Gq f29)
  (q30:Qf K "looked" Yh f30)
  (q31:Qf K "read_look" ME f31)
  (q32:Qf K "is_look" Yj f32)
  (q33:Qf K "feel" Ym f33)
  (q34:Qf K "try_lid" Yf f34)
  (q35:Qf K "heft" Yk f35)
  (q36:Qf K "shape_told" Yg f36)
  (q37:Qf K "check_told" MZ f37)
  (q38:Qf K "number_all" MH f38)
  (q39:Qf K "add_new" M7 f39)
  (q40:Qf K "chart_of" IJ f40)
  (q41:Qf K "deed_table" Kn f41)
  (q42:Qf K "numbers_of" Kf f42)
  (q43:Qf K "look_table" MK f43)
  (q44:Qf K "is_name" Km f44)
  (q45:Qf K "read_line" Kd f45)
  (q46:Qf K "read_rows" IF f46)
  (q47:Qf K "read_things" MA f47)
  (q48:Qf K "read_places" MB f48)
  (q49:Qf K "check_keys" M4 f49)
  (q50:Qf K "_law_pick" EV f50)
  (q51:Qf K "_law_fixed" Gn f51)
  (q52:Qf K "_law_names" Kg f52)
  (q53:Qf K "_law_place_line" ML f53)
  (q54:Qf K "_law_room" Gk f54)
  (q55:Qf K "_law_lids" MM f55)
  (q56:Qf K "_law_world" ID f56)
  (q57:Qf K "_law_same" Mz f57)
  (q58:Qf K "_law_heap" IH f58)
  (q59:Qf K "_law_lid" MS f59)
  (q60:Qf K "_law_laid" MU f60)
  (q61:Qf K "_law_tip" Kk f61)
  (q62:Qf K "_law_moves" MP f62)
  (q63:Qf K "_law_lidded" MQ f63)
  (q64:Qf K "_law_turns" MN f64)
  (q65:Qf K "_law_small" Hm f65)
  (q66:Qf K "_law_lines" Hn f66)
  (q67:Qf K "_law_priced" Kl f67)
  (q68:Qf K "_law_told_worlds" Kj f68)
  (q69:Qf K "_law_first_ones" MV f69)
  (q70:Qf K "_law_next" MO f70)
  (a71:nA K "law" f71)(l71:lK K f71 "law" "law" Hl oc71 od71 kV71 dc71 pm71 an71 cd71 ct71 sl71)(c71:codeIn K cd71 "law" = true)(k71:keepIn K (.ref f71)=true)
  (aC:nsIn K mainGlobals "Room" = some (some (.ref C)))
  (a72:findIn K (.ref C) "__init__" = some (some (.ref f72)))(i72:isFn K (.ref f72)=true)(l72:lK K f72 "__init__" "Room.__init__" P4 oc72 od72 kV72 dc72 pm72 an72 cd72 ct72 sl72)(c72:codeIn K cd72 "Room.__init__" = true)(k72:keepIn K (.ref f72)=true)
  (a73:findIn K (.ref C) "places" = some (some (.ref f73)))(i73:isFn K (.ref f73)=true)(l73:lK K f73 "places" "Room.places" P0 oc73 od73 kV73 dc73 pm73 an73 cd73 ct73 sl73)(c73:codeIn K cd73 "Room.places" = true)(k73:keepIn K (.ref f73)=true)
  (a74:findIn K (.ref C) "lid_of" = some (some (.ref f74)))(i74:isFn K (.ref f74)=true)(l74:lK K f74 "lid_of" "Room.lid_of" P2 oc74 od74 kV74 dc74 pm74 an74 cd74 ct74 sl74)(c74:codeIn K cd74 "Room.lid_of" = true)(k74:keepIn K (.ref f74)=true)
  (a75:findIn K (.ref C) "lidded" = some (some (.ref f75)))(i75:isFn K (.ref f75)=true)(l75:lK K f75 "lidded" "Room.lidded" P1 oc75 od75 kV75 dc75 pm75 an75 cd75 ct75 sl75)(c75:codeIn K cd75 "Room.lidded" = true)(k75:keepIn K (.ref f75)=true)
  (a76:findIn K (.ref C) "key_of" = some (some (.ref f76)))(i76:isFn K (.ref f76)=true)(l76:lK K f76 "key_of" "Room.key_of" P3 oc76 od76 kV76 dc76 pm76 an76 cd76 ct76 sl76)(c76:codeIn K cd76 "Room.key_of" = true)(k76:keepIn K (.ref f76)=true)
  (pg:plainGet K C Str.empty=true)(hd:hasDictIn K C=true)(po:plainOver K C=true)(sa:findIn K (.ref C) "__setattr__" = some (some (.builtin "object.__setattr__")))(mk:makesIn K C=true)(kc:keepIn K (.ref C)=true)
  (nP:findIn K (.ref C) "told_places" = some none)(nS:findIn K (.ref C) "told_shapes" = some none)
  (aCH:nsIn K mainGlobals "Chart" = some (some (.ref CH)))(pgCH:plainGet K CH Str.empty=true)(hdCH:hasDictIn K CH=true)(poCH:plainOver K CH=true)(saCH:findIn K (.ref CH) "__setattr__" = some (some (.builtin "object.__setattr__")))(mkCH:makesIn K CH=true)(kcCH:keepIn K (.ref CH)=true)
  (nCH_1:findIn K (.ref CH) "many" = some none)
  (nCH_2:findIn K (.ref CH) "prices" = some none)
  (nCH_3:findIn K (.ref CH) "told_outs" = some none)
  (nCH_4:findIn K (.ref CH) "told_answers" = some none)
  (nCH_5:findIn K (.ref CH) "told_parts" = some none)
  (nCH_6:findIn K (.ref CH) "told_doable" = some none)
  (aCT:nsIn K mainGlobals "Atlas" = some (some (.ref CT)))(pgCT:plainGet K CT Str.empty=true)(hdCT:hasDictIn K CT=true)(poCT:plainOver K CT=true)(saCT:findIn K (.ref CT) "__setattr__" = some (some (.builtin "object.__setattr__")))(mkCT:makesIn K CT=true)(kcCT:keepIn K (.ref CT)=true)
  (nCT_1:findIn K (.ref CT) "told_room" = some none)
  (nCT_2:findIn K (.ref CT) "numbers" = some none)
  (nCT_3:findIn K (.ref CT) "made_chart" = some none)
  (q77:Qm K CH "__init__" "Chart.__init__" Ks f77)
  (q78:Qm K CT "__init__" "Atlas.__init__" M5 f78)
  (q79:Qm K CT "room" "Atlas.room" P6 f79)
  (q80:Qm K CT "worlds" "Atlas.worlds" P5 f80)
  (gL:nsIn K mainGlobals "LETTERS" = some (some uL))(vL:Dz uL=some (.str abc))
  (gO:nsIn K mainGlobals "MOST_LETTERS" = some (some uO))(vO:Dz uO=some (.int 8))
  (gP:nsIn K mainGlobals "MOST_PLACES" = some (some uP))(vP:Dz uP=some (.int 6))
  (gT:nsIn K mainGlobals "MOST_THINGS" = some (some uT))(vT:Dz uT=some (.int 6))
  (gWc:nsIn K mainGlobals "MOST_WORLDS" = some (some uWc))(vWc:Dz uWc=some (.int 200))
  (gSc:nsIn K mainGlobals "MOST_STEPS" = some (some uSc))(vSc:Dz uSc=some (.int 40))
  (gNc:nsIn K mainGlobals "MOST_SIGNS" = some (some uNc))(vNc:Dz uNc=some (.int 30))
  (gRc:nsIn K mainGlobals "MOST_PRICE" = some (some uRc))(vRc:Dz uRc=some (.int 1000000000))
  (gN:nsIn K mainGlobals "NO_NAMES" = some (some (.ref aN)))(lN:K.lookup aN=some ⟨.type "tuple",odN,.seq itN nN,slN⟩)(vN:DA itN.toList=some (fixedS.map V.str))
  (gF:nsIn K mainGlobals "FORMS" = some (some (.ref aF)))(lF:K.lookup aF=some ⟨.type "tuple",odF,.seq itF nF,slF⟩)(vF:DA itF.toList=some [.ref tF1,.ref tF2,.ref tF3,.ref tF4])
  (lF1:K.lookup tF1=some ⟨.type "tuple",oF1,.seq iF1 nF1,sF1⟩)(vF1:DA iF1.toList=some [.str "place",.int 2])
  (lF2:K.lookup tF2=some ⟨.type "tuple",oF2,.seq iF2 nF2,sF2⟩)(vF2:DA iF2.toList=some [.str "box",.int 2])
  (lF3:K.lookup tF3=some ⟨.type "tuple",oF3,.seq iF3 nF3,sF3⟩)(vF3:DA iF3.toList=some [.str "box",.int 3])
  (lF4:K.lookup tF4=some ⟨.type "tuple",oF4,.seq iF4 nF4,sF4⟩)(vF4:DA iF4.toList=some [.str "thing",.int 3])
  (gPl:nsIn K mainGlobals "PLACES" = some (some (.ref aP)))
  (lPl:K.lookup aP=some ⟨.type "dict",none,.dict esP epP,#[]⟩)
  (sPl:(aP == sysModules)=false)
  (vPl:Fx esP.toList=some placesK)
  (hPl:esP.toList.map (·.hash)=placesK.map (λkv=>Lf w kv.1))
  (gLi:nsIn K mainGlobals "LIDS" = some (some (.ref aL)))
  (lLi:K.lookup aL=some ⟨.type "dict",none,.dict esL epL,#[]⟩)
  (sLi:(aL == sysModules)=false)
  (vLi:Fx esL.toList=some (HR t1 t2 t3 t4))
  (hLi:esL.toList.map (·.hash)=(HR t1 t2 t3 t4).map (λkv=>Lf w kv.1))
  (lT1:K.lookup t1=some ⟨.type "tuple",oT1,.seq iT1 nT1,sT1⟩)
  (wT1:DA iT1.toList=some [V.str "shut",V.str "open"])
  (lT2:K.lookup t2=some ⟨.type "tuple",oT2,.seq iT2 nT2,sT2⟩)
  (wT2:DA iT2.toList=some [V.str "open",V.str "shut"])
  (lT3:K.lookup t3=some ⟨.type "tuple",oT3,.seq iT3 nT3,sT3⟩)
  (wT3:DA iT3.toList=some [V.str "shut",V.str "locked"])
  (lT4:K.lookup t4=some ⟨.type "tuple",oT4,.seq iT4 nT4,sT4⟩)
  (wT4:DA iT4.toList=some [V.str "locked",V.str "shut"])
  (z1:nsIn K mainGlobals "len" = some none)(z2:nsIn K mainGlobals "range" = some none)(z3:nsIn K mainGlobals "tuple" = some none)(z4:nsIn K mainGlobals "zip" = some none)(z5:nsIn K mainGlobals "isinstance" = some none)(z6:nsIn K mainGlobals "str" = some none)(z7:nsIn K mainGlobals "list" = some none)(z8:nsIn K mainGlobals "set" = some none)(z9:nsIn K mainGlobals "all" = some none)(z10:nsIn K mainGlobals "sorted" = some none)(z11:nsIn K mainGlobals "int" = some none)(z12:nsIn K mainGlobals "bool" = some none)(z13:nsIn K mainGlobals "reversed" = some none)(z14:nsIn K mainGlobals "max" = some none)(z15:nsIn K mainGlobals "sum" = some none)(z16:nsIn K mainGlobals "enumerate" = some none)(z17:nsIn K mainGlobals "dict" = some none) :
  ∃fd:FuncData,(∀(s:Shared) (v:Value),BindsTo s fd ⟨[v],[]⟩ [("_law_script",v)])/\∀base:Heap,K.In base->base.Ns mainGlobals mg->FnOk l.prog w K mg base CX0 12 fa fd ["_law_script"] (J8 K):=by
 have e:=hfa.symm.trans (C7 X G a71)
 cases e
 have T:Bl mg:=⟨Dc X G z1,Dc X G z2,Dc X G z3,Dc X G z4,Dc X G z5,Dc X G z6,Dc X G z7,Dc X G z8,Dc X G z9,Dc X G z10,Dc X G z11,Dc X G z12,Dc X G z13,Dc X G z14,Dc X G z15,Dc X G z16,Dc X G z17⟩
 obtain⟨tL,eL⟩:=(Fh vL:RelV (.str abc) uL)
 rw[eL]at gL
 obtain⟨tO,eO⟩:=(Fh vO:RelV (.int 8) uO)
 rw[eO]at gO
 obtain⟨tP,eP⟩:=(Fh vP:RelV (.int 6) uP)
 rw[eP]at gP
 obtain⟨tT,eT⟩:=(Fh vT:RelV (.int 6) uT)
 rw[eT]at gT
 obtain⟨tWc,eWc⟩:=(Fh vWc:RelV (.int 200) uWc)
 rw[eWc]at gWc
 obtain⟨tSc,eSc⟩:=(Fh vSc:RelV (.int 40) uSc)
 rw[eSc]at gSc
 obtain⟨tNc,eNc⟩:=(Fh vNc:RelV (.int 30) uNc)
 rw[eNc]at gNc
 obtain⟨tRc,eRc⟩:=(Fh vRc:RelV (.int 1000000000) uRc)
 rw[eRc]at gRc
 have M:Md K mg aN aF:=⟨⟨_,C7 X G gL⟩,⟨_,C7 X G gO⟩,⟨_,C7 X G gP⟩,⟨_,C7 X G gT⟩,C7 X G gN,λH=>.inr ⟨_,itN,nN,lN,rfl,rfl,by
   have h1:=(Eu vN).length
   have h2:itN.toList.length=itN.size:=by simp
   have h3:(fixedS.map V.str).length=14:=by decide +kernel
   have hs:sizeLine=16777216:=AK
   lia,Eu vN⟩,C7 X G gF,
  Ku lF vF (.cons (Ku lF1 vF1 (.cons (Gr rfl) (.cons (Gr rfl) .nil))) (.cons (Ku lF2 vF2 (.cons (Gr rfl) (.cons (Gr rfl) .nil))) (.cons (Ku lF3 vF3 (.cons (Gr rfl) (.cons (Gr rfl) .nil))) (.cons (Ku lF4 vF4 (.cons (Gr rfl) (.cons (Gr rfl) .nil))) .nil))))⟩
 have L:Cl K C:=⟨⟨pg,hd,po,sa⟩,nP,nS⟩
 have F71:=Ft l71 c71 k71
 have F72:=Ft l72 c72 k72
 have b72:=F72.binds (ps:=["self", "lines"]) λ_ _ _ _ _ _=>C3 λ_ _=>rfl
 have F73:=Ft l73 c73 k73
 have b73:=F73.binds (ps:=["self"]) λ_ _ _ _ _ _=>C4 λ_=>rfl
 have F74:=Ft l74 c74 k74
 have b74:=F74.binds (ps:=["self", "place"]) λ_ _ _ _ _ _=>C3 λ_ _=>rfl
 have F75:=Ft l75 c75 k75
 have b75:=F75.binds (ps:=["self", "place"]) λ_ _ _ _ _ _=>C3 λ_ _=>rfl
 have F76:=Ft l76 c76 k76
 have b76:=F76.binds (ps:=["self", "place"]) λ_ _ _ _ _ _=>C3 λ_ _=>rfl
 obtain⟨_,F77,b77,m77⟩:=q77.df K2 λ_ _ _ _ _ _=>E1 λ_ _ _ _=>rfl
 obtain⟨_,F78,b78,m78⟩:=q78.df Jm λ_ _ _ _ _ _=>iE λ_ _ _ _ _=>rfl
 obtain⟨_,F79,b79,m79⟩:=q79.df Qx λ_ _ _ _ _ _=>C4 λ_=>rfl
 obtain⟨_,F80,b80,m80⟩:=q80.df Qw λ_ _ _ _ _ _=>C4 λ_=>rfl
 have CCH:Cls K CH:=⟨pgCH,hdCH,poCH,saCH⟩
 have CCT:Cls K CT:=⟨pgCT,hdCT,poCT,saCT⟩
 obtain⟨_,D1⟩:=q1.df X G Hv λ_ _ _ _ _ _=>C4 λ_=>rfl
 obtain⟨_,D2⟩:=q2.df X G Zn λ_ _ _ _ _ _=>C4 λ_=>rfl
 obtain⟨_,D3⟩:=q3.df X G Jl λ_ _ _ _ _ _=>C4 λ_=>rfl
 obtain⟨_,D4⟩:=q4.df X G Gx λ_ _ _ _ _ _=>C3 λ_ _=>rfl
 obtain⟨_,D5⟩:=q5.df X G Jk λ_ _ _ _ _ _=>C4 λ_=>rfl
 obtain⟨_,D6⟩:=q6.df X G Jj λ_ _ _ _ _ _=>C4 λ_=>rfl
 obtain⟨_,D7⟩:=q7.df X G Ji λ_ _ _ _ _ _=>BN λ_ _ _=>rfl
 obtain⟨_,D8⟩:=q8.df X G K0 λ_ _ _ _ _ _=>BN λ_ _ _=>rfl
 obtain⟨_,D9⟩:=q9.df X G IT λ_ _ _ _ _ _=>C3 λ_ _=>rfl
 obtain⟨_,D10⟩:=q10.df X G IS λ_ _ _ _ _ _=>C3 λ_ _=>rfl
 obtain⟨_,D11⟩:=q11.df X G IV λ_ _ _ _ _ _=>C4 λ_=>rfl
 obtain⟨_,D12⟩:=q12.df X G Jh λ_ _ _ _ _ _=>C3 λ_ _=>rfl
 obtain⟨_,D13⟩:=q13.df X G EZ λ_ _ _ _ _ _=>BN λ_ _ _=>rfl
 obtain⟨_,D14⟩:=q14.df X G IW λ_ _ _ _ _ _=>BN λ_ _ _=>rfl
 obtain⟨_,D15⟩:=q15.df X G IR λ_ _ _ _ _ _=>BN λ_ _ _=>rfl
 obtain⟨_,D16⟩:=q16.df X G IU λ_ _ _ _ _ _=>C3 λ_ _=>rfl
 obtain⟨_,D17⟩:=q17.df X G KO λ_ _ _ _ _ _=>E1 λ_ _ _ _=>rfl
 obtain⟨_,D18⟩:=q18.df X G KH λ_ _ _ _ _ _=>BN λ_ _ _=>rfl
 obtain⟨_,D19⟩:=q19.df X G KL λ_ _ _ _ _ _=>BN λ_ _ _=>rfl
 obtain⟨_,D20⟩:=q20.df X G KF λ_ _ _ _ _ _=>BN λ_ _ _=>rfl
 obtain⟨_,D21⟩:=q21.df X G KI λ_ _ _ _ _ _=>BN λ_ _ _=>rfl
 obtain⟨_,D22⟩:=q22.df X G KG λ_ _ _ _ _ _=>E1 λ_ _ _ _=>rfl
 obtain⟨_,D23⟩:=q23.df X G KP λ_ _ _ _ _ _=>E1 λ_ _ _ _=>rfl
 obtain⟨_,D24⟩:=q24.df X G KW λ_ _ _ _ _ _=>E1 λ_ _ _ _=>rfl
 obtain⟨_,D25⟩:=q25.df X G Ei λ_ _ _ _ _ _=>C4 λ_=>rfl
 obtain⟨_,D26⟩:=q26.df X G EY λ_ _ _ _ _ _=>BN λ_ _ _=>rfl
 obtain⟨_,D27⟩:=q27.df X G Hy λ_ _ _ _ _ _=>BN λ_ _ _=>rfl
 obtain⟨_,D28⟩:=q28.df X G Hw λ_ _ _ _ _ _=>BN λ_ _ _=>rfl
 obtain⟨_,D29⟩:=q29.df X G Ey λ_ _ _ _ _ _=>E1 λ_ _ _ _=>rfl
 obtain⟨_,D30⟩:=q30.df X G ["room", "line", "world"] λ_ _ _ _ _ _=>BN λ_ _ _=>rfl
 obtain⟨_,D31⟩:=q31.df X G KJ λ_ _ _ _ _ _=>C3 λ_ _=>rfl
 obtain⟨_,D32⟩:=q32.df X G ["room", "word", "name"] λ_ _ _ _ _ _=>BN λ_ _ _=>rfl
 obtain⟨_,D33⟩:=q33.df X G ["room", "world", "place"] λ_ _ _ _ _ _=>BN λ_ _ _=>rfl
 obtain⟨_,D34⟩:=q34.df X G ["room", "world", "place"] λ_ _ _ _ _ _=>BN λ_ _ _=>rfl
 obtain⟨_,D35⟩:=q35.df X G ["room", "world", "place"] λ_ _ _ _ _ _=>BN λ_ _ _=>rfl
 obtain⟨_,D36⟩:=q36.df X G ["room", "thing"] λ_ _ _ _ _ _=>C3 λ_ _=>rfl
 obtain⟨_,D37⟩:=q37.df X G KZ λ_ _ _ _ _ _=>BN λ_ _ _=>rfl
 obtain⟨_,D38⟩:=q38.df X G KN λ_ _ _ _ _ _=>BN λ_ _ _=>rfl
 obtain⟨_,D39⟩:=q39.df X G K3 λ_ _ _ _ _ _=>C3 λ_ _=>rfl
 obtain⟨_,D40⟩:=q40.df X G K1 λ_ _ _ _ _ _=>E1 λ_ _ _ _=>rfl
 obtain⟨_,D41⟩:=q41.df X G KY λ_ _ _ _ _ _=>BN λ_ _ _=>rfl
 obtain⟨_,D42⟩:=q42.df X G KM λ_ _ _ _ _ _=>C3 λ_ _=>rfl
 obtain⟨_,D43⟩:=q43.df X G KQ λ_ _ _ _ _ _=>BN λ_ _ _=>rfl
 obtain⟨_,D44⟩:=q44.df X G ["text"] λ_ _ _ _ _ _=>C4 λ_=>rfl
 obtain⟨_,D45⟩:=q45.df X G ["line"] λ_ _ _ _ _ _=>C4 λ_=>rfl
 obtain⟨_,D46⟩:=q46.df X G ["lines"] λ_ _ _ _ _ _=>C4 λ_=>rfl
 obtain⟨_,D47⟩:=q47.df X G ["rows"] λ_ _ _ _ _ _=>C4 λ_=>rfl
 obtain⟨_,D48⟩:=q48.df X G ["rows"] λ_ _ _ _ _ _=>C4 λ_=>rfl
 obtain⟨_,D49⟩:=q49.df X G ["places", "shapes"] λ_ _ _ _ _ _=>C3 λ_ _=>rfl
 obtain⟨_,D50⟩:=q50.df X G ["_law_script", "_law_k", "_law_many"] λ_ _ _ _ _ _=>BN λ_ _ _=>rfl
 obtain⟨_,D51⟩:=q51.df X G ["_law_text"] λ_ _ _ _ _ _=>C4 λ_=>rfl
 obtain⟨_,D52⟩:=q52.df X G ["_law_script", "_law_k", "_law_many"] λ_ _ _ _ _ _=>BN λ_ _ _=>rfl
 obtain⟨_,D53⟩:=q53.df X G ["_law_script", "_law_k", "_law_room_here", "_law_name"] λ_ _ _ _ _ _=>E1 λ_ _ _ _=>rfl
 obtain⟨_,D54⟩:=q54.df X G ["_law_script", "_law_places", "_law_things"] λ_ _ _ _ _ _=>BN λ_ _ _=>rfl
 obtain⟨_,D55⟩:=q55.df X G ["_law_room_here", "_law_place"] λ_ _ _ _ _ _=>C3 λ_ _=>rfl
 obtain⟨_,D56⟩:=q56.df X G ["_law_script", "_law_k", "_law_room_here"] λ_ _ _ _ _ _=>BN λ_ _ _=>rfl
 obtain⟨_,D57⟩:=q57.df X G Qu λ_ _ _ _ _ _=>C3 λ_ _=>rfl
 obtain⟨_,D58⟩:=q58.df X G Hx λ_ _ _ _ _ _=>BN λ_ _ _=>rfl
 obtain⟨_,D59⟩:=q59.df X G Jf λ_ _ _ _ _ _=>BN λ_ _ _=>rfl
 obtain⟨_,D60⟩:=q60.df X G KU λ_ _ _ _ _ _=>C3 λ_ _=>rfl
 obtain⟨_,D61⟩:=q61.df X G KS λ_ _ _ _ _ _=>BN λ_ _ _=>rfl
 obtain⟨_,D62⟩:=q62.df X G Jc λ_ _ _ _ _ _=>E1 λ_ _ _ _=>rfl
 obtain⟨_,D63⟩:=q63.df X G Je λ_ _ _ _ _ _=>E1 λ_ _ _ _=>rfl
 obtain⟨_,D64⟩:=q64.df X G KR λ_ _ _ _ _ _=>BN λ_ _ _=>rfl
 obtain⟨_,D65⟩:=q65.df X G I0 λ_ _ _ _ _ _=>C4 λ_=>rfl
 obtain⟨_,D66⟩:=q66.df X G Jd λ_ _ _ _ _ _=>E1 λ_ _ _ _=>rfl
 obtain⟨_,D67⟩:=q67.df X G Ja λ_ _ _ _ _ _=>BN λ_ _ _=>rfl
 obtain⟨_,D68⟩:=q68.df X G IZ λ_ _ _ _ _ _=>C3 λ_ _=>rfl
 obtain⟨_,D69⟩:=q69.df X G Jg λ_ _ _ _ _ _=>C4 λ_=>rfl
 obtain⟨_,D70⟩:=q70.df X G Jb λ_ _ _ _ _ _=>BN λ_ _ _=>rfl
 refine⟨fnOf "law" "law" (Fu Hl) (Cj Hl) (Av Hl) .none kV71 dc71 pm71 an71 cd71 ct71,λs v=>.of_eq rfl,λbase _ _=>?_⟩
 have GQ:=ZW (P:=l.prog) (w:=w) (base:=base) D50.F T
 have GP:=ZX GQ
 have GX:=bF (P:=l.prog) (w:=w) (mg:=mg) (base:=base) D51.F
 have GN:=Z1 (P:=l.prog) (w:=w) (base:=base) D52.F D50 D51 T GQ GX
 have GL:=aM (P:=l.prog) (w:=w) (base:=base) D53.F D50 T GP
 have GR:=ZK (P:=l.prog) (w:=w) (base:=base) D54.F D50 D52 D53 T GP GN GL
 have GI:=aO (P:=l.prog) (w:=w) (mg:=mg) (base:=base) D55.F
 have GW:=ZA (P:=l.prog) (w:=w) (base:=base) D56.F D50 D55 T GP GI
 have Gis:=aZ (P:=l.prog) (w:=w) (base:=base) D44.F T M
 have Grl:=ZP  D45.F D44 T M Gis
 have Grr:=ZL  D46.F D45 T Grl
 have Gth:=ZF (P:=l.prog) (w:=w) (base:=base) D47.F T M
 have Gpl:=ZU (P:=l.prog) (w:=w) (base:=base) D48.F T M
 have Gck:=bU (P:=l.prog) (w:=w) (mg:=mg) (base:=base) D49.F
 have Gin:=bC  F72 L D46 D48 D47 D49 Grr Gpl Gth Gck
 have Gps:=ZV (P:=l.prog) (w:=w) (base:=base) F73 L T
 have DD:Dd l.prog w K mg aP:=⟨C7 X G gPl,UF lPl sPl vPl hPl (by decide +kernel)⟩
 have DL:Dl l.prog w K mg aL t1 t2 t3 t4:=⟨C7 X G gLi,UF lLi sLi vLi hLi (by show List.Nodup ([Sum.inr "open",Sum.inr "shut",Sum.inr "lock",Sum.inr "unlock"]:List Af);decide +kernel),λH=>.inr ⟨_,iT1,nT1,lT1,rfl,rfl,by
   have h1:=(Eu wT1).length
   have h2:iT1.toList.length=iT1.size:=by simp
   have h3:([V.str "shut",V.str "open"]:List V).length=2:=rfl
   have hs:sizeLine=16777216:=AK
   lia,Eu wT1⟩,λH=>.inr ⟨_,iT2,nT2,lT2,rfl,rfl,by
   have h1:=(Eu wT2).length
   have h2:iT2.toList.length=iT2.size:=by simp
   have h3:([V.str "open",V.str "shut"]:List V).length=2:=rfl
   have hs:sizeLine=16777216:=AK
   lia,Eu wT2⟩,λH=>.inr ⟨_,iT3,nT3,lT3,rfl,rfl,by
   have h1:=(Eu wT3).length
   have h2:iT3.toList.length=iT3.size:=by simp
   have h3:([V.str "shut",V.str "locked"]:List V).length=2:=rfl
   have hs:sizeLine=16777216:=AK
   lia,Eu wT3⟩,λH=>.inr ⟨_,iT4,nT4,lT4,rfl,rfl,by
   have h1:=(Eu wT4).length
   have h2:iT4.toList.length=iT4.size:=by simp
   have h3:([V.str "locked",V.str "shut"]:List V).length=2:=rfl
   have hs:sizeLine=16777216:=AK
   lia,Eu wT4⟩⟩
 have Ghi:=bD  D13.F L b73 ⟨a73,i73,k73⟩ Gps
 have Gln:=aQ  D14.F L b73 ⟨a73,i73,k73⟩ Gps
 have Glo:=aR (P:=l.prog) (w:=w) (mg:=mg) (base:=base) F74 L
 have Gld:=aS  F75 L b74 ⟨a74,i74,k74⟩ Glo
 have Gky:=aX  F76 L b74 ⟨a74,i74,k74⟩ Glo
 have Gif:=bA (P:=l.prog) (w:=w) (mg:=mg) (base:=base) D25.F
 have Gio:=aY  D26.F ⟨D14,Gln⟩
 have Gch:=bW  D29.F L b73 ⟨a73,i73,k73⟩ Gps
 have Grd:=ZR  D16.F T L DD b73 ⟨a73,i73,k73⟩ Gps
 have Ghf:=bE  D24.F L D25 Gif b76 ⟨a76,i76,k76⟩ Gky b75 ⟨a75,i75,k75⟩ Gld
 have Gml:=Z2  D23.F DL ⟨D14,Gln⟩ ⟨D24,Ghf⟩ ⟨D29,Gch⟩
 have Gcp:=bX  D27.F ⟨D25,Gif⟩ ⟨D26,Gio⟩
 have Gla:=aW  D28.F ⟨D13,Ghi⟩ ⟨D29,Gch⟩
 have Gpu:=ZS  D19.F ⟨D27,Gcp⟩ ⟨D28,Gla⟩
 have Gto:=ZD  D20.F L b73 ⟨a73,i73,k73⟩ Gps D27 Gcp D28 Gla
 have Gtk:=ZG  D18.F T D13 D25 D26 D29 Ghi Gif Gio Gch
 have Gsk:=ZH  D21.F T D13 D25 D26 D29 Ghi Gif Gio Gch
 have Gti:=ZE  D22.F T D13 D25 D26 D29 Ghi Gif Gio Gch
 have Gmt:=Z3  D17.F ⟨D18,Gtk⟩ ⟨D19,Gpu⟩ ⟨D20,Gto⟩ ⟨D21,Gsk⟩
 have Gtu:=ZC  D15.F DL ⟨D16,Grd⟩ ⟨D22,Gti⟩ ⟨D17,Gmt⟩ ⟨D23,Gml⟩
 have Mq:Mc mg:=⟨⟨_,C7 X G gWc⟩,⟨_,C7 X G gSc⟩,⟨_,C7 X G gNc⟩,⟨_,C7 X G gRc⟩⟩
 have LQ:Wc K CH:=⟨CCH,nCH_1,nCH_2,nCH_3,nCH_4,nCH_5,nCH_6⟩
 have LT:L7 K CT:=⟨CCT,nCT_1,nCT_2,nCT_3⟩
 have Gso:=ZI (P:=l.prog) (w:=w) (mg:=mg) (base:=base) D1.F
 have Gcm:=bQ (P:=l.prog) (w:=w) (mg:=mg) (base:=base) D3.F Mq
 have Gcn:=bP (P:=l.prog) (w:=w) (mg:=mg) (base:=base) D5.F T Mq
 have Gcq:=bO (P:=l.prog) (w:=w) (mg:=mg) (base:=base) D6.F Mq
 have Gct:=bK (P:=l.prog) (w:=w) (mg:=mg) (base:=base) D7.F T
 have Gce:=bS (P:=l.prog) (w:=w) (mg:=mg) (base:=base) D8.F T
 have Gcs:=bN  D4.F T Mq ⟨D5,Gcn⟩ ⟨D6,Gcq⟩
 have GcsP:=bM  D4.F T Mq ⟨D5,Gcn⟩ ⟨D6,Gcq⟩
 have Grk:=ZM  D10.F T ⟨D7,Gct⟩
 have Gre:=ZQ  D9.F T ⟨D7,Gct⟩ ⟨D8,Gce⟩ ⟨D1,Gso⟩
 have Gpa:=ZY  D11.F T ⟨D1,Gso⟩
 have Gdo:=bG  D12.F T ⟨D1,Gso⟩
 have Gic:=bB  F77 LQ T D3 Gcm D4 Gcs D9 Gre D10 Grk D11 Gpa D12 Gdo
 have Gan:=cB (P:=l.prog) (w:=w) (mg:=mg) (base:=base) D39.F T ⟨_,C7 X G gWc⟩
 have Gna:=Z0  D38.F T ⟨D39,Gan⟩ ⟨D15,Gtu⟩
 have Gno:=ZZ (P:=l.prog) (w:=w) (mg:=mg) (base:=base) D42.F T
 have Gdt:=bH  D41.F T ⟨D42,Gno⟩ ⟨D15,Gtu⟩
 have Glt:=Z9 (P:=l.prog) (w:=w) (mg:=mg) (base:=base) D43.F
 have Gco:=bV  D40.F T ⟨mkCH,m77.at_,m77.fn,kcCH⟩ (C7 X G aCH) b77 Gic ⟨D41,Gdt⟩ ⟨D43,Glt⟩
 have Grk0:=ZO (P:=l.prog) (w:=w) (mg:=mg) (base:=base) D31.F
 have Gtd:=bJ  D37.F ⟨D16,Grd⟩ ⟨D31,Grk0⟩ ⟨D4,GcsP⟩
 have Gar:=bZ (P:=l.prog) (w:=w) (mg:=mg) (base:=base) (C:=C) F79 LT
 have Gaw:=bY (P:=l.prog) (w:=w) (mg:=mg) (base:=base) (C:=C) F80 T LT
 have Gai:=cA  F78 T LT ⟨D37,Gtd⟩ ⟨D38,Gna⟩ ⟨D40,Gco⟩
 have Gsm:=ZJ (P:=l.prog) (w:=w) (mg:=mg) (base:=base) D57.F T
 have Glh:=aT (P:=l.prog) (w:=w) (mg:=mg) (base:=base) D58.F
 have Gll:=aK  D60.F ⟨D58,Glh⟩
 have Gtp:=Z6  D61.F T ⟨D58,Glh⟩
 have Glm:=aB  D62.F T ⟨D58,Glh⟩ ⟨D60,Gll⟩ ⟨D61,Gtp⟩
 have Glq:=aJ (P:=l.prog) (w:=w) (mg:=mg) (base:=base) D59.F
 have Glr:=aH  D63.F D59 Glq
 have Glu:=Z4  D64.F T D63 Glr D62 Glm
 have Gnx:=aA  D70.F ⟨D64,Glu⟩
 have Gfo:=aU (P:=l.prog) (w:=w) (mg:=mg) (base:=base) D69.F
 have Gsl:=Z7 (P:=l.prog) (w:=w) (mg:=mg) (base:=base) D65.F ⟨D50,GP⟩
 have Gle:=aG (P:=l.prog) (w:=w) (mg:=mg) (base:=base) D66.F T ⟨D50,GP⟩
 have Gpd:=Z8 (P:=l.prog) (w:=w) (mg:=mg) (base:=base) D67.F T ⟨D50,GP⟩
 have Gtw:=Z5 (P:=l.prog) (w:=w) (mg:=mg) (base:=base) D68.F T ⟨D50,GP⟩ ⟨D56,GW⟩
 exact aV F71 T L LT D65 D54 D68 D66 D67 D69 D57 D70 ⟨mk,a72,i72,kc⟩ (C7 X G aC) b72 Gin ⟨mkCT,m78.at_,m78.fn,kcCT⟩ (C7 X G aCT) b78 Gai b80 m80 Gaw b79 m79 Gar b73 ⟨a73,i73,k73⟩ Gps Gsl GR Gtw Gle Gpd Gfo Gsm Gnx
def walk {l:PySem.W.OpenLaw}{q:Program}{loose:List Str}{XP:(Str->Option Value)->Heap->Prop}{YP:World->Heap->Prop}{d:DefRec}{K:Params->W.Frag}(hn:l.most=some 63)(hdf:d.params.defaults=[])
  (hY:∀(w:World) (h:Heap),YP w h->(K w.params).In h)
  (F:∀(w:World) (mg:Str->Option Value) (fa:Addr) (h:Heap),(K w.params).In h->h.Ns mainGlobals mg->mg d.name=some (.ref fa) -> ∃fd:FuncData,(∀(s:Shared) (u:Value),BindsTo s fd ⟨[u],[]⟩ [("_law_script",u)])/\∀base:Heap,(K w.params).In base->base.Ns mainGlobals mg->FnOk l.prog w (K w.params) mg base CX0 12 fa fd ["_law_script"] (J8 (K w.params))) :
  PySem.W.WalkO q loose XP YP l.row.toRowW d [] (λf vs=>PySem.call f vs):=
 L2.walk_of (n:=63) (k:=12) (x := "_law_script") (CX:=λ_=>CX0) (sp:=λw=>J8 (K w.params)) hn (by decide) hdf ⟨rfl,by decide,by decide⟩ hY F (λ_ _ a ns hl _ hS=>⟨a,ns,rfl,hS,hl,λ_=>rfl⟩) λ_ _ _ _ _ z=>z
end K19
namespace PySem.W.Fast
/-- names that are taken: the twins that would have them are made for the walk alone,and it goes without them as well -/
def tw1109696974145618429:=0
def tw16635954404683319613:=0
def tw18424583067005251793:=0
def tw11832783067167347981:=0
def tw16693167915212402261:=0
def tw2404005357850188605:=0
def tw9638270641396184067:=0
def tw8675513922014975666:=0
def tw11562966138230556101:=0
def tw9340912034876746668:=0
def tw17717467156966079945:=0
def tw4421853505962583016:=0
def tw15859217028117059964:=0
def tw7899550604029760113:=0
def tw13739876627937180395:=0
def tw10500495347699787971:=0
def tw6498864656882783783:=0
def tw16138804821095528468:=0
def tw15346305876021814354:=0
def tw16763030298872058312:=0
def tw8783123189801275581:=0
def tw4835216239133830840:=0
def tw137284744830309534:=0
def tw11156127271498110858:=0
def tw10196180018129907871:=0
def tw10025064520493152550:=0
def tw14444532248106674108:=0
def tw13085787221645110420:=0
def tw13743551014064385281:=0
def tw8901733761938184894:=0
def tw4798938119049414432:=0
def tw8328827287483437463:=0
def tw13017389156593888212:=0
def tw8947754011143672597:=0
def tw12229082572810148173:=0
def tw2558920429689193467:=0
def tw9891086976186488188:=0
def tw10963605457830684746:=0
def tw17434378743765552140:=0
def tw11523167871911641292:=0
def tw5321791374326137382:=0
def tw18265404062984187273:=0
def tw140795193623810695:=0
def tw17589466501788775913:=0
def tw9501581085208442047:=0
def tw12736583317714223219:=0
def tw1646793512175184165:=0
def tw7361443814932810515:=0
def tw3555302718195169358:=0
def tw10860613627412505228:=0
def tw3688919911906576093:=0
def tw13431967107862571348:=0
def tw15269192569442981258:=0
def tw17137186705682820568:=0
def tw7523911622734036187:=0
def tw16481400773185864959:=0
def tw13861152998254581125:=0
def tw17331153050227690465:=0
def tw11417233209483374582:=0
def tw16048693848767389548:=0
def tw12198237574069327234:=0
def tw6186442530371850379:=0
def tw2319799407955831420:=0
def tw9921747983017099514:=0
def tw8759649668115191305:=0
def tw3445982850751777400:=0
def tw11558310515636202762:=0
def tw5014627925487993410:=0
def tw14258386926696951042:=0
def tw9109764172865067578:=0
def tw4205162795443815102:=0
def tw11233160423378819760:=0
def tw4731344473779504729:=0
def tw10796419749069902015:=0
def tw5968821644756639493:=0
def tw18424494639256834701:=0
def tw4494945257159407048:=0
def tw2046746929331209548:=0
def tw17048667397260641922:=0
def tw14391014720523951243:=0
def tw15368679896128661187:=0
def tw12619201291008600447:=0
def tw11775121797289791245:=0
def tw9107495353025782564:=0
def tw6111714804769765311:=0
def tw8021751321715726919:=0
def tw443807547036086511:=0
def tw14637599363206624846:=0
def tw3251334593243732591:=0
def tw18048503492987233525:=0
def tw2085741465115551060:=0
def tw15372730020017411857:=0
def tw4826997067329526931:=0
def tw7454150181121757667:=0
def tw14034083633903685710:=0
def tw10800781880658068820:=0
def tw3483274368287676603:=0
def tw10166118302208493913:=0
def tw14656440340353165490:=0
def tw5234574180247636975:=0
def tw2392652386686918367:=0
def tw3470127014134512851:=0
def tw14387616151908349450:=0
def tw11085322594022347053:=0
def tw8853685233196713521:=0
def tw9175115361211685229:=0
def tw4612664532092268851:=0
def tw4675067236583122936:=0
def tw14712691885804047338:=0
def tw11894077201241798807:=0
def tw12774110792567907419:=0
def tw18283108005371016250:=0
def tw16008818706346040666:=0
def tw9180659814890527824:=0
def tw5349648038152598840:=0
def tw5268986373845701489:=0
def tw8955228181814761976:=0
def tw6583578443618932141:=0
def tw6267844862980199429:=0
def tw8516331955026900834:=0
def tw14756430673402294329:=0
def tw2995907469761417799:=0
def tw12806496115401954010:=0
def tw9032262893383185801:=0
def tw8878572809626874219:=0
def tw15502927528089253637:=0
def tw6943007944422328707:=0
def tw236960815668043126:=0
def tw13202018286109416189:=0
def tw936977503045683179:=0
def tw9713073891883297220:=0
def tw571274056727636702:=0
def tw2522600263429707778:=0
def tw11602393379056683786:=0
def tw2175551655163317164:=0
def tw3287543568510990301:=0
def tw3307763590840852357:=0
def tw2865425091384957527:=0
def tw16024996088901720898:=0
def tw16551849656585468919:=0
def tw13189922346459955237:=0
def tw4080290851540493164:=0
def tw17241376503938338083:=0
def tw12204947914990016640:=0
def tw15302112822542752532:=0
def tw12316745606937263974:=0
def tw11518535879279975931:=0
def tw15345700444407536652:=0
def tw8796250597351436321:=0
def tw14202166917706807490:=0
def tw2609306611993235385:=0
def tw16014578655869536449:=0
def tw9210596722331464235:=0
def tw5396911024173428743:=0
def tw2400801864642512191:=0
def tw7821839273602216209:=0
def tw4408519475556317420:=0
def tw14332812349276919085:=0
def tw8710237890541465839:=0
def tw9775627211664094477:=0
def tw6213519930467992184:=0
def tw434386512715742332:=0
def tw3175792673740300388:=0
def tw3210018361128346027:=0
def tw10046274825920014109:=0
def tw13743235645188557567:=0
def tw10688404360444990869:=0
def tw8675000330143800959:=0
def tw17158261058970418471:=0
def tw18286922088312015286:=0
def tw16207358712455892607:=0
def tw16900630509243055761:=0
def tw12515726893090811304:=0
def tw3144705321678702273:=0
def tw9404574233452725099:=0
def tw18083477763418506579:=0
def tw13730737914854498484:=0
def tw14956493820900952440:=0
def tw4307622904116302051:=0
def tw5587655203230608326:=0
def tw17663471668872588592:=0
def tw1490130788959280728:=0
def tw2653282250600567885:=0
def tw2637560485975930798:=0
def tw9630599122461634579:=0
def tw2417859679038769542:=0
def tw16370010134383753029:=0
def tw17385113469041930369:=0
def tw18243443466213420767:=0
def tw6306661269811989141:=0
def tw17364911948130555321:=0
def tw14812371831615408042:=0
end PySem.W.Fast
open PySem PySem.W PyProof.Rows
set_option maxRecDepth 100000 in
set_option maxHeartbeats 0 in
theorem PySem.Challenge.cw_grope_k19_whole_the_atlas_is_closed_holds : PySem.Challenge.rw_grope_k19_whole_the_atlas_is_closed.Holds := by
 w_on;o_law;k_head;(case hw=>w_witness2)
 k_fill
 refine K19.walk (l:=PySem.Challenge.rw_grope_k19_whole_the_atlas_is_closed) rfl rfl (λw h Y=>PySem.W.kIn_of Y) ?F
 case F=>
  intro w mg fa h KX G hmg
  refine' K19.all_mk KX G hmg ?q1 ?q2 ?q3 ?q4 ?q5 ?q6 ?q7 ?q8 ?q9 ?q10 ?q11 ?q12 ?q13 ?q14 ?q15 ?q16 ?q17 ?q18 ?q19 ?q20 ?q21 ?q22 ?q23 ?q24 ?q25 ?q26 ?q27 ?q28 ?q29 ?q30 ?q31 ?q32 ?q33 ?q34 ?q35 ?q36 ?q37 ?q38 ?q39 ?q40 ?q41 ?q42 ?q43 ?q44 ?q45 ?q46 ?q47 ?q48 ?q49 ?q50 ?q51 ?q52 ?q53 ?q54 ?q55 ?q56 ?q57 ?q58 ?q59 ?q60 ?q61 ?q62 ?q63 ?q64 ?q65 ?q66 ?q67 ?q68 ?q69 ?q70 ?a71 ?l71 ?c71 ?k71 ?aC ?a72 ?i72 ?l72 ?c72 ?k72 ?a73 ?i73 ?l73 ?c73 ?k73 ?a74 ?i74 ?l74 ?c74 ?k74 ?a75 ?i75 ?l75 ?c75 ?k75 ?a76 ?i76 ?l76 ?c76 ?k76 ?pg ?hd ?po ?sa ?mk ?kc ?nP ?nS ?aCH ?pgCH ?hdCH ?poCH ?saCH ?mkCH ?kcCH ?nCH_1 ?nCH_2 ?nCH_3 ?nCH_4 ?nCH_5 ?nCH_6 ?aCT ?pgCT ?hdCT ?poCT ?saCT ?mkCT ?kcCT ?nCT_1 ?nCT_2 ?nCT_3 ?q77 ?q78 ?q79 ?q80 ?gL ?vL ?gO ?vO ?gP ?vP ?gT ?vT ?gWc ?vWc ?gSc ?vSc ?gNc ?vNc ?gRc ?vRc ?gN ?lN ?vN ?gF ?lF ?vF ?lF1 ?vF1 ?lF2 ?vF2 ?lF3 ?vF3 ?lF4 ?vF4 ?gPl ?lPl ?sPl ?vPl ?hPl ?gLi ?lLi ?sLi ?vLi ?hLi ?lT1 ?wT1 ?lT2 ?wT2 ?lT3 ?wT3 ?lT4 ?wT4 ?z1 ?z2 ?z3 ?z4 ?z5 ?z6 ?z7 ?z8 ?z9 ?z10 ?z11 ?z12 ?z13 ?z14 ?z15 ?z16 ?z17
  all_goals (try unfold K19.nA)
  all_goals (try unfold K19.lK)
  case q1|q2|q3|q4|q5|q6|q7|q8|q9|q10|q11|q12|q13|q14|q15|q16|q17|q18|q19|q20|q21|q22|q23|q24|q25|q26|q27|q28|q29|q30|q31|q32|q33|q34|q35|q36|q37|q38|q39|q40|q41|q42|q43|q44|q45|q46|q47|q48|q49|q50|q51|q52|q53|q54|q55|q56|q57|q58|q59|q60|q61|q62|q63|q64|q65|q66|q67|q68|q69|q70=>refine' .mk ?a ?l ?c ?k;case a | l | c | k=>k_is
  case a71|l71|c71|k71|aC|a72|i72|l72|c72|k72|a73|i73|l73|c73|k73|a74|i74|l74|c74|k74|a75|i75|l75|c75|k75|a76|i76|l76|c76|k76|pg|hd|po|sa|mk|kc|nP|nS|aCH|pgCH|hdCH|poCH|saCH|mkCH|kcCH|nCH_1|nCH_2|nCH_3|nCH_4|nCH_5|nCH_6|aCT|pgCT|hdCT|poCT|saCT|mkCT|kcCT|nCT_1|nCT_2|nCT_3=>k_is
  case q77|q78|q79|q80=>refine' .mk ?a ?i ?l ?c ?k;case a | i | l | c | k=>k_is
  (case gL=>k_is)
  (case vL=>first | rfl | decide +kernel | k_is)
  (case gO=>k_is)
  (case vO=>first | rfl | decide +kernel | k_is)
  (case gP=>k_is)
  (case vP=>first | rfl | decide +kernel | k_is)
  (case gT=>k_is)
  (case vT=>first | rfl | decide +kernel | k_is)
  (case gWc=>k_is)
  (case vWc=>first | rfl | decide +kernel | k_is)
  (case gSc=>k_is)
  (case vSc=>first | rfl | decide +kernel | k_is)
  (case gNc=>k_is)
  (case vNc=>first | rfl | decide +kernel | k_is)
  (case gRc=>k_is)
  (case vRc=>first | rfl | decide +kernel | k_is)
  case gN|lN=>k_is
  (case vN=>first | rfl | decide +kernel | k_is)
  case gF|lF=>k_is
  (case vF=>first | rfl | decide +kernel | k_is)
  (case lF1=>k_is)
  (case vF1=>first | rfl | decide +kernel | k_is)
  (case lF2=>k_is)
  (case vF2=>first | rfl | decide +kernel | k_is)
  (case lF3=>k_is)
  (case vF3=>first | rfl | decide +kernel | k_is)
  (case lF4=>k_is)
  (case vF4=>first | rfl | decide +kernel | k_is)
  case gPl|lPl=>k_is
  case sPl|vPl=>first | rfl | decide +kernel
  (case hPl=>first | rfl | (with_unfolding_all rfl))
  case gLi|lLi=>k_is
  case sLi|vLi=>first | rfl | decide +kernel
  (case hLi=>first | rfl | (with_unfolding_all rfl))
  (case lT1=>k_is)
  (case wT1=>first | rfl | decide +kernel | k_is)
  (case lT2=>k_is)
  (case wT2=>first | rfl | decide +kernel | k_is)
  (case lT3=>k_is)
  (case wT3=>first | rfl | decide +kernel | k_is)
  (case lT4=>k_is)
  (case wT4=>first | rfl | decide +kernel | k_is)
  case z1|z2|z3|z4|z5|z6|z7|z8|z9|z10|z11|z12|z13|z14|z15|z16|z17=>k_is
#print axioms PySem.Challenge.cw_grope_k19_whole_the_atlas_is_closed_holds
