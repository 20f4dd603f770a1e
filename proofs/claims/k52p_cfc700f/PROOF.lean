import PyProof.Rows.All
import Wide.All
import OpenK.AllK
import Wide.FinOn
import Lean
import PyProof.EqAt
import PyProof.EqKinds
import PyProof.TupleCall
import PySem.Challenge.RW_grope_k52_errands_of_texts
set_option Elab.async false
set_option linter.all false
set_option maxRecDepth 100000
set_option maxHeartbeats 4000000
def Δ{p:Prop}(h:p:=by decide +kernel):p:=h
def Θ{p:Prop}(h:p:=by simp):p:=h
def Ξ{p:Prop}(h:p:=by decide):p:=h
def Φ{p:Prop}(h:p:=by rfl):p:=h
def Ψ{p:Prop}(h:p:=by lia):p:=h
def U{α:Sort u}{a:α}:a=a:=rfl
open Nat (ne_of_lt le_of_lt le_of_eq lt_trans le_of_not_lt lt_of_le_of_lt lt_or_ge mod_lt testBit_or testBit_two_pow zero_testBit eq_of_testBit_eq)
open List (mem_filterMap any_eq_false replicate getElem?_take_of_lt length_nil nodup_nil pairwise_iff_getElem pairwise_lt_range ext_getElem not_lt perm_ext_iff_of_nodup filter_eq_nil_iff map_congr_left mem_of_mem_take take_succ)
open Option (isSome_iff_exists map_some isSome_map isSome)
open Bool (not_eq_true')
open Int (one_mul emod_nonneg emod_lt_of_pos)
noncomputable section
def Ab:=@PySem.wpAny_bind
def Ae:=@PySem.wpAny_pure
def Ax:=@PySem.Heap.get?_push_of_some
def Ah:=@List.length_map
def Ay:=@List.getElem?_eq_getElem
def AW:=@List.getElem?_eq_some_iff
def An:=@Nat.le_refl
def Ag:=@if_neg
def A4:=@PySem.Heap.get?_push_size
def AF:=@List.mem_singleton
def Ar:=@List.mem_cons
def AV:=@decide_eq_true
def AB:=@PySem.sizeLine_eq
def AM:=@List.length_append
def AH:=@PySem.Heap.lt_size
def BN:=@List.take_succ_eq_append_getElem
def AU:=@List.getElem?_map
def Bc:=@List.mem_cons_of_mem
def AS:=@List.not_mem_nil
def Bp:=@of_decide_eq_true
def Bi:=@decide_eq_false
def Bh:=@Option.some.inj
def AR:=@List.map_append
def Bb:=@List.mem_cons_self
def Bo:=@List.cons_ne_nil
def As:=@if_pos
def BI:=@Bool.false_ne_true
def AQ:=@or_false
def AK:=@List.mem_map
def Bm:=@List.length_take
def A5:=@congrArg
def BM:=@PySem.boot_len
def Bx:=@List.size_toArray
def Cy:=@List.getD_eq_getElem?_getD
def Bd:=@Nat.ne_of_lt
def Br:=@List.mem_append
def Cc:=@List.mem_of_getElem?
def CQ:=@List.getElem?_append_left
def Bg:=@List.map_cons
def Ct:=@PySem.wpAny_call_entry
def B9:=@PySem.wpAny_holding
def BC:=@List.append_nil
def DM:=@Array.getElem?_eq_getElem
def CP:=@PySem.wpAny_setField_rec
def BQ:=@List.take_length
def B4:=@List.append_assoc
def BU:=@List.length_cons
def Cp:=@Nat.lt_of_lt_of_le
def Bk:=@List.map_map
def C3:=@PySem.wpAny_newObj_type
def Eb:=@PySem.wpAny_callSpecial?_slot
def DK:=@List.getElem?_append_right
def DJ:=@PySem.F.slot_str_split
def Dk:=@PySem.F.called_set
def Cb:=@List.getElem_mem
def Dw:=@Array.length_toList
def Bt:=@Nat.zero_le
def C2:=@PySem.PassesOwn.never
def Ek:=@PySem.F.plainAttrs_str
def Co:=@Bool.and_eq_true
def C1:=@PySem.Heap.size_push
def CO:=@Int.toNat_natCast
def FE:=@PyProof.Rows.callWith_type1
def EM:=@PySem.F.type_str_split
def Cw:=@PySem.wpAny_field
def EL:=@Array.getElem?_toList
def Jo:=@PyProof.Rows.F.plain_set_update_loop
def Hk:=@PySem.F.slot_dict_itemiterator_next
def E5:=@PySem.Heap.get?_update_self
def Ej:=@decide_eq_true_eq
def Hj:=@PyProof.Rows.slot_tuple_getitem
def CD:=@PySem.wpAny_mono
def E4:=@PySem.Around.under_plainId
def Ea:=@PySem.codeAny_builtin
def Ei:=@List.mem_append_right
def Dj:=@List.nodup_append
def CN:=@PySem.W.mg_none_of
def EK:=@PySem.wpAny_truthy_bool
def Dc:=@List.length_drop
def Hi:=@List.exists_cons_of_ne_nil
def Dv:=@List.length_range
def FD:=@beq_eq_false_iff_ne
def CM:=@Nat.lt_irrefl
def FC:=@PySem.Heap.SameBut.update
def DZ:=@Bool.false_eq_true
def Gi:=@PySem.StrLaws.glued_eq_join
def Gh:=@PySem.builtinLookup_eq_fast
def Gg:=@List.take_append_drop
def EJ:=@PySem.wpAny_specialOf
def EI:=@Bool.eq_iff_iff
def EH:=@PySem.wpAny_seqItems
def Hh:=@Array.getElem?_eq_none
def FA:=@List.take_of_length_le
def Du:=@List.nodup_cons
def OB:=@PyProof.Rows.F.entry_set_update_loop
def DY:=@Sum.inr.inj
def EG:=@PySem.wpAny_attempt
def OA:=@PySem.F.slot_dict_itemiterator_iter
def L3:=@PySem.F.slot_dict_keyiterator_next
def Jn:=@PySem.F.plainAttrs_dict
def JI:=@PySem.F.slot_list_index
def JH:=@PySem.F.slot_dict_items
def De:=@if_false
def Dz:=@List.mem_range
def HM:=@List.mem_map_of_mem
def JG:=@PySem.Calls.callWith_builtin
def JF:=@PySem.Heap.get?_update_other
def Ee:=@PySem.wpAny_rule
def Fc:=@PySem.plainId_quiet
def Fb:=@List.cons.inj
def Gv:=@PySem.wpAny_isInstance
def Gu:=@List.length_singleton
def Mu:=@PySem.SeqAt.canLay_of_shaped
def Ck:=@PySem.W.mg_of
def FO:=@List.filterMap_cons
def HL:=@PySem.Calls.spliced_cons
def HK:=@PySem.wpAny_Call_Name_kw
def FN:=@List.drop_left
def Dy:=@Nat.ne_of_gt
def E9:=@PySem.wpAny_typeOf
def Gs:=@PySem.typeLookup_type
def O3:=@PySem.wpAny_typeNameOfWhole_itemiter
def HG:=@PySem.wpAny_pyIter_list
def Hz:=@PySem.wpAny_dictEntries
def FM:=@Nat.add_assoc
def FL:=@Nat.lt_succ_of_lt
def O2:=@PySem.wpAny_typeNameOfWhole_keyiter
def Dm:=@Nat.le_succ
def Hy:=@beq_self_eq_true
def Gr:=@List.Perm.refl
def Hx:=@List.length_filter_le
def Gq:=@List.drop_drop
def E8:=@List.all_eq_true
def JE:=@PySem.wpAny_pyIter_tuple
def FK:=@Nat.lt_succ_self
def FJ:=@PySem.codeAny_mono
def JD:=@PySem.Obj.data_mapFields
def JC:=@List.Sublist.nodup
def Hw:=@List.mem_append_left
def Hv:=@PySem.wpAny_passesOwn
def Dx:=@if_true
def Mt:=@PySem.F.slot_dict_get
def Hu:=@List.getElem?_of_mem
def Gp:=@PySem.Paired.length
def Ed:=@Nat.le_trans
def O1:=@PySem.F.slot_tuple_iterator_next
def O0:=@Array.getElem?_eq_some_iff
def JB:=@PySem.Calls.spliced_nil
def JA:=@PySem.wpAny_pyIter_slot
def E7:=@beq_iff_eq
def EO:=@List.take_zero
def Ht:=@List.drop_zero
def Jz:=@List.length_replicate
def Gn:=@PySem.call_meetsIn
def OZ:=@PySem.AutoSeq1.wpAny_loadPart'
def OY:=@PySem.wpAny_typeNameOf_keyiter
def Ms:=@PySem.mem_of_lookup
def Mr:=@PySem.F.plain_extend_loop
def OX:=@PySem.F.plainAttrs_list
def OW:=@PySem.F.type_list_index
def OV:=@List.filter_cons_of_pos
def OU:=@List.filter_cons_of_neg
def Ec:=@Ne.symm
def Hs:=@List.sum_cons
def FI:=@List.find?_cons
def Jy:=@List.nil_append
def Jx:=@PySem.wpAny_updateSeq
def Mp:=@List.length_eq_zero_iff
def Jw:=@PySem.wpAny_dictEpoch
def Tv:=@List.Nodup.length_le_of_subset
def Gm:=@List.lookup_cons
def Gk:=@PySem.wpAny_of_eq
def Mo:=@PySem.wpAny_setState_of
def Hr:=@List.take_sublist
def DN:=@Or.inr
def Tu:=@PySem.SeqAt.compareEq_shaped
def Jv:=@PySem.wpAny_fieldsOf
def Hq:=@Int.zero_add
def Xs:=@PySem.wpAny_callSpecialIfBoundUnlessNone?_slot
def OT:=@PySem.F.slot_NoneType_hash
def OS:=@PySem.Calls.evalArgs_plain
def OR:=@PySem.codeAny_call_builtin
def Mn:=@PySem.wpAny_askSetting
def Ho:=@List.getElem_inj
def Hn:=@List.any_eq_true
def Mm:=@List.cons.injEq
def Mj:=@Option.map_eq_some_iff
def Mi:=@Nat.min_eq_left
def Ts:=@PySem.Calls.call_function_entry
def Tr:=@PySem.F.args_dict_items_1
def Tq:=@List.append_eq_append_iff
def Xr:=@PySem.F.args_dict_itemiterator_iter_1
def FH:=@Nat.le_of_lt
def Tp:=@PySem.F.args_tuple_add_2
def Gj:=@LawfulBEq.eq_of_beq
def To:=@PySem.F.entry_dict_items
def Tn:=@PySem.F.slot_list_getattribute
def FG:=@List.map_take
def Hm:=@List.mem_filter
def Hl:=@PySem.call_meets
def Mh:=@PySem.wpAny_setField
def Mg:=@PySem.isSubtype_stop
def Mf:=@Bool.and_false
def Tj:=@PySem.F.entry_tuple_add
def Ti:=@PySem.wpAny_Call_method0_late
def Th:=@PySem.F.type_dict_items
def OQ:=@PySem.F.slot_tuple_hash
def Tg:=@List.getElem?_set_self
def Tf:=@PySem.F.slot_tuple_add
def Te:=@PySem.F.entry_dict_get
def Td:=@PySem.F.excBase_ValueError
def Tc:=@PySem.wpAny_isOneOf_itemiter
def Tb:=@List.Perm.append_right
def Ta:=@PySem.StrLaws.join_length_le
def Me:=@List.filter_append
def OP:=@Array.toList_inj
def OO:=@List.getElem?_eq_none
def ON:=@PySem.wpAny_typeOf_ref
def Mb:=@PySem.W.hideAll_get
def FF:=@List.map_nil
def S9:=@PySem.Obj.isFreed_of_fields
def S8:=@PySem.wpAny_notOrdered_dict
def S7:=@List.Perm.append_left
def S6:=@List.perm_append_comm
def Xq:=@PySem.F.args_dict_itemiterator_next_1
def S5:=@List.getElem?_set_ne
def OM:=@PySem.wpAny_execs_nil
def Ju:=@True.intro
def Jt:=@PySem.wpAny_call
def Js:=@PySem.typeIs_str
def OL:=@PySem.F.slot_zip_next
def E6:=@not_or
def OK:=@Bool.or_eq_true
def Jr:=@List.foldl_cons
def S4:=@List.mem_of_mem_drop
def Ma:=@List.pairwise_map
def L9:=@List.filter_congr
def OJ:=@Int.toNat_of_nonneg
def S3:=@PySem.W.plainGet_of
def S2:=@PySem.evalArgs_none
def S1:=@PySem.wpAny_isSubtype_exc
def S0:=@PySem.wpAny_setEntries_of
def SZ:=@List.toList_toArray
def Xp:=@PySem.SeqAt.compareNe_shaped
def OI:=@PySem.isSubtype_type
def OH:=@List.take_left
def L8:=@PySem.wpAny_throw
def L7:=@PySem.wpAny_letGo
def SY:=@Array.append_assoc
def SX:=@PySem.W.callWith_K
def SW:=@List.getElem?_replicate
def SV:=@PySem.F.args_str_split_2
def SU:=@Array.all_eq_true'
def SS:=@PySem.Code.quiet_builtin
def SR:=@List.contains_cons
def Xo:=@List.idxOf_lt_length_of_mem
def OG:=@Bool.or_false
def OF:=@List.all_cons
def OE:=@PySem.wpAny_handled
def Xn:=@PySem.F.sub_list_frozenset
def Xm:=@List.length_eraseIdx_of_lt
def Xl:=@PySem.F.excAttr_ValueError
def SQ:=@PySem.F.entry_str_split
def SO:=@Nat.lt_trichotomy
def SN:=@bne_self_eq_false
def SM:=@List.Pairwise.imp
def L6:=@List.of_mem_zip
def L5:=@PySem.Walks.list
def Xk:=@PySem.F.args_list_index_2
def Xj:=@List.getLast?_eq_some_iff
def Xi:=@List.getLast?_eq_none_iff
def L4:=@List.range_succ
def Jq:=@List.any_cons
def Jp:=@Nat.lt_trans
def SL:=@List.cons_append
def OD:=@Bool.or_true
def SJ:=@List.getElem?_toArray
def OC:=@Nat.zero_add
def SH:=@List.forIn_cons
def SF:=@Bool.false_xor
namespace WK
open PySem PyProof.Rows
section
variable {prog:Program}{w:World}{A:Around}{E:Value->Shared->Prop}{s:Shared}
def PH (prog:Program)(w:World)(room:Nat)(h:Heap)(v:Value)(i:Int)(n:Nat):Prop:=∀(A:Around) (E:Value->Shared->Prop) (s:Shared) (Q:Int->Shared->Prop),A.units+room<cLine->s.heap=h->Q i { s with toks:=s.toks+n }->wpAny (model prog w) A (pyHash v) Q E s
inductive JN (prog:Program)(w:World)(room:Nat)(h:Heap):List Value->List Int->Nat->Prop
 | nil:JN prog w room h [] [] 0
 | cons {v:Value}{i:Int}{n:Nat}{vs:List Value}{is:List Int}{m:Nat}:PH prog w room h v i n->JN prog w room h vs is m->JN prog w room h (v::vs) (i::is) (n+m)
def qH (v:A.units+(room+4)<cLine)(p:s.heap.get? a=some o)(q:o.cls=.type "tuple")(r:o.data=.seq items n)(u:JN prog w room s.heap items.toList is m)
  (h:Q (reduceHash (Builtin.Tuple.tupleHashOf is)) { s with toks:=s.toks+(m+1) }):wpAny (model prog w) A (pyHash (.ref a)) Q E s:=by
 have f:s.TypeIs (.ref a) "tuple" := ⟨o,p,q⟩
 unfold pyHash
 first | unfold pyHashByItsType | skip
 first | refine Ab (wpAny_cRoomFor_or (.inr Ψ) ?_) | skip
 refine Ab (EJ f OQ.lookup ?_)
 rw[Ag (by rw[beq_builtin_none];exact BI)]
 refine Ab (EJ f OQ.lookup ?_)
 show wpAny _ _ (callSpecialIfBoundUnlessNone? (.ref a) "__hash__" _ >>= _) Q E s
 refine Ab (Xs f OQ (Ct OQ f F.entry_tuple_hash ?_ (F.args_tuple_hash_1 _)))
 show wpAny _ _ (Builtin.Tuple.tupleItemsOf (.ref a) >>= _) _ _ s
 refine Ab (wpAny_tupleItemsOf p r ?_)
 apply Ab
 rw[<- Array.forIn_toList]
 refine wpAny_forIn_list _
  (λd (b:Array Int) s'=>∃(c left:List Int) (k l:Nat),is=c++left/\JN prog w room s.heap d left l/\b.toList=c/\m=k+l/\s'={ s with toks:=s.toks+k })
  _ ?_ ?_ _ _ ⟨[],is,0,m,U,u,U,Ψ,U⟩
 ·rintro x d b s' ⟨c,left,k,l,rfl,j,g,rfl,rfl⟩;cases j with
  | @cons _ i n' _ is' m' h1 hl'=>
   refine Ab (h1 _ _ _ _ ?_ U ?_)
   ·lia
   first
    | exact Ae ⟨c++[i],is',k+n',m',Θ,hl',by simp[g],Ψ,by simp[FM]⟩
    | exact Ab (Ae (Ae ⟨c++[i],is',k+n',m',Θ,hl',by simp[g],Ψ,by simp[FM]⟩))
 rintro b s' ⟨c,left,k,l,rfl,j,g,rfl,rfl⟩
 cases j
 rw[BC]at h
 show wpAny _ _ (retInt (Builtin.Tuple.tupleHashOf b.toList)) _ _ _
 rw[g]
 refine wpAny_ret_mkInt ?_
 show wpAny _ _ (if (decide (-(2:Int)^63<=Builtin.Tuple.tupleHashOf c) && decide (Builtin.Tuple.tupleHashOf c<2^63))=true then _ else _) Q E _
 unfold reduceHash at h
 by_cases e:(decide (-(2:Int)^63<=Builtin.Tuple.tupleHashOf c) && decide (Builtin.Tuple.tupleHashOf c<2^63))=true
 ·rw[As e];rw[As e]at h;exact Ae (by simpa [FM] using h)
 rw[Ag e]
 rw[Ag e]at h
 exact Ab (Ee (Ae (by simpa [FM] using h)))
def qJ {t:Tok} :PH prog w room h (.str x t) (hashStr w x) 1:=λA E s Q _ _ q=>wpAny_pyHash_str q
def qK :PH prog w room h .none 0xFCA86420 1:=λA E s Q _ _ q=>by
 have a:s.TypeIs .none "NoneType" := rfl;unfold pyHash;first | unfold pyHashByItsType | skip
 have b:[Value.none].any Value.onHeap=false:=rfl;apply Ab;rw[cRoomFor,Ag (by rw[b];exact BI)];apply Ae;refine Ab (EJ a OT.lookup ?_);rw[Ag (by rw[beq_builtin_none];exact BI)];refine Ab (EJ a OT.lookup ?_);show wpAny _ _ (callSpecialIfBoundUnlessNone? .none "__hash__" _ >>= _) Q E s;refine Ab (Xs a OT (Ct OT a F.entry_NoneType_hash ?_ (F.args_NoneType_hash_1 _)));apply wpAny_ret_mkInt;show wpAny _ _ (if (decide (-(2:Int)^63<=0xFCA86420) && decide ((0xFCA86420:Int)<2^63))=true then _ else _) Q E _;rw[As Ξ];exact Ae q
def PH.mono (x:PH prog w r h v i n)(l:r<=r'):PH prog w r' h v i n:=λA E s Q a=>x A E s Q Ψ
mutual
/-- None,a text,a tuple of such -/
def okT:PyData->Bool
 | .none=>true
 | .str _=>true
 | .tuple l=>okTs l
 | _=>false
def okTs:List PyData->Bool
 | []=>true
 | d::r=>okT d && okTs r
end
mutual
def hD (w:World):PyData->Int
 | .none=>0xFCA86420
 | .str x=>hashStr w x
 | .tuple l=>reduceHash (Builtin.Tuple.tupleHashOf (R0 w l))
 | _=>0
def R0 (w:World):List PyData->List Int
 | []=>[]
 | d::r=>hD w d::R0 w r
end
mutual
def Sa:PyData->Nat
 | .tuple l=>R9 l+1
 | _=>1
def R9:List PyData->Nat
 | []=>0
 | d::r=>Sa d+R9 r
end
mutual
def dpD:PyData->Nat
 | .tuple l=>dpDs l+4
 | _=>0
def dpDs:List PyData->Nat
 | []=>0
 | d::r=>max (dpD d) (dpDs r)
end
mutual
theorem Ve :∀(d:PyData) (v:Value) (c:List Addr),okT d=true->Reads h v d c->PH prog w (dpD d) h v (hD w d) (Sa d)
 | .none,_,_,_,r=>by cases r;exact qK
 | .str x,_,_,_,r=>by cases r;exact qJ
 | .tuple l,_,_,ok,r=>by
  cases r with
  | tuple h1 h2 h3 h4=>intro A E s Q b a q;exact qH b (a▸h1) h2 h3 (a▸Vd l _ _ ok h4 (dpDs l) (An _)) q
 | .bool _,_,_,ok,_=>nomatch ok
 | .int _,_,_,ok,_=>nomatch ok
 | .list _,_,_,ok,_=>nomatch ok
 | .dict _,_,_,ok,_=>nomatch ok
theorem Vd :∀(l:List PyData) (vs:List Value) (b:List Addr),okTs l=true->ReadsAll h vs l b->∀r,dpDs l<=r->JN prog w r h vs (R0 w l) (R9 l)
 | [],_,_,_,r,_,_=>by cases r;exact .nil
 | d::l,_,_,ok,r,n,hn=>by
  cases r with
  | cons h1 h2=>
   have a:okT d=true/\okTs l=true:=by simpa [okTs] using ok
   have c:max (dpD d) (dpDs l)<=n:=hn;exact .cons ((Ve d _ _ a.1 h1).mono Ψ) (Vd l _ _ a.2 h2 n Ψ)
end
mutual
theorem UM (f:h.get? b=some o)(e:o.data=.dict es ep)(g:Heap.SameBut b h h'):∀(d:PyData) (v:Value) (c:List Addr),okT d=true->Reads h v d c->Reads h' v d c
 | .none,_,_,_,r=>by cases r;exact .none
 | .str x,_,_,_,r=>by cases r;exact .str _ _
 | .tuple l,_,_,ok,r=>by
  cases r with
  | @tuple a o' vs n xs c h1 h2 h3 h4=>
   have ne:a≠b:=λz=>by rw[z,f]at h1;cases h1;rw[e]at h3;cases h3
   exact .tuple ((g.2 a ne).trans h1) h2 h3 (UL f e g l _ _ ok h4)
 | .bool _,_,_,ok,_=>nomatch ok
 | .int _,_,_,ok,_=>nomatch ok
 | .list _,_,_,ok,_=>nomatch ok
 | .dict _,_,_,ok,_=>nomatch ok
theorem UL (f:h.get? b=some o)(c:o.data=.dict es ep)(g:Heap.SameBut b h h'):∀(l:List PyData) (vs:List Value) (e:List Addr),okTs l=true->ReadsAll h vs l e->ReadsAll h' vs l e
 | [],_,_,_,r=>by cases r;exact .nil
 | d::l,_,_,ok,r=>by
  cases r with
  | cons h1 h2=>
   have a:okT d=true/\okTs l=true:=by simpa [okTs] using ok
   exact .cons (UM f c g d _ _ a.1 h1) (UL f c g l _ _ a.2 h2)
end
mutual
theorem Wr:∀(x y:PyData),okT x=true->okT y=true->(PyData.eqv x y=true↔x=y)
 | .none,y,_,oy=>by cases y <;> simp[PyData.eqv,okT]at oy ⊢
 | .str a,y,_,oy=>by cases y <;> simp[PyData.eqv,okT]at oy ⊢
 | .tuple l,y,ox,oy=>by
  cases y with
  | tuple m=>have:=Wq l m ox oy;simp[PyData.eqv,this,PyData.tuple.injEq]
  | _=>simp[PyData.eqv,okT]at oy ⊢
 | .bool _,_,ok,_=>nomatch ok
 | .int _,_,ok,_=>nomatch ok
 | .list _,_,ok,_=>nomatch ok
 | .dict _,_,ok,_=>nomatch ok
theorem Wq:∀(l m:List PyData),okTs l=true->okTs m=true->(PyData.eqvAll l m=true↔l=m)
 | [],m,_,_=>by cases m <;> simp[PyData.eqvAll]
 | x::l,m,ol,om=>by
  cases m with
  | nil=>simp[PyData.eqvAll]
  | cons y m=>
   have a:okT x=true/\okTs l=true:=by simpa [okTs] using ol
   have b:okT y=true/\okTs m=true:=by simpa [okTs] using om
   simp[PyData.eqvAll,Co,Wr x y a.1 b.1,Wq l m a.2 b.2,Mm]
end
mutual
theorem U0 :∀(d:PyData) (v:Value) (j:List Addr) (n:Nat),okT d=true->dpD d<4*n->Reads h v d j->∀{A:Around}{E:Value->Shared->Prop}{s:Shared}{Q:Bool->Shared->Prop},s.heap=h->Q true s->wpAny (model prog w) A (eqIsQuiet n v) Q E s
 | .none,_,_,n,_,_,r,A,E,s,Q,_,q=>by cases r;rw[eqIsQuiet_byValue n rfl];exact Ae q
 | .str x,_,_,n,_,_,r,A,E,s,Q,_,q=>by cases r;rw[eqIsQuiet_byValue n rfl];exact Ae q
 | .tuple l,_,_,n,ok,hn,r,A,E,s,Q,hs,q=>by
  cases r with
  | @tuple a o' vs n' xs j h1 h2 h3 h4=>
   cases n with
   | zero=>exact absurd hn Ψ
   | succ n=>
    have m:dpDs l+4<4*(n+1):=hn;have e:s.heap.get? a=some o':=by rw[hs];exact h1
    have i:s.TypeIs (.ref a) "tuple" := ⟨o',e,h2⟩;unfold eqIsQuiet;refine Ab (EJ i F.slot_tuple_eq.lookup ?_);refine Ab (Gv i isSubtype_tuple_tuple ?_);simp only[Bool.not_true,DZ,De];refine Ab (EH e h3 (Ab ?_));rw[<- Array.forIn_toList];refine wpAny_forIn_list _ (λb r s'=>r.1=none/\s'=s/\∀v∈b,v∈vs.toList) _ ?_ ?_ _ _ ⟨U,U,λv o=>o⟩
    ·rintro v b r s' ⟨g,rfl,c⟩;refine Ab ((UZ (h:=h) l vs.toList _ n ok Ψ h4) v (c v Bb) hs ?_);simp only[Bool.not_true,DZ,De];exact Ae ⟨U,U,λu f=>c u (Bc _ f)⟩
    rintro⟨y,p⟩ s' ⟨g,rfl,_⟩;simp only at g;subst g;exact Ae q
 | .bool _,_,_,_,ok,_,_,_,_,_,_,_,_=>nomatch ok
 | .int _,_,_,_,ok,_,_,_,_,_,_,_,_=>nomatch ok
 | .list _,_,_,_,ok,_,_,_,_,_,_,_,_=>nomatch ok
 | .dict _,_,_,_,ok,_,_,_,_,_,_,_,_=>nomatch ok
theorem UZ :∀(l:List PyData) (vs:List Value) (c:List Addr) (n:Nat),okTs l=true->dpDs l<4*n->ReadsAll h vs l c->∀v∈vs,∀{A:Around}{E:Value->Shared->Prop}{s:Shared}{Q:Bool->Shared->Prop},s.heap=h->Q true s->wpAny (model prog w) A (eqIsQuiet n v) Q E s
 | [],_,_,_,_,_,r,v,b=>by cases r;cases b
 | d::l,_,_,n,ok,hn,r,v,b=>by
  cases r with
  | cons h1 h2=>
   have a:okT d=true/\okTs l=true:=by simpa [okTs] using ok
   have e:max (dpD d) (dpDs l)<4*n:=hn;rcases(Ar.mp b)with rfl | b
   ·exact U0 d _ _ n a.1 Ψ h1
   exact UZ l _ _ n a.2 Ψ h2 v b
end
instance dD:DecidableEq PyData:=λa b=>Classical.propDecidable (a=b)
def pN (h:Heap)(k:PyData)(a:Addr):Prop:=okT k=true/\k.canLay0=true/\dpD k<=12/\k.depth<=8/\∃as,Reads h (.ref a) k as
def dataKind (prog:Program)(w:World):HeapKind prog w PyData where
 is:=pN
 hash:=hD w
 draws:=Sa
 room:=λA=>A.units+16<cLine
 inj:=λhx hy=>by obtain⟨_,c,_,_,_,r⟩:=hx;obtain⟨_,_,_,_,_,r'⟩:=hy;exact SeqAt.Reads.unique _ _ _ _ _ c r r'
 keeps:=λx ho hd hs=>by obtain⟨h1,h2,h3,h4,as,r⟩:=x;exact⟨h1,h2,h3,h4,as,UM ho hd hs _ _ _ h1 r⟩
 pyHash:=λhu hk h=>by obtain⟨h1,h2,h3,h4,as,r⟩:=hk;exact Ve _ _ _ h1 r _ _ _ _ Ψ U h
 eqBool:=@λA E s x y a b Q hu hx hy h=>by
  obtain⟨h1,h2,h3,h4,as,r⟩:=hx;obtain⟨k1,k2,k3,k4,bs,r'⟩:=hy;refine SeqAt.eqBoolOverData _ _ _ _ _ _ _ _ _ _ _ _ r r' h2 k2 Ψ ?_;have e:PyData.eqv x y=decide (x=y):=by rw[EI,Ej];exact Wr x y h1 k1
  rw[e];exact h
 quiet:=λhk h=>by obtain⟨h1,h2,h3,h4,as,r⟩:=hk;exact U0 _ _ _ 8 h1 Ψ r U h
def room_in1 (a:A.units+20<cLine):(dataKind prog w).room A.in1:=by show A.units+1+16<cLine;lia
end
end WK
namespace L2
open PySem PySem.Spec PyProof.Rows
abbrev Key:=Sum Int Str
def DT:Key->Value->Bool
 | .inl k,v=>Value.isInt k v
 | .inr x,v=>Value.isStrOf x v
def LO (w:World):Key->Int
 | .inl k=>hashInt k
 | .inr x=>hashStr w x
theorem Dp:∀{k:Key}{v:Value},DT k v=true->(∃i t,k=Sum.inl i/\v=Value.int i t)\/(∃x t,k=Sum.inr x/\v=Value.str x t)
 | .inl i,v,h=>by obtain⟨t,e⟩:=Value.isInt_shape h;exact .inl ⟨i,t,U,e⟩
 | .inr x,v,h=>by obtain⟨t,e⟩:=Value.isStrOf_shape h;exact .inr ⟨x,t,U,e⟩
def VT (i:Int)(t:Tok):DT (.inl i) (.int i t)=true:=by simp[DT,Value.isInt]
def VS (x:Str)(t:Tok):DT (.inr x) (.str x t)=true:=by simp[DT,Value.isStrOf]
def oY (a b:Int):decide ((Sum.inl a:Key)=Sum.inl b)=(a == b):=by
 by_cases e:a=b
 ·subst e;simp
 rw[Bi (λq=>e (Sum.inl.inj q))];exact(FD.mpr e).symm
def oU (a b:Str):decide ((Sum.inr a:Key)=Sum.inr b)=decide (a=b):=by
 by_cases e:a=b
 ·subst e;simp
 rw[Bi (λq=>e (DY q)),Bi e]
def oX (a:Int)(b:Str):decide ((Sum.inl a:Key)=Sum.inr b)=false:=Bi (λq=>nomatch q)
def oW (a:Str)(b:Int):decide ((Sum.inr a:Key)=Sum.inl b)=false:=Bi (λq=>nomatch q)
def B2 (prog:Program)(w:World):PySem.KeyKind prog w Key where
 is:=DT
 hash:=LO w
 inj:=λv a b ha hb=>by
  rcases Dp ha with⟨i,t,rfl,rfl⟩ | ⟨x,t,rfl,rfl⟩
  ·rcases Dp hb with⟨j,u,rfl,e⟩ | ⟨y,u,rfl,e⟩
   ·injection e with e1 _;rw[e1]
   exact nomatch e
  rcases Dp hb with⟨j,u,rfl,e⟩ | ⟨y,u,rfl,e⟩
  ·exact nomatch e
  injection e with e1 _;rw[e1]
 byValue:=λk v h=>by rcases Dp h with⟨i,t,rfl,rfl⟩ | ⟨x,t,rfl,rfl⟩ <;> rfl
 pyHash:=λhv h=>by
  rcases Dp hv with⟨i,t,rfl,rfl⟩ | ⟨x,t,rfl,rfl⟩
  ·exact wpAny_pyHash_int h
  exact wpAny_pyHash_str h
 eqBool:=λhu hv h=>by
  rcases Dp hu with⟨i,t,rfl,rfl⟩ | ⟨x,t,rfl,rfl⟩
  ·rcases Dp hv with⟨j,u,rfl,rfl⟩ | ⟨y,u,rfl,rfl⟩
   ·rw[oY]at h;exact wpAny_eqBool_int h
   rw[oX]at h;exact SeqAt.EqAt.int_str i t y u _ _ _ _ h
  rcases Dp hv with⟨j,u,rfl,rfl⟩ | ⟨y,u,rfl,rfl⟩
  ·rw[oW]at h;exact SeqAt.EqAt.str_int x t j u _ _ _ _ h
  rw[oU]at h;exact wpAny_eqBool_str h
 «strs»:=λk x t v h=>by
  rcases Dp h with⟨i,u,rfl,e⟩ | ⟨y,u,rfl,e⟩
  ·exact nomatch e
  injection e with e1 _;subst e1;cases v <;> rfl
def mU (prog:Program)(w:World)(i:Int)(t:Tok):(B2 prog w).is (.inl i) (.int i t)=true:=VT i t
def mS (prog:Program)(w:World)(x:Str)(t:Tok):(B2 prog w).is (.inr x) (.str x t)=true:=VS x t
inductive V where
 | non | bl (b:Bool) | int (i:Int) | str (x:Str) | byt (b:Array UInt8) | flt (b:UInt64) | ref (a:Addr) | ty (n:String)
 deriving DecidableEq
def RelV:V->Value->Prop
 | .non,u=>u=Value.none
 | .bl b,u=>u=Value.bool b
 | .int i,u=>∃t,u=Value.int i t
 | .str x,u=>∃t,u=Value.str x t
 | .byt b,u=>∃t,u=Value.bytes b t
 | .flt b,u=>∃t,u=Value.float b t
 | .ref a,u=>u=Value.ref a
 | .ty n,u=>u=Value.type n
abbrev Vals:List V->List Value->Prop:=Paired RelV
def Vals.length (r:Vals xs us):xs.length=us.length:=Gp r
theorem Vals.get:∀{xs:List V}{us:List Value}{i:Nat}{x:V},Vals xs us->xs[i]? = some x->∃u,us[i]? = some u/\RelV x u
 | _,_,_,_,.nil,e=>by simp at e
 | _,_,0,_,.cons r _,e=>by simp at e;subst e;exact⟨_,U,r⟩
 | _,_,i+1,x,.cons _ t,e=>by obtain⟨u,a,b⟩:=Vals.get t (by simpa using e);exact⟨u,by simpa using a,b⟩
def Vals.append:∀{xs ys:List V}{us ws:List Value},Vals xs us->Vals ys ws->Vals (xs++ys) (us++ws)
  :=by
 intro x y u w h s;induction h with
 | nil=>exact s
 | cons r t i=>exact .cons r i
theorem Vals.take:∀{xs:List V}{us:List Value}(n:Nat),Vals xs us->Vals (xs.take n) (us.take n)
 | _,_,0,_=>.nil
 | _,_,_+1,.nil=>.nil
 | _,_,n+1,.cons r t=>.cons r (Vals.take n t)
theorem Vals.drop:∀{xs:List V}{us:List Value}(n:Nat),Vals xs us->Vals (xs.drop n) (us.drop n)
 | _,_,0,r=>r
 | _,_,_+1,.nil=>.nil
 | _,_,n+1,.cons _ t=>Vals.drop n t
def RelO:Option V->Option Value->Prop
 | some v,some u=>RelV v u
 | none,none=>True
 | _,_=>False
def KV {κ:Type}:List (κ×V)->List (κ×Value)->Prop:=Paired λ(p:κ×V) (q:κ×Value)=>p.1=q.1/\RelV p.2 q.2
def kV:Key->V
 | .inl i=>.int i
 | .inr x=>.str x
inductive HO where
 /-- a list -/
 | lst (xs:List V)
 /-- a tuple (never changes) -/
 | tup (xs:List V)
 /-- a dict whose keys are ints and texts;one whose keys are tuples of ints and texts (the empty one is both) -/
 | dK (kvs:List (Key×V)) | dT (kvs:List (PyData×V))
 /-- a set of ints: its members,its size -/
 | set (S:Int->Bool) (n:Nat)
 /-- an instance of the class at C,its dict at dx,its attributes -/
 | ins (C dx:Addr) (fs:List (Str×V))
 /-- the dict of the instance at x -/
 | own (x:Addr)
 /-- the dict of an exception -/
 | xd (fs:List (Str×V))
 /-- a bound method,f of x -/
 | met (f x:Addr)
 /-- a range object lo,lo+1,.. below hi -/
 | rng (lo hi:Int)
 /-- a thing that is known to the object (the script;a dict while a loop TU it): read,never written while it is so -/
 | frz (o:Obj) (u:HO)
 /-- a code object's table -/
 | tbl (ps:Array Value)
 /-- any other thing,by what is true of its one object (a def of one's own: SetO a S n:=HO.ext λh=>..) -/
 | ext (φ:Heap->Prop)
abbrev Hp:=Addr->Option HO
def upd (H:Hp)(a:Addr)(o:HO):Hp:=λb=>if b=a then some o else H b
def Af :upd H a o a=some o:=by unfold upd;rw[As rfl]
def Ao (h:b≠a):upd H a o b=H b:=by unfold upd;rw[Ag h]
def XX :upd (upd H a o) a u=upd H a u:=by funext b;unfold upd;split <;> rfl
def Ba {H:Hp}{a b:Addr}{o u:HO}(h:H a=some o)(h':H b=some u)(d:o≠u):a≠b:=by intro e;subst e;rw[h]at h';exact d (Bh h')
def A1 {H:Hp}{a b:Addr}{o:HO}(h:H a=some o)(h':H b=none):a≠b:=by intro e;subst e;rw[h]at h';cases h'
mutual
inductive RdD (H:Hp):V->PyData->Prop
 | non:RdD H .non .none
 | str (x:Str):RdD H (.str x) (.str x)
 | tup {a:Addr}{xs:List V}{ds:List PyData}:H a=some (.tup xs)->RdDs H xs ds->RdD H (.ref a) (.tuple ds)
inductive RdDs (H:Hp):List V->List PyData->Prop
 | nil:RdDs H [] []
 | cons {x:V}{d:PyData}{xs:List V}{ds:List PyData}:RdD H x d->RdDs H xs ds->RdDs H (x::xs) (d::ds)
end
mutual
theorem RdD.same (k:∀b xs,H b=some (.tup xs)->H' b=some (.tup xs)):∀{x:V}{d:PyData},RdD H x d->RdD H' x d
 | _,_,.non=>.non
 | _,_,.str x=>.str x
 | _,_,.tup e rs=>.tup (k _ _ e) (RdDs.same k rs)
theorem RdDs.same (k:∀b xs,H b=some (.tup xs)->H' b=some (.tup xs)):∀{xs:List V}{ds:List PyData},RdDs H xs ds->RdDs H' xs ds
 | _,_,.nil=>.nil
 | _,_,.cons a b=>.cons (RdD.same k a) (RdDs.same k b)
end
structure RdT (H:Hp)(a:Addr)(d:PyData):Prop where
 rd:RdD H (.ref a) d
 ok:WK.okT d=true
 lay:d.canLay0=true
 dp:WK.dpD d<=12
 de:d.depth<=8
def RdT.same (r:RdT H a d)(k:∀b xs,H b=some (.tup xs)->H' b=some (.tup xs)):RdT H' a d:=⟨r.rd.same k,r.ok,r.lay,r.dp,r.de⟩
section
variable (P:Program) (w:World)
def ObjOk (H:Hp)(h:Heap)(a:Addr):HO->Prop
 | .lst xs=>xs.length<=sizeLine/\∃(its:List Value) (n:Nat),Vals xs its/\h.get? a=some { cls:=.type "list",data:=.seq its.toArray n }
 | .tup xs=>xs.length<=sizeLine/\∃its:List Value,Vals xs its/\IsTup h a its.toArray
 | .dK kvs=>kvs.length<=sizeLine/\(a == sysModules)=false/\∃vs,KV kvs vs/\h.DictOf (B2 P w) a vs
 | .dT kvs=>kvs.length<=sizeLine/\(a == sysModules)=false/\∃xs:List (PyData×Addr×Value),
   Paired (λ(p:PyData×V) (q:PyData×Addr×Value)=>p.1=q.1/\RdT H q.2.1 p.1/\RelV p.2 q.2.2) kvs xs /\
   ∃o es ep,h.get? a=some o/\o.ExactDict/\o.data=.dict es ep/\es.toList=xs.map (entryOfKey (WK.dataKind P w))/\(xs.map (·.1)).Nodup
 | .set S n=>h.SetOf (intKind P w) a S n
 | .ins C dx fs=>H dx=some (.own a)/\fs.length<=1000/\dx≠a/\h.get? a=some (PySem.W.instObj C dx) /\
   ∃mA,h.Ns1 dx mA/\(∀f,RelO (fs.lookup f) (mA f))/\PySem.Within mA (fs.map (·.1))
 | .own _=>∃o,h.get? a=some o
 | .xd fs=>∃mA,h.Ns1 a mA/\∀f,RelO (fs.lookup f) (mA f)
 | .rng lo hi=>∃t u v,h.get? a=some { cls:=.type "range",data:=.fields #[.int lo t,.int hi u,.int 1 v] }
 | .frz o u=>h.get? a=some o/\ObjOk H h a u
 | .tbl ps=>h.get? a=some { cls:=.none,data:=.fields ps }
 | .met f x=>h.get? a=some (PySem.W.methodObj (.ref f) (.ref x))
 | .ext φ=>φ h/\(∃o,h.get? a=some o)/\∀h1 h2:Heap,φ h1->(∀o,h1.get? a=some o->h2.get? a=some o)->φ h2
def HOk (H:Hp)(h:Heap):Prop:=∀a o,H a=some o->ObjOk P w H h a o
end
section
variable {P:Program}{w:World}{H H':Hp}{h h':Heap}{a:Addr}{o:HO}
def ObjOk.lt (x:ObjOk P w H h a o):a<h.objs.size:=by
 cases o with
 | lst xs=>obtain⟨_,_,_,_,e⟩:=x;exact AH e
 | tup xs=>obtain⟨_,_,_,p⟩:=x;exact p.lt
 | dK kvs=>obtain⟨_,_,_,_,o,_,_,e,_⟩:=x;exact AH e
 | dT kvs=>obtain⟨_,_,_,_,o,_,_,e,_⟩:=x;exact AH e
 | set S n=>obtain⟨o,_,_,_,e,_⟩:=x;exact AH e
 | ins C dx fs=>obtain⟨_,_,_,e,_⟩:=x;exact AH e
 | own y=>obtain⟨_,e⟩:=x;exact AH e
 | xd fs=>obtain⟨_,⟨_,_,_,e,_⟩,_⟩:=x;exact AH e
 | rng lo hi=>obtain⟨_,_,_,e⟩:=x;exact AH e
 | frz ob u=>obtain⟨e,_⟩:=x;exact AH e
 | tbl ps=>exact AH x
 | met f y=>exact AH x
 | ext φ=>obtain⟨_,⟨_,e⟩,_⟩:=x;exact AH e
def Paired.mapP {e d:Type}{F G:e->d->Prop}:∀{c:List e}{l₂:List d},Paired F c l₂->(∀a b,F a b->G a b)->Paired G c l₂
  :=by
 intro c l h f;induction h with
 | nil=>exact .nil
 | cons r t i=>exact .cons (f _ _ r) i
def ObjOk.stay (x:ObjOk P w H h a o)(k:∀b u,(b=a\/H b=some (.own a))->h.get? b=some u->h'.get? b=some u)
  (A:∀b,H b=some (.own a)->H' b=some (.own a))(s:∀b xs,H b=some (.tup xs)->H' b=some (.tup xs)):ObjOk P w H' h' a o:=by
 induction o with
 | lst xs=>obtain⟨z,j,n,r,e⟩:=x;exact⟨z,j,n,r,k _ _ (.inl U) e⟩
 | tup xs=>obtain⟨z,j,r,g,e,c⟩:=x;exact⟨z,j,r,g,k _ _ (.inl U) e,c⟩
 | dK kvs=>obtain⟨z,y,vs,r,g,i,ep,e,c⟩:=x;exact⟨z,y,vs,r,g,i,ep,k _ _ (.inl U) e,c⟩
 | dT kvs=>obtain⟨z,y,xs,r,g,i,ep,e,c⟩:=x;exact⟨z,y,xs,Paired.mapP r λp q z=>⟨z.1,z.2.1.same s,z.2.2⟩,g,i,ep,k _ _ (.inl U) e,c⟩
 | set S n=>obtain⟨g,i,ep,t,e,c⟩:=x;exact⟨g,i,ep,t,k _ _ (.inl U) e,c⟩
 | ins C dx fs=>obtain⟨d,z,ne,e,m,⟨l,i,ep,e2,c⟩,r⟩:=x;exact⟨A _ d,z,ne,k _ _ (.inl U) e,m,⟨l,i,ep,k _ _ (.inr d) e2,c⟩,r⟩
 | own y=>obtain⟨g,e⟩:=x;exact⟨g,k _ _ (.inl U) e⟩
 | xd fs=>obtain⟨m,⟨l,i,ep,e,c⟩,r⟩:=x;exact⟨m,⟨l,i,ep,k _ _ (.inl U) e,c⟩,r⟩
 | rng lo hi=>obtain⟨t,u,v,e⟩:=x;exact⟨t,u,v,k _ _ (.inl U) e⟩
 | frz g u ih=>obtain⟨e,q⟩:=x;exact⟨k _ _ (.inl U) e,ih q⟩
 | tbl ps=>have e:=x;exact k a _ (.inl U) e
 | met f y=>have e:=x;exact k a _ (.inl U) e
 | ext φ=>obtain⟨p,⟨o,e⟩,st⟩:=x;exact⟨st _ _ p λo q=>k _ _ (.inl U) q,⟨o,k _ _ (.inl U) e⟩,st⟩
def HOk.lt (x:HOk P w H h)(e:H a=some o):a<h.objs.size:=(x a o e).lt
def HOk.fresh (x:HOk P w H h)(e:h.objs.size<=a):H a=none:=by
 cases q:H a with
 | none=>rfl
 | some u=>exact absurd (Cp (x.lt q) e) (CM _)
def HOk.kept (x:HOk P w H h)(k:∀b u,h.get? b=some u->h'.get? b=some u):HOk P w H h':=λa o e=>(x a o e).stay (λb u _ q=>k b u q) (λ_ q=>q) λ_ _ q=>q
def HOk.laid (x:HOk P w H h)(k:∀b u,h.get? b=some u->h'.get? b=some u)(g:h.objs.size<=a)(new:ObjOk P w (upd H a o) h' a o):HOk P w (upd H a o) h':=λb u e=>by
 have f:=x.fresh g;by_cases d:b=a
 ·subst d;rw[Af]at e;cases e;exact new
 rw[Ao d]at e;exact(x b u e).stay (λc v _ q=>k c v q) (λc q=>by rw[Ao (A1 q f)];exact q) λc xs q=>by rw[Ao (A1 q f)];exact q
end
def Rd (H:Hp)(a:Addr)(u:HO):Prop:=H a=some u\/∃o,H a=some (.frz o u)
def Rd.ok (r:Rd H a u)(x:HOk P w H h):ObjOk P w H h a u:=by
 rcases r with r | ⟨o,r⟩
 ·exact x a u r
 obtain⟨_,q⟩:=x a _ r;exact q
def Mx:Option HO->Prop
 | some (.lst _)=>True
 | some (.dK _)=>True
 | some (.dT _)=>True
 | some (.set _ _)=>True
 | some (.ins _ _ _)=>True
 | some (.ext _)=>True
 | _=>False
section
variable {P:Program}{w:World}{H:Hp}{h h':Heap}{x e:Addr}{o':HO}
def HOk.write (ok:HOk P w H h)(j:Mx (H x))(m:e=x\/H e=some (.own x))(k:∀b u,b≠e->h.get? b=some u->h'.get? b=some u)(l:∃u,h'.get? e=some u)
  (new:ObjOk P w (upd H x o') h' x o'):HOk P w (upd H x o') h':=λb u q=>by
 have d:∀c y,H c=some (.own y)->c≠x:=λc y r z=>by subst z;rw[r]at j;exact j
 have f:∀c xs,H c=some (.tup xs)->c≠x:=λc xs r z=>by subst z;rw[r]at j;exact j
 by_cases i:b=x
 ·subst i;rw[Af]at q;cases q;exact new
 rw[Ao i]at q
 by_cases a:b=e
 ·have n:H b=some (.own x):=by
   rcases m with z | z
   ·exact absurd (a.trans z) i
   rw[a];exact z
  rw[q]at n;cases n;obtain⟨v,o⟩:=l;exact⟨v,a▸o⟩
 refine(ok b u q).stay (λc v g r=>k c v ?_ r) (λc r=>by rw[Ao (d c b r)];exact r) λc xs r=>by rw[Ao (f c xs r)];exact r
 rcases g with rfl | g
 ·exact a
 rintro rfl
 rcases m with z | z
 ·exact d c b g z
 rw[g]at z;cases z;exact i U
end
structure Un (fs ex:List Addr)(H H':Hp)(h h':Heap):Prop where
 keep:∀b o,h.get? b=some o->H b=none->b∉fs->b∉ex->h'.get? b=some o
 slot:∀b o,h.get? b=some o->H b=none->b∈fs->b∉ex->∃sl,h'.get? b=some { o with slots:=sl }
 free:∀b o,h.get? b=some o->H b=none->b∉ex->H' b=none
 there:∀b o,h.get? b=some o->b∉ex->∃o',h'.get? b=some o'
 tups:∀b xs,H b=some (.tup xs)->H' b=some (.tup xs)
 frzs:∀b o u,H b=some (.frz o u)->H' b=some (.frz o u)
 tbls:∀b ps,H b=some (.tbl ps)->∃more,H' b=some (.tbl (ps++more))
section
variable {fs fs' ex ex':List Addr}{H H1 H2:Hp}{h h1 h2 h':Heap}{a x e:Addr}{o:HO}
def Un.any (u:Un fs ex H H1 h h1) (q:h.get? b=some ob)(n:H b=none)(d:b∉ex):∃f,h1.get? b=some { ob with slots:=f }:=by
 by_cases c:b∈fs
 ·exact u.slot b ob q n c d
 exact⟨ob.slots,u.keep b ob q n c d⟩
def Un.kept (k:∀b u,h.get? b=some u->h'.get? b=some u):Un fs ex H H h h':=
 ⟨λb c q _ _ _=>k b c q,λb c q _ _ _=>⟨c.slots,k b c q⟩,λ_ _ _ n _=>n,λb c q _=>⟨c,k b c q⟩,λ_ _ q=>q,λ_ _ _ q=>q,λ_ ps q=>⟨#[],by rw[q];simp⟩⟩
def Un.refl:Un fs ex H H h h:=Un.kept λ_ _ q=>q
theorem Un.laid (k:∀b u,h.get? b=some u->h'.get? b=some u)(d:h.objs.size<=a)(c:H a=none):Un fs ex H (upd H a o) h h' where
 keep:=λb u q _ _ _=>k b u q
 slot:=λb u q _ _ _=>⟨u.slots,k b u q⟩
 free:=λb u q n _=>by rw[Ao (Bd (Cp (AH q) d))];exact n
 there:=λb u q _=>⟨u,k b u q⟩
 tups:=λb xs q=>by rw[Ao (A1 q c)];exact q
 frzs:=λb u xs q=>by rw[Ao (A1 q c)];exact q
 tbls:=λb ps q=>⟨#[],by rw[Ao (A1 q c),q];simp⟩
def Un.write (d:Mx (H x))(l:e=x\/H e=some (.own x))(k:∀b u,b≠e->h.get? b=some u->h'.get? b=some u)(f:∃u,h'.get? e=some u):Un fs ex H (upd H x o) h h':=by
 have j:∀b,H b=none->b≠x:=λb n z=>by subst z;rw[n]at d;exact d
 have i:∀b,H b=none->b≠e:=λb n z=>by
  subst z;rcases l with r | r
  ·exact j b n r
  rw[n]at r;cases r
 have g:∀b u,H b=some u->¬Mx (some u)->b≠x:=λb u q nm z=>by subst z;rw[q]at d;exact nm d
 refine⟨λb u q n _ _=>k b u (i b n) q,λb u q n _ _=>⟨u.slots,k b u (i b n) q⟩,λb u q n _=>by rw[Ao (j b n)];exact n,λb u q _=>?_,λb xs q=>by rw[Ao (g b _ q λz=>z)];exact q,λb u xs q=>by rw[Ao (g b _ q λz=>z)];exact q,λb ps q=>⟨#[],by rw[Ao (g b _ q λz=>z),q];simp⟩⟩;by_cases c:b=e
 ·subst c;exact f
 exact⟨u,k b u c q⟩
end
def Pp (h:Heap)(H:Hp):List Addr:=(List.range h.objs.size).filter λa=>(H a).isSome
def G9 (h:Heap)(H:Hp):Heap:=PySem.W.hideAll h (Pp h H)
def qE (h:Heap)(H:Hp):(G9 h H).objs.size=h.objs.size:=PySem.W.hideAll_size _ _
def qF (e:h.get? b=some o)(n:H b=none):(G9 h H).get? b=some o:=
 Mb _ e λa=>by have q:=(Hm.mp a).2;rw[n]at q;simp at q
def iO (e:(G9 h H).get? b=some o):h.get? b=some o/\H b=none:=by
 have a:=PySem.W.of_hideAll (Pp h H) e;refine⟨a,?_⟩;cases q:H b with
 | none=>rfl
 | some x=>have z:(G9 h H).get? b=none:=PySem.W.hideAll_none (Pp h H) (Hm.mpr ⟨Dz.mpr (AH a),by simp[q]⟩);rw[z]at e;cases e
end L2
namespace L2
open PySem PySem.Spec PyProof.Rows
structure Mod (K:W.Frag)(mg:Str->Option Value)(base:Heap):Prop where
 kin:K.In base
 glob:base.Ns mainGlobals mg
 blt:∃mb,base.Ns builtinsNs mb/\∀x:Str,x ≠ "__name__" -> mb x=bootBuiltins x
 nolimit:base.NoLimit
structure Cx where
 prog:Program
 w:World
 K:W.Frag
 mg:Str->Option Value
 base:Heap
 A:Around
 N:List Str
 s₀:Shared
 H₀:Hp
 env:Env
 dh:List Env
 stack:List Env
 ex:List Addr
 fn:Str->Bool
 calm:Bool
 pn:List (Addr×Obj)
 xe:Value->Shared->Prop
def BL (l:List Env):List Addr:=l.filterMap (·.frame)
abbrev Cx.fs (X:Cx):List Addr:=BL X.dh
def TB (sc:Scope)(x:Str):Prop:=sc.names.lookup x=some .local\/sc.names.lookup x=some .cell\/sc.names.lookup x=some .free
def JO (sc:Scope)(x:Str):Prop:=sc.names.lookup x=some .local\/sc.names.lookup x=some .cell
def vV (env:Env)(h:Heap)(m:Str->Option Value)(x:Str)(u:Value):Prop:=
 (env.kindOf x=some .local/\m x=some u)\/((env.kindOf x=some .cell\/env.kindOf x=some .free)/\∃c,env.cells.lookup x=some c/\h.IsCell c (some u))
structure Cx.Ok (X:Cx):Prop where
 mod:Mod X.K X.mg X.base
 kind:X.env.scope.kind=.function
 glob:X.env.globals=mainGlobals
 blt:X.env.builtins=builtinsNs
 above:X.s₀.heap.objs.size<=X.env.locals
 inj:∀x y c,X.env.cells.lookup x=some c->X.env.cells.lookup y=some c->x=y
 has:∀x,(X.env.kindOf x=some .cell\/X.env.kindOf x=some .free)->∃c,X.env.cells.lookup x=some c
 cab:∀x c,X.fn x=true->X.env.cells.lookup x=some c->X.s₀.heap.objs.size<=c
 hd:X.calm=true->X.A.handled=none
 frames:X.A.frames=some X.stack
 stk:X.stack=X.dh\/(X.stack=X.env::X.dh/\X.env.frame=some X.env.locals)
 exf:∀b∈X.ex,b≠X.env.locals/\∀x c,X.env.cells.lookup x=some c->c≠b
 bs:∀b o,X.base.get? b=some o->X.s₀.heap.get? b=some o/\X.H₀ b=none
 bsz:X.base.objs.size<=X.s₀.heap.objs.size
 noex:∀b o,X.base.get? b=some o->b∉X.ex
 exfs:∀b∈X.ex,b∉X.fs
 funs:X.s₀.heap.FunFrames X.base X.dh
 frf:∀b∈X.fs,X.H₀ b=none
structure Inv (X:Cx)(dg:List (Addr×Obj))(σ:List (Option V))(H:Hp)(s:Shared):Prop where
 ok:X.Ok
 os:s.os=X.s₀.os
 bare:AllBare s.gens
 base:Un X.fs X.ex X.H₀ H X.s₀.heap s.heap
 loc:∃m,s.heap.Ns X.env.locals m/\∀(i:Nat) (x:Str) (v:V),X.N[i]? = some x->σ[i]? = some (some v)->TB X.env.scope x->∃u,RelV v u/\vV X.env s.heap m x u
 cell:∀x c,X.env.cells.lookup x=some c->∃v,s.heap.IsCell c v
 free:H X.env.locals=none
 freeC:∀x c,X.env.cells.lookup x=some c->H c=none
 pin:∀p∈X.pn++dg,s.heap.get? p.1=some p.2/\H p.1=none/\p.1≠X.env.locals/\p.1∉X.fs/\∀v,p.2.data≠.cell v
 hok:HOk X.prog X.w H s.heap
 len:σ.length=X.N.length
section
variable {X:Cx}{dg:List (Addr×Obj)}{σ:List (Option V)}{H H':Hp}{s:Shared}{h':Heap}
def Cx.Ok.nofr (ok:X.Ok) (e:X.base.get? b=some o):b∉X.fs:=λa=>by have:=(ok.funs.mem a).1;rw[e]at this;cases this
def Inv.bs (I:Inv X dg σ H s):∀b o,X.base.get? b=some o->s.heap.get? b=some o/\H b=none:=λb o e=>⟨I.base.keep b o (I.ok.bs b o e).1 (I.ok.bs b o e).2 (I.ok.nofr e) (I.ok.noex b o e),I.base.free b o (I.ok.bs b o e).1 (I.ok.bs b o e).2 (I.ok.noex b o e)⟩
def Inv.bk (I:Inv X dg σ H s):∀b o,X.base.get? b=some o->s.heap.get? b=some o:=λb o e=>(I.bs b o e).1
def Inv.mod (I:Inv X dg σ H s):Mod X.K X.mg X.base:=I.ok.mod
def Inv.kIn (I:Inv X dg σ H s):X.K.In s.heap:=I.ok.mod.kin.keeps I.bk
def Inv.lt (I:Inv X dg σ H s):X.env.locals<s.heap.objs.size:=let ⟨_,hn,_⟩:=I.loc;hn.lt
def Inv.sz (I:Inv X dg σ H s):X.s₀.heap.objs.size<=s.heap.objs.size:=Ed I.ok.above (FH I.lt)
def Inv.nofs (I:Inv X dg σ H s) (h:s.heap.objs.size<=a):a∉X.fs:=λb=>by obtain⟨_,o,c,_⟩:=I.ok.funs.mem b;exact absurd (Cp (AH c) (Ed I.sz h)) (CM _)
def Inv.cne (I:Inv X dg σ H s):∀x c,X.env.cells.lookup x=some c->c≠X.env.locals:=λx c e z=>by obtain⟨v,o,f,d⟩:=I.cell x c e;obtain⟨m,⟨g,h,ep,b,a,_⟩,_⟩:=I.loc;rw[z,b]at f;cases f;rw[a]at d;cases d
def Inv.funs (I:Inv X dg σ H s):s.heap.FunFrames X.base X.dh:=by
 have all:∀l,(∀b∈BL l,b∈X.fs)->X.s₀.heap.FunFrames X.base l->s.heap.FunFrames X.base l:=by
  intro l;induction l with
  | nil=>intro _ _;trivial
  | cons env r ih=>rintro f⟨i,⟨L,o,c,h,m,j⟩,g⟩;have a:=f L (by unfold BL;rw[FO,c];exact Bb);obtain⟨n,e⟩:=I.base.slot L o m (I.ok.frf L a) a λz=>I.ok.exfs L z a;exact⟨i,⟨L,_,c,h,e,j⟩,ih (λb d=>f b (by unfold BL;rw[FO,c];exact Bc _ d)) g⟩
 exact all X.dh (λ_ d=>d) I.ok.funs
def Inv.stack (I:Inv X dg σ H s):s.heap.FunFrames X.base X.stack:=by
 rcases I.ok.stk with e | ⟨e,hf⟩
 ·rw[e];exact I.funs
 rw[e];obtain⟨m,a,_⟩:=I.loc;refine .cons (by rw[I.ok.kind];decide) hf a ?_ I.funs;exact Heap.get?_none_of_le (Ed I.ok.bsz I.ok.above)
def Inv.stkSub (I:Inv X dg σ H s):∀b∈BL X.stack,b∈X.env.locals::X.fs:=λb a=>by
 rcases I.ok.stk with e | ⟨e,hf⟩
 ·rw[e]at a;exact Bc _ a
 rw[e]at a;unfold BL at a;rw[FO,hf]at a;exact a
def Inv.stkFree (I:Inv X dg σ H s):∀b∈BL X.stack,H b=none:=λb a=>by
 rcases Ar.mp (I.stkSub b a)with e | a
 ·rw[e];exact I.free
 obtain⟨_,o,c,_⟩:=I.ok.funs.mem a;exact I.base.free b o c (I.ok.frf b a) λz=>I.ok.exfs b z a
def Inv.step {R:Array GenState}{t':Nat}{d':Drawn}{ch:List Addr}(I:Inv X dg σ H s)
  (h:∀b∈ch,(b∈X.ex\/X.s₀.heap.objs.size<=b)/\b≠X.env.locals/\(∀x c,X.env.cells.lookup x=some c->c≠b)/\∀p∈X.pn++dg,p.1≠b)
  (keep:∀b o,b≠X.env.locals->b∉X.fs->b∉ch->s.heap.get? b=some o->H b=none->h'.get? b=some o)
  (w:∀b o,b≠X.env.locals->b∈X.fs->b∉ch->s.heap.get? b=some o->H b=none->∃N,h'.get? b=some { o with slots:=N })(free:∀b o,b∉ch->s.heap.get? b=some o->H b=none->H' b=none)
  (there:∀b o,b∉ch->s.heap.get? b=some o->∃B,h'.get? b=some B)
  (E:∀b xs,H b=some (.tup xs)->H' b=some (.tup xs))(F:∀b o u,H b=some (.frz o u)->H' b=some (.frz o u))(G:∀b ps,H b=some (.tbl ps)->∃D,H' b=some (.tbl (ps++D)))
  (ns:∀m,s.heap.Ns X.env.locals m->h'.Ns X.env.locals m)(K:HOk X.prog X.w H' h')(hg:AllBare R) :
  Inv X dg σ H' { s with heap:=h',gens:=R,drawn:=d',toks:=t' }:=by
 have C:∀b o,X.s₀.heap.get? b=some o->b≠X.env.locals:=λb o e=>Bd (Cp (AH e) I.ok.above)
 have j:∀b o,X.s₀.heap.get? b=some o->b∉X.ex->b∉ch:=λb o e a y=>by
  rcases(h b y).1 with z | z
  ·exact a z
  exact absurd (Cp (AH e) z) (CM _)
 have f:∀x c,X.env.cells.lookup x=some c->∀v,s.heap.IsCell c v->h'.IsCell c v:=λx c e v ⟨o,A,M⟩=>by
  have g:=λz=>(h c z).2.2.1 x c e U;by_cases P:c∈X.fs
  ·obtain⟨N,q⟩:=w c o (I.cne x c e) P g A (I.freeC x c e);exact⟨_,q,M⟩
  exact⟨o,keep c o (I.cne x c e) P g A (I.freeC x c e),M⟩
 refine⟨I.ok,I.os,hg,⟨λb o e n y a=>?_,λb o e n y a=>?_,λb o e n a=>?_,λb o e a=>?_,λb xs e=>E b xs (I.base.tups b xs e),λb o xs e=>F b o xs (I.base.frzs b o xs e),λb ps e=>?_⟩,?_,λx c e=>?_,?_,λx c e=>?_,λp S=>?_,K,I.len⟩
 ·exact keep b o (C b o e) y (j b o e a) (I.base.keep b o e n y a) (I.base.free b o e n a)
 ·obtain⟨N,e1⟩:=I.base.slot b o e n y a;obtain⟨L,e2⟩:=w b _ (C b o e) y (j b o e a) e1 (I.base.free b o e n a);exact⟨L,e2⟩
 ·obtain⟨B,e1⟩:=I.base.there b o e a;exact free b B (j b o e a) e1 (I.base.free b o e n a)
 ·obtain⟨B,e1⟩:=I.base.there b o e a;exact there b B (j b o e a) e1
 ·obtain⟨W,e1⟩:=I.base.tbls b ps e;obtain⟨m2,e2⟩:=G b _ e1;exact⟨W++m2,by rw[e2,SY]⟩
 ·obtain⟨m,hn,T⟩:=I.loc;refine⟨m,ns m hn,λi x v e1 e2 e3=>?_⟩;obtain⟨u,r,l⟩:=T i x v e1 e2 e3;refine⟨u,r,?_⟩;rcases l with l | ⟨k,c,e,z⟩
  ·exact .inl l
  exact .inr ⟨k,c,e,f x c e _ z⟩
 ·obtain⟨v,z⟩:=I.cell x c e;exact⟨v,f x c e v z⟩
 ·obtain⟨m,⟨o,_,_,A,_⟩,_⟩:=I.loc;exact free _ o (λz=>(h _ z).2.1 U) A I.free
 ·obtain⟨v,o,A,M⟩:=I.cell x c e;exact free c o (λz=>(h c z).2.2.1 x c e U) A (I.freeC x c e)
 obtain⟨e,n,ne,Q,d⟩:=I.pin p S
 have g:=λz=>(h p.1 z).2.2.2 p S U
 exact⟨keep p.1 p.2 ne Q g e n,free p.1 p.2 g e n,ne,Q,d⟩
def Inv.un (I:Inv X dg σ H s)(u:Un X.fs [] H H' s.heap h')(c:HOk X.prog X.w H' h'):Inv X dg σ H' { s with heap:=h',toks:=t' }:=by obtain⟨m,⟨o,v,ep,h,r⟩,_⟩:=id I.loc;obtain⟨w,i⟩:=u.any h I.free Θ;exact I.step (ch:=[]) (λ_ z=>nomatch z) (λb o _ f _ e n=>u.keep b o e n f Θ) (λb o _ f _ e n=>u.slot b o e n f Θ) (λb o _ e n=>u.free b o e n Θ) (λb o _ e=>u.there b o e Θ) u.tups u.frzs u.tbls (λp j=>by obtain⟨q,g,d,a,l⟩:=j;rw[h]at a;cases a;exact⟨_,g,d,i,l⟩) c I.bare
def Inv.call (I:Inv X dg σ H s)(u:Un (BL X.stack) ch H H' s.heap h')(g:HOk X.prog X.w H' h')(v:AllBare g')
  (f:∀b∈ch,(b∈X.ex\/X.s₀.heap.objs.size<=b)/\b≠X.env.locals/\(∀x c,X.env.cells.lookup x=some c->c≠b)/\∀p∈X.pn++dg,p.1≠b) :
  Inv X dg σ H' { s with heap:=h',gens:=g',drawn:=d',toks:=t' }:=by
 obtain⟨m,⟨o,C,ep,l,r⟩,_⟩:=id I.loc
 obtain⟨D,h⟩:=u.any l I.free λz=>(f _ z).2.1 U
 exact I.step f (λb o h w a e n=>u.keep b o e n (λz=>(Ar.mp (I.stkSub b z)).elim h w) a) (λb o _ _ a e n=>u.any e n a) (λb o a e n=>u.free b o e n a) (λb o a e=>u.there b o e a) u.tups u.frzs u.tbls (λA q=>by obtain⟨B,j,i,d,y⟩:=q;rw[l]at d;cases d;exact⟨_,j,i,h,y⟩) g v
def Inv.turned (I:Inv X dg σ H s)(k:∀b o,b≠it->s.heap.get? b=some o->h'.get? b=some o)(h:H it=none)(f:it≠X.env.locals)
  (g:it∈X.ex\/X.s₀.heap.objs.size<=it)(i:∀x c,X.env.cells.lookup x=some c->c≠it)(w:∀p∈X.pn++dg,p.1≠it):Inv X dg σ H { s with heap:=h',toks:=t' }:=by
 have d:∀b u,H b=some u->b≠it:=λb u e z=>by rw[z,h]at e;cases e
 refine I.step (ch:=[it]) (λb y=>?_) (λb o _ _ a e _=>k b o (λz=>a (by simp[z])) e) (λb o _ _ a e _=>⟨o.slots,k b o (λz=>a (by simp[z])) e⟩) (λ_ _ _ _ n=>n)
  (λb o a e=>⟨o,k b o (λz=>a (by simp[z])) e⟩) (λ_ _ e=>e) (λ_ _ _ e=>e) (λb ps e=>⟨#[],by rw[e];simp⟩) (λm j=>?_) (λb u e=>?_) I.bare
 ·have e:b=it:=by simpa using y
  subst e;exact⟨g,f,i,w⟩
 ·obtain⟨o,l,ep,A,r⟩:=j;exact⟨o,l,ep,k _ o (Ec f) A,r⟩
 refine(I.hok b u e).stay (λc v a q=>k c v ?_ q) (λ_ q=>q) λ_ _ q=>q
 rcases a with z | z
 ·rw[z];exact d b u e
 exact d c _ z
def Inv.tok (I:Inv X dg σ H s)(t:Nat):Inv X dg σ H { s with toks:=t }:=I.un Un.refl I.hok
def Inv.kept (I:Inv X dg σ H s)(k:∀b u,s.heap.get? b=some u->h'.get? b=some u):Inv X dg σ H { s with heap:=h',toks:=t' }:=I.un (Un.kept k) (I.hok.kept k)
def Inv.laid (I:Inv X dg σ H s)(k:∀b u,s.heap.get? b=some u->h'.get? b=some u)(c:s.heap.objs.size<=a)(new:ObjOk X.prog X.w (upd H a o) h' a o) :
  Inv X dg σ (upd H a o) { s with heap:=h',toks:=t' }:=I.un (Un.laid k c (I.hok.fresh c)) (I.hok.laid k c new)
def Inv.write (I:Inv X dg σ H s)(d:Mx (H x))(c:e=x\/H e=some (.own x))(k:∀b u,b≠e->s.heap.get? b=some u->h'.get? b=some u)(a:∃u,h'.get? e=some u)
  (new:ObjOk X.prog X.w (upd H x o) h' x o):Inv X dg σ (upd H x o) { s with heap:=h',toks:=t' }:=I.un (Un.write d c k a) (I.hok.write d c k a new)
def Inv.weak (I:Inv X dg σ H s)(a:σ'.length=σ.length)(w:∀(i:Nat) v,σ'[i]? = some (some v)->σ[i]? = some (some v)):Inv X dg σ' H s:=
 ⟨I.ok,I.os,I.bare,I.base,let ⟨m,hn,hl'⟩:=I.loc;⟨m,hn,λi x v e1 e2 e3=>hl' i x v e1 (w i v e2) e3⟩,I.cell,I.free,I.freeC,I.pin,I.hok,a.trans I.len⟩
def Inv.pins_of (I:Inv X dg σ H s)(h:∀p∈pins',s.heap.get? p.1=some p.2/\H p.1=none/\p.1≠X.env.locals/\p.1∉X.fs/\∀v,p.2.data≠.cell v):Inv X pins' σ H s:=
 ⟨I.ok,I.os,I.bare,I.base,I.loc,I.cell,I.free,I.freeC,λp a=>(Br.mp a).elim (λz=>I.pin p (Hw _ z)) (h p),I.hok,I.len⟩
def RG {N:List Str}(c:N.Nodup){i j:Nat}{x:Str}(a:N[i]? = some x)(b:N[j]? = some x):i=j:=by obtain⟨d,e1⟩:=AW.mp a;obtain⟨e,e2⟩:=AW.mp b;exact(Ho c).mp (e1.trans e2.symm)
def Ur (I:Inv X dg σ H s)(hN:X.N.Nodup)(N:X.N[i]? = some x)(w:JO X.env.scope x)(r:RelV v u)
  (h:∀s',Inv X dg (σ.set i (some v)) H s'->(∃a,Heap.SameBut a s.heap s'.heap/\(a=X.env.locals\/X.env.cells.lookup x=some a))->Q () s')(hf:X.fn x=true\/X.env.scope.names.lookup x=some .local:=by first | exact .inl U | exact .inr U | assumption):wpAny M A (storeName X.env x u) Q E s:=by
 obtain⟨m,hn,hl⟩:=id I.loc
 have L:(X.env.scope.kind == .class || (X.env.scope.kind == .module && X.env.locals != X.env.globals))=false:=by rw[I.ok.kind];rfl
 have C:i<σ.length:=by rw[I.len];exact(AW.mp N).1
 have cne:=I.cne
 have g:∀{a:Addr}{h':Heap},(∃o,s.heap.get? a=some o/\H a=none)->Heap.SameBut a s.heap h'->HOk X.prog X.w H h':=λ{a h'} ha f b ob e=>by
  obtain⟨_,_,B⟩:=ha;refine(I.hok b ob e).stay (λc w' l q=>(f.2 c ?_).trans q) (λ_ q=>q) λ_ _ q=>q;rintro rfl;rcases l with rfl | l
  ·rw[B]at e;cases e
  rw[B]at l;cases l
 rcases w with D | D
 ·refine wpAny_storeName_local D hn (λh' a0 f=>?_) L;obtain⟨oL,_,_,a1,_⟩:=id hn;refine h _ ⟨I.ok,I.os,I.bare,⟨λb o e n F w=>?_,λb o e n F w=>?_,I.base.free,λb o e w=>?_,I.base.tups,I.base.frzs,I.base.tbls⟩,⟨_,a0,λj y v' e1 e2 e3=>?_⟩,λy c e=>?_,I.free,I.freeC,λp hp=>?_,g ⟨oL,a1,I.free⟩ f,by simpa using I.len⟩ ⟨_,f,.inl U⟩
  ·exact(f.2 b (Bd (Cp (AH e) I.ok.above))).trans (I.base.keep b o e n F w)
  ·obtain⟨sl,e1⟩:=I.base.slot b o e n F w;exact⟨sl,(f.2 b (Bd (Cp (AH e) I.ok.above))).trans e1⟩
  ·obtain⟨o',e1⟩:=I.base.there b o e w;exact⟨o',(f.2 b (Bd (Cp (AH e) I.ok.above))).trans e1⟩
  ·by_cases G:j=i
   ·subst G;rw[N]at e1;cases e1;rw[Tg C]at e2;cases e2;exact⟨u,r,.inl ⟨D,Θ⟩⟩
   rw[S5 (Ec G)]at e2;obtain⟨u',r',q⟩:=hl j y v' e1 e2 e3;refine⟨u',r',?_⟩;rcases q with⟨k,e⟩ | ⟨k,c,e,z⟩
   ·refine .inl ⟨k,?_⟩;have:y≠x:=λe=>G (RG hN e1 (e ▸ N));simp[this,e]
   exact .inr ⟨k,c,e,z.sameBut f (cne y c e)⟩
  ·obtain⟨w',z⟩:=I.cell y c e;exact⟨w',z.sameBut f (cne y c e)⟩
  obtain⟨e,n,ne,nf,d⟩:=I.pin p hp;exact⟨(f.2 p.1 ne).trans e,n,ne,nf,d⟩
 have K:X.fn x=true:=by
  rcases hf with z | z
  ·exact z
  rw[z]at D;cases D
 obtain⟨c,l⟩:=I.ok.has x (.inl D)
 obtain⟨w',z⟩:=I.cell x c l
 refine wpAny_storeName_cell I.ok.kind D l z (λh' P f=>?_)
 obtain⟨oc,S,T⟩:=id z
 refine h { s with heap:=h' } ⟨I.ok,I.os,I.bare,⟨λb o e n F w=>?_,λb o e n F w=>?_,I.base.free,λb o e w=>?_,I.base.tups,I.base.frzs,I.base.tbls⟩,⟨m,hn.sameBut f (Ec (cne x c l)),λj y v' e1 e2 e3=>?_⟩,λy W e=>?_,I.free,I.freeC,λp hp=>?_,g ⟨oc,S,I.freeC x c l⟩ f,by simpa using I.len⟩ ⟨c,f,.inr l⟩
 ·exact(f.2 b (Bd (Cp (AH e) (I.ok.cab x c K l)))).trans (I.base.keep b o e n F w)
 ·obtain⟨sl,e1⟩:=I.base.slot b o e n F w;exact⟨sl,(f.2 b (Bd (Cp (AH e) (I.ok.cab x c K l)))).trans e1⟩
 ·obtain⟨o',e1⟩:=I.base.there b o e w;exact⟨o',(f.2 b (Bd (Cp (AH e) (I.ok.cab x c K l)))).trans e1⟩
 ·by_cases G:j=i
  ·subst G;rw[N]at e1;cases e1;rw[Tg C]at e2;cases e2;exact⟨u,r,.inr ⟨.inl D,c,l,P⟩⟩
  rw[S5 (Ec G)]at e2;obtain⟨u',r',q⟩:=hl j y v' e1 e2 e3;refine⟨u',r',?_⟩;rcases q with q | ⟨k,W,e,z'⟩
  ·exact .inl q
  refine .inr ⟨k,W,e,z'.sameBut f ?_⟩;rintro rfl;exact G (RG hN e1 (I.ok.inj _ _ _ e l ▸ N))
 ·by_cases R:W=c
  ·subst R;exact⟨_,P⟩
  obtain⟨w2,z2⟩:=I.cell y W e;exact⟨w2,z2.sameBut f R⟩
 obtain⟨e,n,ne,nf,d⟩:=I.pin p hp
 refine⟨(f.2 p.1 ?_).trans e,n,ne,nf,d⟩
 intro q
 rw[q,S]at e
 exact d w' (by rw[<- (Bh e)];exact T)
def Pv (I:Inv X dg σ H s)(d:X.N.Nodup)(a:X.N[i]? = some x)(c:JO X.env.scope x)(r:RelV v u)
  (h:∀s',Inv X dg (σ.set i (some v)) H s'->Q () s')(e:X.fn x=true\/X.env.scope.names.lookup x=some .local:=by first | exact .inl U | exact .inr U | assumption):wpAny M A (storeName X.env x u) Q E s:=
 Ur I d a c r (λs' b _=>h s' b) e
def Inv.call' (I:Inv X dg σ H s)(g:s'.os=s.os)(u:Un (BL X.stack) ch H H' s.heap s'.heap)(a:HOk X.prog X.w H' s'.heap)(f:AllBare s'.gens)
  (d:∀b∈ch,(b∈X.ex\/X.s₀.heap.objs.size<=b)/\b≠X.env.locals/\(∀x c,X.env.cells.lookup x=some c->c≠b)/\∀p∈X.pn++dg,p.1≠b):Inv X dg σ H' s':=by
 obtain⟨h',i,j,t',h⟩:=s'
 have e:=g
 subst e
 exact I.call u a f d
end
abbrev XK:=Value->Option Addr->Hp->Prop
abbrev St:=List (Option V)
abbrev VK:=V->Hp->Prop
abbrev TE:=St->Hp->VK->Prop
abbrev TT:=St->Hp->(Bool->Hp->Prop)->Prop
abbrev TA:=St->Hp->(List V->Hp->Prop)->Prop
structure Gw where
 nx:St->Hp->Prop
 rt:VK
 bk:St->Hp->Prop:=λ_ _=>False
 ct:St->Hp->Prop:=λ_ _=>False
abbrev TS:=Gw->St->Hp->Prop
def EP (X:Cx)(dg:List (Addr×Obj))(σ:St)(Q:VK)(u:Value)(s':Shared):Prop:=∃v H',Inv X dg σ H' s'/\RelV v u/\Q v H'
def TP (X:Cx)(dg:List (Addr×Obj))(σ:St)(Q:Bool->Hp->Prop)(b:Bool)(s':Shared):Prop:=∃H',Inv X dg σ H' s'/\Q b H'
def AP (X:Cx)(dg:List (Addr×Obj))(σ:St)(Q:List V->Hp->Prop)(us:List Value)(s':Shared):Prop:=∃vs H',Inv X dg σ H' s'/\Vals vs us/\Q vs H'
def SP (X:Cx)(dg:List (Addr×Obj))(D:Gw)(f:Flow)(s':Shared):Prop:=
 match f with
 | .next=>∃σ' H',Inv X dg σ' H' s'/\D.nx σ' H'
 | .brk=>∃σ' H',Inv X dg σ' H' s'/\D.bk σ' H'
 | .cont=>∃σ' H',Inv X dg σ' H' s'/\D.ct σ' H'
 | .ret u=>∃v σ' H',Inv X dg σ' H' s'/\RelV v u/\D.rt v H'
def PE (X:Cx)(e:Expr)(t:TE):Prop:=
 ∀(dg:List (Addr×Obj)) (s:Shared) (σ:St) (H:Hp) (Q:VK),Inv X dg σ H s->t σ H Q->wpAny (model X.prog X.w) X.A (eval e X.env) (EP X dg σ Q) X.xe s
def PT (X:Cx)(e:Expr)(t:TT):Prop:=
 ∀(dg:List (Addr×Obj)) (s:Shared) (σ:St) (H:Hp) (Q:Bool->Hp->Prop),Inv X dg σ H s->t σ H Q->wpAny (model X.prog X.w) X.A (isTrue e X.env (eval e X.env)) (TP X dg σ Q) X.xe s
def PW (X:Cx)(e:Expr)(t:TT):Prop:=
 ∀(Gy:Sem Value) (dg:List (Addr×Obj)) (s:Shared) (σ:St) (H:Hp) (Q:Bool->Hp->Prop),Inv X dg σ H s->t σ H Q->wpAny (model X.prog X.w) X.A (isTrue e X.env Gy) (TP X dg σ Q) X.xe s
def PW.pt {t:TT}(h:PW X e t):PT X e t:=h _
def PA (X:Cx)(es:List Expr)(t:TA):Prop:=
 ∀(pos:Pos) (dg:List (Addr×Obj)) (s:Shared) (σ:St) (H:Hp) (Q:List V->Hp->Prop),Inv X dg σ H s->t σ H Q->wpAny (model X.prog X.w) X.A (spliced (backTo pos (starEach es X.env))) (AP X dg σ Q) X.xe s
def PS (X:Cx)(st:Stmt)(t:TS):Prop:=
 ∀(dg:List (Addr×Obj)) (s:Shared) (σ:St) (H:Hp) (D:Gw),Inv X dg σ H s->t D σ H->wpAny (model X.prog X.w) X.A (exec st X.env) (SP X dg D) X.xe s
def PSs (X:Cx)(st:List Stmt)(t:TS):Prop:=
 ∀(dg:List (Addr×Obj)) (s:Shared) (σ:St) (H:Hp) (D:Gw),Inv X dg σ H s->t D σ H->wpAny (model X.prog X.w) X.A (execs st X.env) (SP X dg D) X.xe s
def thn {c:Type}{t:Sem c}{Q b:c->Shared->Prop}{M:Model}{A:Around}{E:Value->Shared->Prop}{s:Shared}(h:wpAny M A t Q E s)(d:∀a s,Q a s->b a s):wpAny M A t b E s:=CD h d λ_ _ x=>x
section
variable {X:Cx}
inductive Ia (i:Nat)(σ:St)(H:Hp)(Q:VK):Prop
 | mk (v:_) (c0:σ[i]? = some (some v)) (c1:Q v H):Ia i σ H Q
def tC (v:V):TE:=λ_ H Q=>Q v H
def bS (z:X.N[i]? = some x)(w:TB X.env.scope x)(g:(x == ("__debug__" : Str))=false:=by decide)(j:(x == ("__classdict__" : Str))=false:=by decide):PE X (.Name x pos) (Ia i):=by
 rintro f s y H Q I⟨v,e,h⟩;obtain⟨m,o,q⟩:=I.loc;obtain⟨u,r,l⟩:=q i x v z e w;have b:EP X f y Q u s:=⟨v,H,I,r,h⟩;rcases l with⟨d,p⟩ | ⟨d,c,n,a⟩
 ·exact wpAny_Name (wpAny_loadName_local I.ok.kind d o p b) g
 rcases d with d | d
 ·exact wpAny_Name (wpAny_loadName_cell I.ok.kind d n a b) g
 exact wpAny_Name (wpAny_loadName_free I.ok.kind d n a b j) g
def Ad {i j pos}:PE X (.Constant (.int i) j pos) (tC (.int i)):=λ_ _ _ H _ I h=>wpAny_Constant_int ⟨.int i,H,I.tok _,⟨_,U⟩,h⟩
def Ex {b j pos}:PE X (.Constant (.bool b) j pos) (tC (.bl b)):=λ_ _ _ H _ I h=>Constant_bool ⟨.bl b,H,I,U,h⟩
def CW {j pos}:PE X (.Constant .none j pos) (tC .non):=λ_ _ _ H _ I h=>Constant_none ⟨.non,H,I,U,h⟩
def AC {x j pos}:PE X (.Constant (.str x) j pos) (tC (.str x)):=λ_ _ _ H _ I h=>Calls.Constant_str ⟨.str x,H,I.tok _,⟨_,U⟩,h⟩
def Gl (X:Cx)(x:Str):Prop:=X.env.kindOf x=some .globalImplicit
def LM (I:Inv X dg σ H s)(c:Gl X x)(b:X.mg x=some u)(h:Q u s)
  (a:(x == ("__debug__" : Str))=false:=by decide):wpAny (model X.prog X.w) X.A (eval (.Name x pos) X.env) Q E s:=
 Calls.Name_function_global I.ok.kind c (Calls.loadGlobal_global (I.ok.glob▸I.mod.glob.keeps I.bk) b h) a
def EB {x:Str} (I:Inv X dg σ H s)(g:Gl X x)(f:X.mg x=none)(c:bootBuiltins x=some u)(h:Q u s)
  (d:x ≠ "__name__" := by decide)(b:(x == ("__debug__" : Str))=false:=by decide):wpAny (model X.prog X.w) X.A (eval (.Name x pos) X.env) Q E s:=by
 obtain⟨i,a,e⟩:=I.mod.blt
 exact Calls.Name_function_global I.ok.kind g (Calls.loadGlobal_builtin (I.ok.glob▸I.mod.glob.keeps I.bk) f (I.ok.blt▸a.keeps I.bk) ((e x d).trans c) h) b
def CY (c:Gl X x)(b:X.mg x=some u)(r:RelV v u)(a:(x == ("__debug__" : Str))=false:=by decide):PE X (.Name x pos) (tC v):=
 λ_ _ _ H _ I h=>LM I c b ⟨v,H,I,r,h⟩ a
def Rv {x:Str} (e:Gl X x)(d:X.mg x=none)(b:bootBuiltins x=some u)(r:RelV v u)(c:x ≠ "__name__" := by decide)(a:(x == ("__debug__" : Str))=false:=by decide):PE X (.Name x pos) (tC v):=
 λ_ _ _ H _ I h=>EB I e d b ⟨v,H,I,r,h⟩ c a
variable {a b:Expr}{ta tb:TE}{pos:Pos}
def PC (X:Cx)(op:CmpOp)(a b:Expr)(t:TE):Prop:=
 ∀(dg:List (Addr×Obj)) (s:Shared) (σ:St) (H:Hp) (Q:VK),Inv X dg σ H s->t σ H Q ->
  wpAny (model X.prog X.w) X.A (eval a X.env) (λv s₁=>wpAny (model X.prog X.w) X.A (eval b X.env) (λu s₂=>wpAny (model X.prog X.w) X.A (compareOp op v u) (EP X dg σ Q) X.xe s₂) X.xe s₁) X.xe s
inductive VY (Q:Bool->Hp->Prop)(x:V)(H1:Hp):Prop
 | mk (c:_) (c0:x=.bl c) (c1:Q c H1):VY Q x H1
def tB (t:TE):TT:=λσ H Q=>t σ H λx H1=>VY Q x H1
def Kw {t:TE}(h:PC X op a b t)(f:behindInMarks op b=false:=by first | exact nobehind _ Ξ Ξ | rfl):PT X (.Compare a [op] [b] pos) (tB t):=by intro e s o H Q I j;refine wpAny_isTrue_Compare1 (thn (h e s o H _ I j) λv r f=>thn f λu s2 l=>thn l λc s3 g=>?_) f;obtain⟨x,i,p,n,m⟩:=g;obtain⟨d,rfl,q⟩:=m;cases n;exact EK ⟨i,p,q⟩
def CS {t:TE}(h:PE X e t)(g:∀Gy,isTrue e X.env Gy=(do let v <- Gy;standAt e.pos;holding [v] (truthy v)):=by intro _;rfl):PT X e (tB t):=by intro c s n H Q I j;refine isTrue_plain (thn (h c s n H _ I j) λv p f=>?_) (g _);obtain⟨x,i,o,m,l⟩:=f;obtain⟨d,rfl,q⟩:=l;cases m;exact EK ⟨i,o,q⟩
variable {tA tB':TT}{rest:List Expr}
def YN (t u:TT):TT:=λσ H Q=>t σ H λc H1=>if c=true then u σ H1 Q else Q false H1
def Ym (t u:TT):TT:=λσ H Q=>t σ H λc H1=>if c=true then Q true H1 else u σ H1 Q
def Yo (t:TT):TT:=λσ H Q=>t σ H λc H1=>Q (!c) H1
def U1 (f:PT X a tA):PW X (.BoolOp .And [a] pos) tA:=by
 intro i d s g H Q I h;refine isTrue_and (thn (f d s g H Q I h) λc j e=>?_);cases c with
 | true=>exact isTrue_and_nil e
 | false=>exact e
def EW (f:PT X a tA):PW X (.BoolOp .Or [a] pos) tA:=by
 intro i d s g H Q I h;refine isTrue_or (thn (f d s g H Q I h) λc j e=>?_);cases c with
 | false=>exact isTrue_or_nil e
 | true=>exact e
def U2 (m:PT X a tA)(l:PW X (.BoolOp .And (b::rest) pos) tB'):PW X (.BoolOp .And (a::b::rest) pos) (YN tA tB'):=by
 intro n d s i H Q I h;refine isTrue_and (thn (m d s i H _ I h) λc o e=>?_);obtain⟨g,j,f⟩:=e;cases c with
 | true=>exact l n d o i g Q j f
 | false=>exact⟨g,j,f⟩
def DE (m:PT X a tA)(l:PW X (.BoolOp .Or (b::rest) pos) tB'):PW X (.BoolOp .Or (a::b::rest) pos) (Ym tA tB'):=by
 intro n d s i H Q I h;refine isTrue_or (thn (m d s i H _ I h) λc o e=>?_);obtain⟨g,j,f⟩:=e;cases c with
 | true=>exact⟨g,j,f⟩
 | false=>exact l n d o i g Q j f
def C6 (e:PT X a tA):PT X (.UnaryOp .Not a pos) (Yo tA):=by intro d s g H Q I h;exact isTrue_not (e d s g H (λc f=>Q (!c) f) I h)
def YM (ta tb:TE):TE:=λσ H Q=>ta σ H λx H1=>∃c,x=.bl c/\if c=true then tb σ H1 Q else Q (.bl false) H1
def Yl (ta tb:TE):TE:=λσ H Q=>ta σ H λx H1=>∃c,x=.bl c/\if c=true then Q (.bl true) H1 else tb σ H1 Q
def Yn (ta:TE):TE:=λσ H Q=>ta σ H λx H1=>∃c,x=.bl c/\Q (.bl (!c)) H1
def IA {op}{t:TE}(h:PE X a t):PE X (.BoolOp op [a] pos) t:=λc s e H Q I d=>BoolOp_one (h c s e H Q I d)
def KB (n:PE X a ta)(m:PE X (.BoolOp .And (b::rest) pos) tb):PE X (.BoolOp .And (a::b::rest) pos) (YM ta tb):=by
 intro d s i H Q I h;refine BoolOp_and (thn (n d s i H _ I h) λv l f=>?_);obtain⟨x,g,j,o,e⟩:=f;obtain⟨c,rfl,e⟩:=e;cases o;apply EK;cases c with
 | true=>exact m d l i g Q j e
 | false=>exact⟨.bl false,g,j,U,e⟩
def bU (n:PE X a ta)(m:PE X (.BoolOp .Or (b::rest) pos) tb):PE X (.BoolOp .Or (a::b::rest) pos) (Yl ta tb):=by
 intro d s i H Q I h;refine BoolOp_or (thn (n d s i H _ I h) λv l f=>?_);obtain⟨x,g,j,o,e⟩:=f;obtain⟨c,rfl,e⟩:=e;cases o;apply EK;cases c with
 | false=>exact m d l i g Q j e
 | true=>exact⟨.bl true,g,j,U,e⟩
def NT (i:PE X a ta):PE X (.UnaryOp .Not a pos) (Yn ta):=by intro d s l H Q I h;refine UnaryOp_ (thn (i d s l H _ I h) λv n f=>?_);obtain⟨x,g,m,j,e⟩:=f;obtain⟨c,rfl,e⟩:=e;cases j;exact not_of (EK ⟨.bl (!c),g,m,U,e⟩)
def YB (t:TT)(ta tb:TE):TE:=λσ H Q=>t σ H λc H1=>if c=true then ta σ H1 Q else tb σ H1 Q
def Fk (p:PT X c tA)(o:PE X a ta)(n:PE X b tb):PE X (.IfExp c a b pos) (YB tA ta tb):=by
 intro e s g H Q I h;refine wpAny_IfExp (thn (p e s g H _ I h) λd m f=>?_);obtain⟨j,l,i⟩:=f;cases d with
 | true=>exact o e m g j Q l i
 | false=>exact n e m g j Q l i
end
def Y (K:W.Frag)(H:Hp)(a:Addr)(xs:List V):Prop:=
 Rd H a (.lst xs) \/
  ∃(o:Obj) (its:Array Value) (n:Nat),K.lookup a=some o/\o.cls=.type "list" /\ o.dict=none/\o.data=.seq its n/\its.size<=sizeLine/\Vals xs its.toList
def SqT (K:W.Frag)(H:Hp)(a:Addr)(xs:List V):Prop:=
 Rd H a (.tup xs) \/
  ∃(o:Obj) (its:Array Value) (n:Nat),K.lookup a=some o/\o.cls=.type "tuple" /\ o.data=.seq its n/\its.size<=sizeLine/\Vals xs its.toList
def Dt:Value->Option V
 | .none=>some .non
 | .bool b=>some (.bl b)
 | .int i _=>some (.int i)
 | .str x _=>some (.str x)
 | .bytes b _=>some (.byt b)
 | .float b _=>some (.flt b)
 | .ref a=>some (.ref a)
 | .type n=>some (.ty n)
 | _=>none
def RelV.abs (r:RelV x u):Dt u=some x:=by
 cases x with
 | non=>cases r;rfl
 | bl _=>cases r;rfl
 | int _=>obtain⟨t,rfl⟩:=r;rfl
 | str _=>obtain⟨t,rfl⟩:=r;rfl
 | byt _=>obtain⟨t,rfl⟩:=r;rfl
 | flt _=>obtain⟨t,rfl⟩:=r;rfl
 | ref _=>cases r;rfl
 | ty _=>cases r;rfl
def RelV.inj (r:RelV x u)(q:RelV y u):x=y:=Bh (r.abs.symm.trans q.abs)
def Vals.inj:∀{xs ys:List V}{us:List Value},Vals xs us->Vals ys us->xs=ys
  :=by
 intro x y u a b;induction a generalizing y with
 | nil=>cases b;rfl
 | cons r t i=>cases b with|cons q s=>rw[r.inj q,i s]
section
variable {X:Cx}{dg:List (Addr×Obj)}{σ:St}{H:Hp}{s:Shared}{a:Addr}{xs ys:List V}
def Y.of {K:W.Frag}(h:H a=some (.lst xs)):Y K H a xs:=.inl (.inl h)
def SqT.of {K:W.Frag}(h:H a=some (.tup xs)):SqT K H a xs:=.inl (.inl h)
def Inv.list (I:Inv X dg σ H s)(h:Y X.K H a xs):∃b:List Value,Vals xs b/\PlainL s.heap a b.toArray/\xs.length<=sizeLine:=by
 rcases h with h | ⟨o,b,n,hk,hc,hd,hs,hz,r⟩
 ·obtain⟨z,b,n,r,e⟩:=h.ok I.hok;exact⟨b,r,⟨_,n,e,U,U,U⟩,z⟩
 refine⟨b.toList,r,⟨o,n,I.kIn a o hk,hc,hd,by simpa using hs⟩,?_⟩;have e:=r.length;simp[Dw]at e;lia
def Inv.tuple (I:Inv X dg σ H s)(h:SqT X.K H a xs):∃b:List Value,Vals xs b/\IsTup s.heap a b.toArray/\xs.length<=sizeLine:=by
 rcases h with h | ⟨o,b,n,hk,hc,hs,hz,r⟩
 ·obtain⟨z,b,r,p⟩:=h.ok I.hok;exact⟨b,r,p,z⟩
 refine⟨b.toList,r,⟨o,I.kIn a o hk,hc,n,by simpa using hs⟩,?_⟩;have e:=r.length;simp[Dw]at e;lia
def Inv.list_inj (I:Inv X dg σ H s)(h:Y X.K H a xs)(h':Y X.K H a ys):xs=ys:=by
 obtain⟨b,r,⟨o,n,e,_,_,d⟩,_⟩:=I.list h;obtain⟨its',g,⟨i,j,f,_,_,c⟩,_⟩:=I.list h';rw[e]at f;cases f;rw[d]at c;injection c with d1 _;have:b=its':=by simpa using A5 Array.toList d1
 subst this;exact r.inj g
def Inv.tuple_inj (I:Inv X dg σ H s)(h:SqT X.K H a xs)(h':SqT X.K H a ys):xs=ys:=by
 obtain⟨b,r,⟨o,e,_,n,d⟩,_⟩:=I.tuple h;obtain⟨its',g,⟨i,f,_,j,c⟩,_⟩:=I.tuple h';rw[e]at f;cases f;rw[d]at c;injection c with d1 _;have:b=its':=by simpa using A5 Array.toList d1
 subst this;exact r.inj g
end
abbrev Cx.wish (X:Cx)(E:Value->Shared->Prop):Cx:={ X with xe:=E }
abbrev Cx.nox (X:Cx):Cx:=X.wish λ_ _=>False
def Cx.Ok.wish {X:Cx}(ok:X.Ok)(E:Value->Shared->Prop):(X.wish E).Ok:=
 ⟨ok.mod,ok.kind,ok.glob,ok.blt,ok.above,ok.inj,ok.has,ok.cab,ok.hd,ok.frames,ok.stk,ok.exf,ok.bs,ok.bsz,ok.noex,ok.exfs,ok.funs,ok.frf⟩
def Cx.Ok.unwish {X:Cx}{E:Value->Shared->Prop}(ok:(X.wish E).Ok):X.Ok:=
 ⟨ok.mod,ok.kind,ok.glob,ok.blt,ok.above,ok.inj,ok.has,ok.cab,ok.hd,ok.frames,ok.stk,ok.exf,ok.bs,ok.bsz,ok.noex,ok.exfs,ok.funs,ok.frf⟩
section
variable {X:Cx}{dg:List (Addr×Obj)}{σ:St}{H:Hp}{s:Shared}{E:Value->Shared->Prop}
def Inv.wish (I:Inv X dg σ H s)(E:Value->Shared->Prop):Inv (X.wish E) dg σ H s:=⟨I.ok.wish E,I.os,I.bare,I.base,I.loc,I.cell,I.free,I.freeC,I.pin,I.hok,I.len⟩
def Inv.unwish (I:Inv (X.wish E) dg σ H s):Inv X dg σ H s:=⟨I.ok.unwish,I.os,I.bare,I.base,I.loc,I.cell,I.free,I.freeC,I.pin,I.hok,I.len⟩
def SP.unwish (h:SP (X.wish E) dg D f s'):SP X dg D f s':=by
 cases f with
 | next=>obtain⟨a,H',I,q⟩:=h;exact⟨a,H',I.unwish,q⟩
 | brk=>obtain⟨a,H',I,q⟩:=h;exact⟨a,H',I.unwish,q⟩
 | cont=>obtain⟨a,H',I,q⟩:=h;exact⟨a,H',I.unwish,q⟩
 | ret u=>obtain⟨v,a,H',I,r,q⟩:=h;exact⟨v,a,H',I.unwish,r,q⟩
def PSs.nox {st:List Stmt}{t:TS}(h:PSs X.nox st t):PSs X st t:=λdg s σ H D I a=>CD (h dg s σ H D (I.wish _) a) (λ_ _ q=>q.unwish) λ_ _ z=>False.elim z
end
section
variable {X:Cx}{st:Stmt}{rest:List Stmt}{t u:TS}{e:Expr}{te:TE}{pos:Pos}
def ML:TS:=λD σ H=>D.nx σ H
def Pq (t u:TS):TS:=λD σ H=>t { D with nx:=u D } σ H
def AX:PSs X [] ML:=λ_ _ a H _ I h=>OM ⟨a,H,I,h⟩
def Ai (c:PS X st t)(g:PSs X rest u):PSs X (st::rest) (Pq t u):=by
 intro a s i H D I h;refine wpAny_execs_cons (thn (c a s i H { D with nx:=u D } I h) λf j q=>?_);cases f with
 | next=>obtain⟨b,H',d,q⟩:=q;exact g a j b H' D d q
 | ret v=>exact q
 | brk=>exact q
 | cont=>exact q
def Al (b:PS X st t):PSs X [st] t:=by
 intro a s c H D I h;refine wpAny_execs_cons (thn (b a s c H D I h) λf d q=>?_);cases f with
 | next=>exact OM q
 | ret v=>exact q
 | brk=>exact q
 | cont=>exact q
def Inv.quiet (I:Inv X dg σ H s):interactive X.env=false:=by simp[interactive,I.ok.kind]
def YE (te:TE):TS:=λD σ H=>te σ H λ_ H1=>D.nx σ H1
def CV (d:PE X e te)(j:swapsWith e none pos.line X.env=pure false:=by rfl):PS X (.Expr e pos) (YE te):=by intro a s c H D I h;exact wpAny_Expr_any (thn (d a s c H _ I h) λv m b=>by obtain⟨x,g,i,l,f⟩:=b;exact⟨c,g,i,f⟩) I.quiet j
def Pr (te:TE):TS:=λD σ H=>te σ H D.rt
def Av (d:PE X e te):PS X (.Return (some e) pos) (Pr te):=by intro a s c H D I h;exact wpAny_Return_some (thn (d a s c H _ I h) λv l b=>by obtain⟨x,g,j,i,f⟩:=b;exact⟨x,c,g,j,i,f⟩)
def YA (c:TT)(t u:TS):TS:=λD σ H=>c σ H λb H1=>if b=true then t D σ H1 else u D σ H1
def AY (q:PT X c tc)(p:PSs X a t)(o:PSs X b u):PS X (.If c a b pos) (YA tc t u):=by
 intro f s i H D I h;refine wpAny_If (thn (q f s i H _ I h) λd n g=>?_);obtain⟨l,m,j⟩:=g;cases d with
 | true=>exact p f n i l D m j
 | false=>exact o f n i l D m j
def Uh:TS:=λ_ _ _=>False
def NR:PS X st Uh:=λ_ _ _ _ _ _ h=>h.elim
def B6 :PSs X sts Uh:=λ_ _ _ _ _ _ h=>h.elim
end
abbrev TG:=V->St->Hp->(St->Hp->Prop)->Prop
abbrev JK:=List V->St->Hp->(St->Hp->Prop)->Prop
def PG (X:Cx)(target:Expr)(t:TG):Prop:=
 ∀(dg:List (Addr×Obj)) (s:Shared) (σ:St) (H:Hp) (v:V) (u:Value) (Q:St->Hp->Prop),Inv X dg σ H s->RelV v u->t v σ H Q ->
  wpAny (model X.prog X.w) X.A (assign target X.env u) (λ_ s'=>∃σ' H',Inv X dg σ' H' s'/\Q σ' H') X.xe s
def Pa (X:Cx)(ts:List Expr)(t:JK):Prop:=
 ∀(dg:List (Addr×Obj)) (s:Shared) (σ:St) (H:Hp) (vs:List V) (us:List Value) (Q:St->Hp->Prop),Inv X dg σ H s->Vals vs us->t vs σ H Q ->
  wpAny (model X.prog X.w) X.A (assignInOrder ((assignEach ts X.env).map (·.2)) us) (λ_ s'=>∃σ' H',Inv X dg σ' H' s'/\Q σ' H') X.xe s
section
variable {X:Cx}{pos:Pos}
def EC (i:Nat):TG:=λv σ H Q=>Q (σ.set i (some v)) H
def bP (f:X.N.Nodup)(d:X.N[i]? = some x)(b:JO X.env.scope x)(c:X.fn x=true\/X.env.scope.names.lookup x=some .local:=by first | exact .inl U | exact .inr U | assumption):PG X (.Name x pos) (EC i):=by intro a s g H v u Q I r h;exact wpAny_assign_Name (Pv I f d b r (λs' e=>⟨_,H,e,h⟩) c)
def R3:JK:=λvs σ H Q=>vs=[]/\Q σ H
inductive Je (t:TG)(u:JK)(vs:List V)(σ:St)(H:Hp)(Q:St->Hp->Prop):Prop
 | mk (v:_) (r:_) (c0:vs=v::r) (c1:t v σ H λσ' H'=>u r σ' H' Q):Je t u vs σ H Q
def GN:Pa X [] R3:=by rintro a s b H vs us Q I r⟨e,h⟩;subst e;cases r;exact assignInOrder_nil ⟨b,H,I,h⟩
def DG {t:TG} (d:PG X e t)(g:Pa X es u)
  (n:(assignEach (e::es) X.env).map (·.2)=assign e X.env::(assignEach es X.env).map (·.2):=by rfl):Pa X (e::es) (Je t u):=by
 intro a s m H vs us Q I r h
 obtain⟨v,o,e1,h⟩:=h
 subst e1
 cases r with
 | cons r rr=>rw[n];refine assignInOrder_cons (thn (d a s m H _ _ _ I r h) λ_ i c=>?_);obtain⟨b,f,l,j⟩:=c;exact g a i b f _ _ Q l rr j
inductive Jd (K:W.Frag)(n:Nat)(t:JK)(v:V)(σ:St)(H:Hp)(Q:St->Hp->Prop):Prop
 | mk (a:_) (xs:_) (c0:v=.ref a) (c1:SqT K H a xs) (c2:xs.length=n) (c3:t xs σ H Q):Jd K n t v σ H Q
def GO {k:Nat}{t:JK} (l:X.calm=true)(h:Pa X es t)
  (i:(assignEach es X.env).length=n:=by rfl)(f:(assignEach es X.env).findIdx? (·.1)=none:=by rfl):PG X (.Tuple es k pos) (Jd X.K n t):=by
 intro c s x H v u Q I r d
 obtain⟨a,xs,e1,w,p,d⟩:=d
 subst e1
 cases r
 obtain⟨q,g,m,hz⟩:=I.tuple w
 refine assign_Tuple_tuple (I.ok.hd l) m (by simp[i,<- p,g.length]) f λh' j=>?_
 exact h c _ x H xs _ Q (I.kept (t':=s.toks) λb o e=>j b o (Bd (AH e)) e) (by simpa using g) d
def Um (te:TE)(g:TG):TS:=λD σ H=>te σ H λx H1=>g x σ H1 D.nx
def Es (q:X.N.Nodup)(l:X.N[i]? = some x)(f:JO X.env.scope x)(c:PE X e te)(r:swapsWith e (some (.Name x pos')) pos.line X.env=pure false:=by rfl)(j:X.fn x=true\/X.env.scope.names.lookup x=some .local:=by first | exact .inl U | exact .inr U | assumption) :
  PS X (.Assign [.Name x pos'] e pos) (Um te (EC i)):=by
 intro a s p H D I h
 refine wpAny_Assign_Name (thn (c a s p H _ I h) λv u b=>?_) r
 obtain⟨y,d,o,n,m⟩:=b
 exact Pv o q l f n (λs2 g=>⟨_,d,g,m⟩) j
end
section
variable {X:Cx}{pos:Pos}
def Ye (c:TT)(tb:TS):TS:=λD σ H=>∃W:Nat->St->Hp->Prop,(∃m,W m σ H)/\∀m σ H,W m σ H ->
 c σ H λb H1=>if b=true then ∃N:St->Hp->Prop,(∀σ' H',N σ' H'->∃m',m'<m/\W m' σ' H')/\tb { D with nx:=N,ct:=N,bk:=D.nx } σ H1 else D.nx σ H1
def bB (A:PassesOwn (model X.prog X.w) X.A X.env X.xe)(B:PT X c tc)(C:PSs X body tb):PS X (.While c body [] pos) (Ye tc tb):=by
 rintro a s L H D I⟨W,⟨E,F⟩,h⟩;refine wpAny_While (codeAny_whileLoop (λn s'=>∃g H',Inv X a g H' s'/\W n g H') ?_ E ⟨L,H,I,F⟩);rintro n K ⟨e,w,M,G⟩;refine Hv A (thn (B a K e w _ M (h n e w G)) λb s2 r=>?_);obtain⟨y,x,l⟩:=r;cases b with
 | true=>
  obtain⟨N,z,l⟩:=l;rw[As rfl];refine Hv A (thn (C a s2 e y _ x l) λf s3 j=>?_);cases f with
  | next=>obtain⟨d,i,u,o⟩:=j;obtain⟨m,q,p⟩:=z d i o;exact⟨m,q,d,i,u,p⟩
  | cont=>obtain⟨d,i,u,o⟩:=j;obtain⟨m,q,p⟩:=z d i o;exact⟨m,q,d,i,u,p⟩
  | brk=>exact j
  | ret v=>exact j
 | false=>rw[Ag BI];exact OM ⟨e,y,x,l⟩
end
structure It where
 go:Nat->Hp->Prop
 yld:Nat->Hp->V->Hp->Prop
 stop:Nat->Hp->Prop
def FpOk (X:Cx)(dg:List (Addr×Obj))(H:Hp)(b:Addr):Prop:=
 H b=none/\b≠X.env.locals/\b∉X.fs/\(b∈X.ex\/X.s₀.heap.objs.size<=b)/\(∀x c,X.env.cells.lookup x=some c->c≠b)/\∀p∈X.pn++dg,p.1≠b
def Inv.fpOk (I:Inv X dg σ H s)(a:s.heap.objs.size<=b)(d:H' b=none):FpOk X dg H' b:=by
 refine⟨d,Dy (Cp I.lt a),I.nofs a,.inr (Ed I.sz a),λx c e z=>?_,λp f z=>?_⟩
 ·obtain⟨v,q⟩:=I.cell x c e;exact absurd (Cp q.lt (z▸a)) (CM _)
 exact absurd (Cp (AH (I.pin p f).1) (z▸a)) (CM _)
structure El (P:Program)(w:World)(K:W.Frag)(tg:Expr)(J:It)(fp:List Addr)(it:Addr)(tn:Nat->Heap->Prop):Prop where
 mem:it∈fp
 obj:∀i h,tn i h->∀b∈fp,∃o,h.get? b=some o/\∀v,o.data≠.cell v
 keep:∀i h h',tn i h->(∀b∈fp,∀o,h.get? b=some o->h'.get? b=some o)->tn i h'
 item:∀(X:Cx),X.prog=P->X.w=w->X.K=K->X.calm=true->∀(i:Nat) (dg:List (Addr×Obj)) (s:Shared) (σ:St) (H:Hp) (E:Value->Shared->Prop),Inv X dg σ H s->(∀b∈fp,FpOk X dg H b)->tn i s.heap->J.go i H ->
  wpAny (model P w) X.A (pyNext (.ref it)) (λr s1=>∃u,r=some u /\
   wpAny (model P w) X.A (letOwnedTupleGo tg (.ref it) u) (λ_ s2=>∃x H',Inv X dg σ H' s2/\RelV x u/\J.yld i H x H'/\tn (i+1) s2.heap/\∀b∈fp,H' b=none) E s1) E s
 done:∀(X:Cx),X.prog=P->X.w=w->X.K=K->X.calm=true->∀(i:Nat) (dg:List (Addr×Obj)) (s:Shared) (σ:St) (H:Hp) (E:Value->Shared->Prop),Inv X dg σ H s->(∀b∈fp,FpOk X dg H b)->tn i s.heap->J.stop i H ->
  wpAny (model P w) X.A (pyNext (.ref it)) (λr s1=>r=none/\Inv X dg σ H s1) E s
 self:∀(A:Around) (i:Nat) (s:Shared) (Q:Value->Shared->Prop) (E:Value->Shared->Prop),tn i s.heap->Q (.ref it) s->wpAny (model P w) A (pyIter (.ref it)) Q E s
abbrev TI:=St->Hp->(It->Hp->Prop)->Prop
def Xw (X:Cx)(dg:List (Addr×Obj))(σ:St)(tg:Expr)(R:It->Hp->Prop)(itv:Value)(s2:Shared):Prop:=
 ∃(it:Addr) (fp:List Addr) (tn:Nat->Heap->Prop) (J:It) (H':Hp),itv=.ref it/\Inv X dg σ H' s2/\El X.prog X.w X.K tg J fp it tn/\tn 0 s2.heap/\(∀b∈fp,FpOk X dg H' b)/\R J H'
def PI (X:Cx)(tg iter:Expr)(wi:TI):Prop:=
 ∀(dg:List (Addr×Obj)) (s:Shared) (σ:St) (H:Hp) (R:It->Hp->Prop),Inv X dg σ H s->wi σ H R ->
  wpAny (model X.prog X.w) X.A (eval iter X.env) (λv s1=>wpAny (model X.prog X.w) X.A (pyIter v) (Xw X dg σ tg R) X.xe s1) X.xe s
def Jc (e:s.heap.get? it=some o)(c:o.cls=.type n)(d:o.data=.fields vs)
  (b:["enumerate", "zip", "dict_itemiterator", "dict_reverseitemiterator", "odict_iterator", "itertools.zip_longest", "itertools.pairwise"].contains n=false)(a:Q () s):wpAny M A (letOwnedTupleGo tg (.ref it) u) Q E s:=by
 cases tg <;> first
  | exact Ae a
  | (cases u <;> first
    | exact Ae a
    | (refine Ab (wpAny_load e ?_)
       rw[c,d]
       show wpAny M A (if (["enumerate", "zip", "dict_itemiterator", "dict_reverseitemiterator", "odict_iterator", "itertools.zip_longest", "itertools.pairwise"].contains n && vs[0]? == some (rawInt _))=true then _ else _) Q E s
       rw[Ag (by intro h;rw[b,Bool.false_and]at h;cases h)]
       exact Ae a))
def Mz (K:W.Frag)(a:Addr):It:=
 ⟨λi H=>∃xs x,Y K H a xs/\xs[i]? = some x,λi H x H'=>H'=H/\∀xs,Y K H a xs->xs[i]? = some x,λi H=>∃xs,Y K H a xs/\xs.length<=i⟩
def XE (K:W.Frag)(a:Addr):It:=
 ⟨λi H=>∃xs x,SqT K H a xs/\xs[i]? = some x,λi H x H'=>H'=H/\∀xs,SqT K H a xs->xs[i]? = some x,λi H=>∃xs,SqT K H a xs/\xs.length<=i⟩
def TK (lo:Int)(n:Nat):It:=⟨λi _=>i<n,λi H x H'=>H'=H/\x=.int (lo+i),λi _=>n<=i⟩
theorem X6 {P:Program}{w:World}{K:W.Frag}{G:Expr}(a it:Addr):El P w K G (Mz K a) [it] it (λi h=>h.IsListIter it a i) where
 mem:=by simp
 obj:=λi h st b f=>by
  have e:b=it:=by simpa using f
  subst e;obtain⟨o,e,c,d⟩:=st;exact⟨o,e,λv z=>by rw[d]at z;cases z⟩
 keep:=λi h h' st k=>st.at λo e=>k it Θ o e
 item:=by intro X C y q F i j s S H E I l st B;subst C y q;obtain⟨xs,x,m,A⟩:=B;obtain⟨n,r,p,hz⟩:=I.list m;obtain⟨u,M,Q⟩:=r.get A;obtain⟨D,f1,f2,f3,f4,f5⟩:=l it Θ;refine wpAny_pyNext_list_item st p.isList (by simpa using M) λh' g R=>?_;obtain⟨o,e,c,d⟩:=id g;exact⟨u,U,Jc e c d Ξ ⟨x,H,I.turned (t':=s.toks) (λb o f e=>(R.2 b f).trans e) D f1 f3 f4 f5,Q,⟨U,λys L=>by rw[I.list_inj L m];exact A⟩,g,λb f=>(l b f).1⟩⟩
 done:=by intro X C y q F i j s S H E I l st B;subst C y q;obtain⟨xs,m,A⟩:=B;obtain⟨n,r,p,hz⟩:=I.list m;obtain⟨D,f1,f2,f3,f4,f5⟩:=l it Θ;have T:=r.length;exact wpAny_pyNext_list_end (I.ok.hd F) st p.isList (by simp;lia) λh' N=>⟨U,I.turned (λb o f e=>N b o f e) D f1 f3 f4 f5⟩
 self:=λ_ _ _ _ _ st h=>wpAny_pyIter_listiter st h
theorem X3 {P:Program}{w:World}{K:W.Frag}{G:Expr}(a it:Addr):El P w K G (XE K a) [it] it (λi h=>h.IsTupleIter it a i) where
 mem:=by simp
 obj:=λi h st b f=>by
  have e:b=it:=by simpa using f
  subst e;obtain⟨o,e,c,d⟩:=st;exact⟨o,e,λv z=>by rw[d]at z;cases z⟩
 keep:=λi h h' st k=>st.at λo e=>k it Θ o e
 item:=by intro X C y q F i j s S H E I l st B;subst C y q;obtain⟨xs,x,m,A⟩:=B;obtain⟨n,r,p,hz⟩:=I.tuple m;obtain⟨u,M,Q⟩:=r.get A;obtain⟨D,f1,f2,f3,f4,f5⟩:=l it Θ;refine wpAny_pyNext_tuple_item st p (by simpa using M) λh' g R=>?_;obtain⟨o,e,c,d⟩:=id g;exact⟨u,U,Jc e c d Ξ ⟨x,H,I.turned (t':=s.toks) (λb o f e=>(R.2 b f).trans e) D f1 f3 f4 f5,Q,⟨U,λys L=>by rw[I.tuple_inj L m];exact A⟩,g,λb f=>(l b f).1⟩⟩
 done:=by intro X C y q F i j s S H E I l st B;subst C y q;obtain⟨xs,m,A⟩:=B;obtain⟨n,r,p,hz⟩:=I.tuple m;obtain⟨D,f1,f2,f3,f4,f5⟩:=l it Θ;have T:=r.length;exact wpAny_pyNext_tuple_end (I.ok.hd F) st p (by simp;lia) λh' N=>⟨U,I.turned (λb o f e=>N b o f e) D f1 f3 f4 f5⟩
 self:=λ_ _ _ _ _ st h=>wpAny_pyIter_tupleiter st h
theorem X5 {P:Program}{w:World}{K:W.Frag}{r:Expr}(it:Addr)(lo:Int)(n:Nat):El P w K r (TK lo n) [it] it (λi h=>IsRangeIter h it (lo+(i:Nat)*1) ((n:Int)-(i:Nat)) 1) where
 mem:=by simp
 obj:=λi h st b a=>by
  have e:b=it:=by simpa using a
  subst e;exact⟨_,st,λv z=>by have u:=z;cases u⟩
 keep:=λi h h' st k=>k it Θ _ st
 item:=by intro X p l j g i d s B H E I f st m;subst p l j;obtain⟨q,f1,f2,f3,f4,f5⟩:=f it Θ;refine (Walks.range (prog:=X.prog) (w:=X.w) (I.ok.hd g) it lo 1 n).item i s _ _ m st λv h' tk A c x=>?_;obtain⟨t,rfl⟩:=A;refine⟨_,U,Jc (n := "range_iterator") c U U Ξ ⟨.int (lo+i),H,I.turned (λb o a e=>x b o (by simpa using a) e) q f1 f3 f4 f5,⟨t,?_⟩,⟨U,U⟩,c,λb a=>(f b a).1⟩⟩;rw[Int.mul_one]
 done:=by intro X p l j g i d s B H E I f st m;subst p l j;obtain⟨q,f1,f2,f3,f4,f5⟩:=f it Θ;exact wpAny_pyNext_range_end (I.ok.hd g) st (by have:n<=i:=m;lia) λh' y=>⟨U,I.turned (λb o a e=>y b o a e) q f1 f3 f4 f5⟩
 self:=λ_ _ _ _ _ st h=>wpAny_pyIter_rangeiter st h
section
variable {X:Cx}{tg:Expr}
def pY (K:W.Frag)(tl:TE):TI:=λσ H R=>tl σ H λx H1=>∃a,x=.ref a/\(∃xs,Y K H1 a xs)/\R (Mz K a) H1
def pV (K:W.Frag)(tl:TE):TI:=λσ H R=>tl σ H λx H1=>∃a,x=.ref a/\(∃xs,SqT K H1 a xs)/\R (XE K a) H1
def BB (m:PE X l tl):PI X tg l (pY X.K tl):=by
 intro c s w H R I h;refine thn (m c s w H _ I h) ?_;rintro v f⟨x,g,d,u,j⟩;obtain⟨a,e,⟨xs,r⟩,q⟩:=j;subst e;cases u;obtain⟨n,y,p,hz⟩:=d.list r;apply HG p.isList;refine⟨f.heap.objs.size,[f.heap.objs.size],_,_,g,U,d.kept λb o e=>Ax _ e,X6 a _,⟨_,A4 _ U,U,U⟩,λb i=>?_,q⟩;have e:b=f.heap.objs.size:=by simpa using i
 subst e;exact d.fpOk (An _) (d.hok.fresh (An _))
def Va (n:PE X l tl):PI X tg l (pV X.K tl):=by
 intro c s w H R I h;refine thn (n c s w H _ I h) ?_;rintro v d⟨x,i,f,u,m⟩;obtain⟨a,e,⟨xs,r⟩,q⟩:=m;subst e;cases u;obtain⟨g,y,p,hz⟩:=f.tuple r;apply JE (show d.heap.IsTuple a g.toArray from p);refine⟨d.heap.objs.size,[d.heap.objs.size],_,_,i,U,f.kept λb o e=>Ax _ e,X3 a _,⟨_,A4 _ U,U,U⟩,λb j=>?_,q⟩;have e:b=d.heap.objs.size:=by simpa using j
 subst e;exact f.fpOk (An _) (f.hok.fresh (An _))
def aH {lo:Int}{t:Tok}{tk:Nat}(I:Inv X dg σ H s)(d:-(2^62)<=lo)(h:lo<2^62)(c:-(2^62)<=hi)(f:hi<2^62)
  (q:R (TK lo (hi-lo).toNat) H):wpAny (model X.prog X.w) X.A (pyIter (.ref s.heap.objs.size)) (Xw X dg σ tg R) E { s with heap:=s.heap.push { cls:=.type "range",data:=.fields #[.int lo t,.int hi u,.int 1 v] },toks:=tk }:=by
 apply wpAny_pyIter_range (IsRange.new ..) (small_one d h c f)
 have a:Inv X dg σ H { s with heap:=s.heap.push { cls:=.type "range",data:=.fields #[.int lo t,.int hi u,.int 1 v] },toks:=tk }:=I.kept λb o e=>Ax _ e
 refine⟨(s.heap.push { cls:=.type "range",data:=.fields #[.int lo t,.int hi u,.int 1 v] }).objs.size,[(s.heap.push { cls:=.type "range",data:=.fields #[.int lo t,.int hi u,.int 1 v] }).objs.size],_,_,H,U,a.kept λb o e=>Ax _ e,X5 _ lo (hi-lo).toNat,?_,λb g=>?_,q⟩
 ·have e1:lo+((0:Nat):Int)*1=lo:=by simp
  have e2:(((hi-lo).toNat:Nat):Int)-((0:Nat):Int)=Builtin.Range.rangeSize lo hi 1:=by rw[rangeSize_one];split <;> lia
  rw[e1,e2];exact A4 _ U
 have e:b=(s.heap.push { cls:=.type "range",data:=.fields #[.int lo t,.int hi u,.int 1 v] }).objs.size:=by simpa using g
 subst e
 exact a.fpOk (An _) (a.hok.fresh (An _))
def pX (ta:TA):TI:=λσ H R=>ta σ H λvs H1=>∃j:Int,vs=[.int j]/\-(2^62)<=j/\j<2^62/\R (TK 0 j.toNat) H1
def Ky (g:Gl X "range")(f:X.mg "range" = none)(l:PA X [a] ta)(u:starEach [a] X.env=[(false,eval a X.env)]:=by rfl):PI X tg (.Call (.Name "range" p) [a] [] pos) (pX ta):=by
 intro b s o H R I h;refine Call_ (EB I g f boot_range (FE (thn (l pos b s o H _ I h) λus w d=>?_) u U));obtain⟨vs,v,n,m,c⟩:=d;obtain⟨j,e,c,i,q⟩:=c;subst e;cases m with
 | cons r rr=>cases rr;obtain⟨t,rfl⟩:=r;exact call_range_1 (aH n Ψ Ψ c i (by simpa using q))
def YC (wi:TI)(g:TG)(tb:TS):TS:=λD σ H=>wi σ H λJ H1=>∃W:Nat->Nat->St->Hp->Prop,(∃m,W 0 m σ H1)/\∀i m σ H,W i m σ H ->
 (J.stop i H/\D.nx σ H)\/(J.go i H/\∃N:St->Hp->Prop,(∀σ' H',N σ' H'->∃m',m'<m/\W (i+1) m' σ' H')/\∀x H',J.yld i H x H'->g x σ H' λσ2 H2=>tb { D with nx:=N,ct:=N,bk:=D.nx } σ2 H2)
def Kx (fp:List Addr)(h:Heap):List (Addr×Obj):=fp.filterMap λb=>(h.get? b).map λo=>(b,o)
def N8 (a:b∈fp)(e:h.get? b=some o):(b,o)∈Kx fp h:=mem_filterMap.mpr ⟨b,a,by rw[e];rfl⟩
def iN (d:p∈Kx fp h):p.1∈fp/\h.get? p.1=some p.2:=by
 obtain⟨b,c,e⟩:=mem_filterMap.mp d;cases q:h.get? b with
 | none=>rw[q]at e;cases e
 | some o=>rw[q]at e;have a:=Bh e;subst a;exact⟨c,q⟩
def Inv.pinned (I:Inv X dg σ H s)(f:∀b∈fp,FpOk X dg H b)(h:∀b∈fp,∃o,s.heap.get? b=some o/\∀v,o.data≠.cell v):Inv X (dg++Kx fp s.heap) σ H s:=
 I.pins_of λp i=>(Br.mp i).elim (λz=>I.pin p (Ei _ z)) λz=>by obtain⟨a,e⟩:=iN z;obtain⟨g,f1,f2,_⟩:=f p.1 a;obtain⟨o,c,d⟩:=h p.1 a;rw[e]at c;cases c;exact⟨e,g,f1,f2,d⟩
def Inv.unpinned (I:Inv X (dg++pl) σ H s):Inv X dg σ H s:=I.pins_of λp a=>I.pin p (Ei _ (Hw _ a))
def CU (M:PassesOwn (model X.prog X.w) X.A X.env X.xe)(hc:X.calm=true)(hi:PI X tg iter wi)(hg:PG X tg g)(w:PSs X body tb)
  (hs:∀x,foldedSetIterable iter X.env x=pure x:=by intro _;rfl):PS X (.For tg iter body [] pos) (YC wi g tb):=by
 intro c s σ H D I h
 refine wpAny_For (thn (hi c s σ H _ I h) λv s1 h1=>thn h1 λa2 s2 h2=>?_) hs
 obtain⟨it,K,tn,a,H2,e,I2,T,S,f2,W,⟨m0,w0⟩,P⟩:=h2
 subst e
 have z:∀{H':Hp},(∀b∈K,H' b=none)->∀b∈K,FpOk X c H' b:=λhn b w=>⟨hn b w,(f2 b w).2⟩
 refine codeAny_forLoop_any (λn s'=>∃i p H',Inv X c p H' s'/\tn i s'.heap/\(∀b∈K,H' b=none)/\W i n p H') ?_ m0 ⟨0,σ,H2,I2,S,λb w=>(f2 b w).1,w0⟩
 rintro n s3 ⟨i,y,R,I3,Q,F,w3⟩
 rcases P i n y R w3 with⟨G,qn⟩ | ⟨go,N,hN,step⟩
 ·refine Hv M (thn (T.done X U U U hc i c s3 y R X.xe I3 (z F) Q G) λr s4 l=>?_);obtain⟨hr,I4⟩:=l;subst hr;exact OM ⟨y,R,I4,qn⟩
 refine Hv M (thn (T.item X U U U hc i c s3 y R X.xe I3 (z F) Q go) λr s4 l=>?_)
 obtain⟨u,hr,h4⟩:=l
 subst hr
 refine Hv M (thn h4 λ_ s5 l=>?_)
 obtain⟨x,H5,I5,r5,y5,E,a0⟩:=l
 refine Hv M (thn (hg _ s5 y H5 x u _ (I5.pinned (z a0) (T.obj _ _ E)) r5 (step x H5 y5)) λ_ s6 l=>?_)
 obtain⟨a1,H6,I6,q6⟩:=l
 refine Hv M (thn (w _ s6 a1 H6 _ I6 q6) λf s7 C=>?_)
 have A:∀{j:St}{q:Hp},Inv X (c++Kx K s5.heap) j q s7->N j q->∃m,m<n/\∃i p H',Inv X c p H' s7/\tn i s7.heap/\(∀b∈K,H' b=none)/\W i m p H':=λ{j q} B L=>by obtain⟨m',hm,w7⟩:=hN j q L;refine⟨m',hm,i+1,j,q,B.unpinned,T.keep _ _ _ E λb w o e=>(B.pin (b,o) (Ei _ (Ei _ (N8 w e)))).1,λb w=>?_,w7⟩;obtain⟨o,e,d⟩:=T.obj _ _ E b w;exact(B.pin (b,o) (Ei _ (Ei _ (N8 w e)))).2.1
 cases f with
 | next=>obtain⟨j,q,B,L⟩:=C;exact A B L
 | cont=>obtain⟨j,q,B,L⟩:=C;exact A B L
 | brk=>obtain⟨j,q,B,C⟩:=C;exact⟨j,q,B.unpinned,C⟩
 | ret v=>obtain⟨x7,j,q,B,r7,C⟩:=C;exact⟨x7,j,q,B.unpinned,r7,C⟩
end
def DI {K:W.Frag}{a:Addr}{xs:List V}{g:TG}{n:TS}{D:Gw}{b:St}{H:Hp}(c:Nat->St->Hp->Prop)(r:c 0 b H)(s:∀i b H,i<=xs.length->c i b H->Y K H a xs)
  (w:∀i x b H,xs[i]? = some x->c i b H->g x b H λf j=>n { D with nx:=c (i+1),ct:=c (i+1),bk:=D.nx } f j)(u:∀b H,c xs.length b H->D.nx b H) :
  ∃W:Nat->Nat->St->Hp->Prop,(∃m,W 0 m b H)/\∀i m b H,W i m b H ->
   ((Mz K a).stop i H/\D.nx b H)\/((Mz K a).go i H/\∃N:St->Hp->Prop,(∀d H',N d H'->∃l,l<m/\W (i+1) l d H')/\∀x H',(Mz K a).yld i H x H'->g x b H' λf j=>n { D with nx:=N,ct:=N,bk:=D.nx } f j):=by
 refine⟨λi m b H=>m=xs.length-i/\i<=xs.length/\c i b H,⟨xs.length,Θ,Bt _,r⟩,?_⟩
 rintro i m b H ⟨rfl,o,p⟩
 have q:=s i b H o p
 by_cases h:i<xs.length
 ·refine .inr ⟨⟨xs,xs[i],q,by simp[h]⟩,c (i+1),λd H' v=>⟨xs.length-(i+1),Ψ,U,h,v⟩,λx H' y=>?_⟩;obtain⟨e,y⟩:=y;subst e;exact w i x b _ (y xs q) p
 have e:i=xs.length:=by lia
 subst e
 exact .inl ⟨⟨xs,q,An _⟩,u b H p⟩
abbrev R2:=V->V->Hp->VK->Prop
def Bu (X:Cx)(f:Value->Value->Sem Value)(r:R2):Prop:=
 ∀(dg:List (Addr×Obj)) (s:Shared) (σ:St) (H:Hp) (x y:V) (v u:Value) (Q:VK),Inv X dg σ H s->RelV x v->RelV y u->r x y H Q ->
  wpAny (model X.prog X.w) X.A (f v u) (EP X dg σ Q) X.xe s
def TC (X:Cx)(f:Value->Sem Value)(r:V->Hp->VK->Prop):Prop:=
 ∀(dg:List (Addr×Obj)) (s:Shared) (σ:St) (H:Hp) (x:V) (v:Value) (Q:VK),Inv X dg σ H s->RelV x v->r x H Q ->
  wpAny (model X.prog X.w) X.A (f v) (EP X dg σ Q) X.xe s
def Ce (X:Cx)(f:Value)(r:List V->Hp->VK->Prop):Prop:=
 ∀(dg:List (Addr×Obj)) (s:Shared) (σ:St) (H:Hp) (xs:List V) (us:List Value) (Q:VK),Inv X dg σ H s->Vals xs us->r xs H Q ->
  wpAny (model X.prog X.w) X.A (call f us) (EP X dg σ Q) X.xe s
def MK (r:R2)(ta tb:TE):TE:=λσ H Q=>ta σ H λx H1=>tb σ H1 λy H2=>r x y H2 Q
def Yf (r:V->Hp->VK->Prop)(ta:TE):TE:=λσ H Q=>ta σ H λx H1=>r x H1 Q
inductive rI (C:Int->Int->Prop)(g:Int->Int->V)(x:V)(y:V)(H:Hp)(Q:VK):Prop
 | mk (i:_) (j:_) (c0:x=.int i) (c1:y=.int j) (c2:C i j) (c3:Q (g i j) H):rI C g x y H Q
inductive F1 (g:Int->Int->V)(x:V)(y:V)(H:Hp)(Q:VK):Prop
 | mk (i:_) (j:_) (c0:x=.int i) (c1:y=.int j) (c2:Q (g i j) H):F1 g x y H Q
def rU (g:Int->V):V->Hp->VK->Prop:=λx H Q=>∃i,x=.int i/\Q (g i) H
section
variable {X:Cx}{a b c:Expr}{ta tb tc:TE}{pos:Pos}
def Sv (r:PE X a ta)(q:PE X b tb){d:List (Addr×Obj)}{s:Shared}{i:St}{H:Hp}{R:V->V->Hp->Prop}(I:Inv X d i H s)
  (h:ta i H λx m=>tb i m λy g=>R x y g){Q:Value->Shared->Prop}{f:Value->Value->Sem Value}
  (p:∀v u s2 x y g,Inv X d i g s2->RelV x v->RelV y u->R x y g->wpAny (model X.prog X.w) X.A (f v u) Q X.xe s2) :
  wpAny (model X.prog X.w) X.A (eval a X.env) (λv l=>wpAny (model X.prog X.w) X.A (eval b X.env) (λu j=>wpAny (model X.prog X.w) X.A (f v u) Q X.xe j) X.xe l) X.xe s:=by
 refine thn (r d s i H _ I h) λv w e=>?_
 obtain⟨x,m,C,B,z⟩:=e
 refine thn (q d w i m _ C z) λu s2 e=>?_
 obtain⟨y,g,A,n,o⟩:=e
 exact p v u s2 x y g A B n o
def AD (m:Bu X (binaryOp op) r)(g:PE X a ta)(f:PE X b tb):PE X (.BinOp a op b pos) (MK r ta tb):=by intro d s n H Q I h;exact wpAny_BinOp (Sv g f I h λv u s2 x y i e l j q=>m d s2 n i x y v u Q e l j q)
def Rr (n:TC X (unaryOp op) r)(g:PE X a ta):PE X (.UnaryOp op a pos) (Yf r ta):=by intro d s f H Q I h;exact UnaryOp_ (thn (g d s f H _ I h) λv o e=>by obtain⟨x,j,m,l,i⟩:=e;exact n d o f j x v Q m l i)
def NY {f:Value->Value->Sem Value}{C:Int->Int->Prop}{g:Int->Int->Int}
  (d:∀(i j:Int) (t u:Tok) (s:Shared) (Q:Value->Shared->Prop) (E:Value->Shared->Prop),C i j->Q (.int (g i j) s.toks) { s with toks:=s.toks+1 }->wpAny (model X.prog X.w) X.A (f (.int i t) (.int j u)) Q E s) :
  Bu X f (rI C λi j=>.int (g i j)):=by
 intro e s o H x y v u Q I n m h
 obtain⟨i,j,rfl,rfl,l,q⟩:=h
 obtain⟨t,rfl⟩:=n
 obtain⟨t',rfl⟩:=m
 exact d i j t t' s _ _ l ⟨.int (g i j),H,I.tok _,⟨_,U⟩,q⟩
def Vs {f:Value->Value->Sem Value}{g:Int->Int->Int}
  (d:∀(i j:Int) (t u:Tok) (s:Shared) (Q:Value->Shared->Prop) (E:Value->Shared->Prop),Q (.int (g i j) s.toks) { s with toks:=s.toks+1 }->wpAny (model X.prog X.w) X.A (f (.int i t) (.int j u)) Q E s) :
  Bu X f (F1 λi j=>.int (g i j)):=by
 intro e s n H x y v u Q I m l h
 obtain⟨i,j,rfl,rfl,q⟩:=h
 obtain⟨t,rfl⟩:=m
 obtain⟨t',rfl⟩:=l
 exact d i j t t' s _ _ ⟨.int (g i j),H,I.tok _,⟨_,U⟩,q⟩
def RC {f:Value->Value->Sem Value}{g:Int->Int->Bool}
  (d:∀(i j:Int) (t u:Tok) (s:Shared) (Q:Value->Shared->Prop) (E:Value->Shared->Prop),Q (.bool (g i j)) s->wpAny (model X.prog X.w) X.A (f (.int i t) (.int j u)) Q E s) :
  Bu X f (F1 λi j=>.bl (g i j)):=by
 intro e s n H x y v u Q I m l h
 obtain⟨i,j,rfl,rfl,q⟩:=h
 obtain⟨t,rfl⟩:=m
 obtain⟨t',rfl⟩:=l
 exact d i j t t' s _ _ ⟨.bl (g i j),H,I,U,q⟩
def XH (i j:Int):Prop:=0<=j/\j<=1000000/\i.natAbs<2^64
def CMul (i j:Int):Prop:=(-(2^64)<i/\i<2^64)\/(-(2^64)<j/\j<2^64)
def CMul.ok (h:CMul i j):IntMulOk i j:=by
 rcases h with⟨d,e⟩ | ⟨d,e⟩
 ·exact .of_left (intBits_le_64 d e)
 exact .of_right (intBits_le_64 d e)
def DS:Bu X (binaryOp .Add) (F1 λi j=>.int (i+j)):=Vs λ_ _ _ _ _ _ _ q=>add_int q
def LA:Bu X (binaryOp .Mult) (rI CMul λi j=>.int (i*j)):=NY λ_ _ _ _ _ _ _ d q=>mul_int q d.ok
def IW:Bu X (binaryOp .Mod) (rI (λ_ j=>0<j) λi j=>.int (i % j)):=NY λi j _ _ _ _ _ d q=>by have e:=d;exact mod_int' Ψ (by rw[Int.fmod_eq_emod_of_nonneg i Ψ];exact q)
def cK:Bu X (binaryOp .Pow) (rI XH λi j=>.int (i^j.toNat)):=NY λ_ _ _ _ _ _ _ d q=>pow_int_small d.1 d.2.1 d.2.2 q
def Vo:Bu X (binaryOp .LShift) (rI XH λi j=>.int (i*2^j.toNat)):=NY λ_ _ _ _ _ _ _ d q=>lshift_int_small d.1 d.2.1 d.2.2 q
def Vp:Bu X (binaryOp .BitOr) (F1 λi j=>.int (Builtin.bitOr i j)):=Vs λ_ _ _ _ _ _ _ q=>or_int q
def XY {f:Value->Sem Value}{g:Int->Int}
  (d:∀(i:Int) (t:Tok) (s:Shared) (Q:Value->Shared->Prop) (E:Value->Shared->Prop),Q (.int (g i) s.toks) { s with toks:=s.toks+1 }->wpAny (model X.prog X.w) X.A (f (.int i t)) Q E s) :
  TC X f (rU λi=>.int (g i)):=by
 intro e s l H x v Q I j h
 obtain⟨i,rfl,q⟩:=h
 obtain⟨t,rfl⟩:=j
 exact d i t s _ _ ⟨.int (g i),H,I.tok _,⟨_,U⟩,q⟩
def Pm:TC X (unaryOp .USub) (rU λi=>.int (-i)):=XY λ_ _ _ _ _ q=>neg_int q
end
def QV:V->V->Bool
 | .non,.non=>true | .non,.int _=>true | .int _,.non=>true | .non,.bl _=>true | .bl _,.non=>true | .non,.str _=>true | .str _,.non=>true
 | .int _,.int _=>true | .bl _,.bl _=>true | .str _,.str _=>true | .byt _,.byt _=>true
 | .int _,.str _=>true | .str _,.int _=>true | .bl _,.str _=>true | .str _,.bl _=>true
 | _,_=>false
def aT:R2:=λx y H Q=>QV x y=true/\Q (.bl (decide (x=y))) H
def aR:R2:=λx y H Q=>QV x y=true/\Q (.bl (!decide (x=y))) H
def WI :decide (V.int i=V.int j)=(i == j):=by rw[EI];simp
def WL :decide (V.bl i=V.bl j)=(i == j):=by rw[EI];simp
def WH :decide (V.str i=V.str j)=(i == j):=by rw[EI];simp
def WJ :decide (V.byt i=V.byt j)=(i.toList == j.toList):=by rw[EI];cases i;cases j;simp
section
variable {X:Cx}{a b c:Expr}{ta tb tc:TE}{pos:Pos}
def BH {k:Bool}(I:Inv X dg σ H s)(q:Q (.bl k) H)(e:k=k'):EP X dg σ Q (.bool k') s:=by subst e;exact⟨.bl k,H,I,U,q⟩
def By:Bu X (compareOp .Eq) aT:=by
 rintro g s h H x y v u Q I f d⟨e,q⟩;cases x with
 | non=>
  cases f;cases y with
  | non=>cases d;exact PySem.EqNone.eq_none_none (BH I q Θ)
  | bl j=>cases d;exact PySem.EqNone.eq_none_bool (BH I q Θ)
  | int j=>obtain⟨t',rfl⟩:=d;exact PySem.EqNone.eq_none_int (BH I q Θ)
  | str j=>obtain⟨t',rfl⟩:=d;exact PySem.EqNone.eq_none_str (BH I q Θ)
  | _=>exact absurd e BI
 | bl i=>
  cases f;cases y with
  | non=>cases d;exact PySem.EqNone.eq_bool_none (BH I q Θ)
  | bl j=>cases d;exact eq_bool (BH I q WL)
  | str j=>obtain⟨t',rfl⟩:=d;exact PySem.EqMixed.eq_bool_str (BH I q Θ)
  | _=>exact absurd e BI
 | int i=>
  obtain⟨t,rfl⟩:=f;cases y with
  | non=>cases d;exact PySem.EqNone.eq_int_none (BH I q Θ)
  | int j=>obtain⟨t',rfl⟩:=d;exact eq_int (BH I q WI)
  | str j=>obtain⟨t',rfl⟩:=d;exact PySem.EqMixed.eq_int_str (BH I q Θ)
  | _=>exact absurd e BI
 | str i=>
  obtain⟨t,rfl⟩:=f;cases y with
  | non=>cases d;exact PySem.EqNone.eq_str_none (BH I q Θ)
  | bl j=>cases d;exact PySem.EqMixed.eq_str_bool (BH I q Θ)
  | int j=>obtain⟨t',rfl⟩:=d;exact PySem.EqMixed.eq_str_int (BH I q Θ)
  | str j=>obtain⟨t',rfl⟩:=d;exact eq_str (BH I q WH)
  | _=>exact absurd e BI
 | byt i=>
  obtain⟨t,rfl⟩:=f;cases y with
  | byt j=>obtain⟨t',rfl⟩:=d;exact PySem.W.eq_bytes (BH I q WJ)
  | _=>exact absurd e BI
 | _=>cases y <;> exact absurd e BI
def Fn:Bu X (compareOp .NotEq) aR:=by
 rintro g s h H x y v u Q I f d⟨e,q⟩;cases x with
 | non=>
  cases f;cases y with
  | non=>cases d;exact PySem.EqNone.ne_none_none (BH I q Θ)
  | bl j=>cases d;exact PySem.EqNone.ne_none_bool (BH I q Θ)
  | int j=>obtain⟨t',rfl⟩:=d;exact PySem.EqNone.ne_none_int (BH I q Θ)
  | str j=>obtain⟨t',rfl⟩:=d;exact PySem.EqNone.ne_none_str (BH I q Θ)
  | _=>exact absurd e BI
 | bl i=>
  cases f;cases y with
  | non=>cases d;exact PySem.EqNone.ne_bool_none (BH I q Θ)
  | bl j=>cases d;exact ne_bool (BH I q (A5 not WL))
  | str j=>obtain⟨t',rfl⟩:=d;exact PySem.EqMixed.ne_bool_str (BH I q Θ)
  | _=>exact absurd e BI
 | int i=>
  obtain⟨t,rfl⟩:=f;cases y with
  | non=>cases d;exact PySem.EqNone.ne_int_none (BH I q Θ)
  | int j=>obtain⟨t',rfl⟩:=d;exact ne_int (BH I q (A5 not WI))
  | str j=>obtain⟨t',rfl⟩:=d;exact PySem.EqMixed.ne_int_str (BH I q Θ)
  | _=>exact absurd e BI
 | str i=>
  obtain⟨t,rfl⟩:=f;cases y with
  | non=>cases d;exact PySem.EqNone.ne_str_none (BH I q Θ)
  | bl j=>cases d;exact PySem.EqMixed.ne_str_bool (BH I q Θ)
  | int j=>obtain⟨t',rfl⟩:=d;exact PySem.EqMixed.ne_str_int (BH I q Θ)
  | str j=>obtain⟨t',rfl⟩:=d;exact ne_str (BH I q (A5 not WH))
  | _=>exact absurd e BI
 | byt i=>
  obtain⟨t,rfl⟩:=f;cases y with
  | byt j=>obtain⟨t',rfl⟩:=d;exact PySem.W.ne_bytes (BH I q (A5 not WJ))
  | _=>exact absurd e BI
 | _=>cases y <;> exact absurd e BI
def IX:Bu X (compareOp .Lt) (F1 λi j=>.bl (decide (i<j))):=RC λ_ _ _ _ _ _ _ q=>lt_int q
def G2:Bu X (compareOp .LtE) (F1 λi j=>.bl (decide (i<=j))):=RC λ_ _ _ _ _ _ _ q=>le_int q
def F7:Bu X (compareOp .Gt) (F1 λi j=>.bl (decide (j<i))):=RC λ_ _ _ _ _ _ _ q=>gt_int q
def cP:Bu X (compareOp .In) (λx y H Q=>∃i j,x=.str i/\y=.str j/\Q (.bl (!(Builtin.Str.occurrences j i 0 j.length 1).isEmpty)) H):=by rintro d s g H x y v u Q I f e⟨i,j,rfl,rfl,q⟩;obtain⟨t,rfl⟩:=f;obtain⟨t',rfl⟩:=e;exact in_str (BH I q U)
def IZ:Bu X (compareOp .Is) (λx y H Q=>y=.non/\Q (.bl (decide (x=.non))) H):=by
 rintro e s g H x y v u Q I d f⟨rfl,q⟩;cases f;refine is_none_gen (BH I q ?_)
 cases x <;> first
  | (cases d;rfl)
  | (obtain⟨t,rfl⟩:=d;rfl)
def Rz:Bu X (compareOp .IsNot) (λx y H Q=>y=.non/\Q (.bl (!decide (x=.non))) H):=by
 rintro e s g H x y v u Q I d f⟨rfl,q⟩;cases f;refine isnot_none_gen (BH I q ?_)
 cases x <;> first
  | (cases d;rfl)
  | (obtain⟨t,rfl⟩:=d;rfl)
def AJ (b:Expr) (h:op≠.In:=by decide)(d:op≠.NotIn:=by decide):behindInMarks op b=false:=by
 have e1:(op == CmpOp.In)=false:=by cases op <;> first | rfl | exact absurd U h
 have e2:(op == CmpOp.NotIn)=false:=by cases op <;> first | rfl | exact absurd U d
 cases b <;> simp[behindInMarks,e1,e2]
def Cn (n:Bu X (compareOp op) r)(i:PE X a ta)(g:PE X b tb)(e:behindInMarks op b=false):PE X (.Compare a [op] [b] pos) (MK r ta tb):=by intro d s o H Q I h;exact wpAny_Compare1 (Sv i g I h λv u s2 x y j f m l q=>n d s2 o j x y v u Q f m l q) e
inductive VZ (Q:Bool->Hp->Prop)(x:V)(H':Hp):Prop
 | mk (k:_) (c0:x=.bl k) (c1:Q k H'):VZ Q x H'
def Ue (t:TE):TT:=λσ H Q=>t σ H λx H'=>VZ Q x H'
def AN (E:Bu X (compareOp op) r)(o:PE X a ta)(n:PE X b tb)(l:behindInMarks op b=false):PT X (.Compare a [op] [b] pos) (Ue (MK r ta tb)):=by intro d s f H Q I h;refine wpAny_isTrue_Compare1 (thn (o d s f H _ I h) λv s1 ⟨x,j,D,B,q⟩=>thn (n d s1 f j _ D q) λu s2 ⟨y,p,m,g,w⟩=>thn (E d s2 f p x y v u _ m B g w) λc s3 ⟨z,A,C,r3,k,e,i⟩=>?_) l;subst e;cases r3;exact EK ⟨A,C,i⟩
def Uj (r r':R2)(ta tb tc:TE):TE:=λσ H Q=>ta σ H λx H1=>tb σ H1 λy H2=>r x y H2 λz H3=>∃k,z=.bl k /\
 (if k=true then tc σ H3 λw' H4=>r' y w' H4 Q else Q (.bl false) H3)
def cC (K:Bu X (compareOp op) r)(j:Bu X (compareOp op') r')(R:PE X a ta)(D:PE X b tb)(q:PE X c tc)
  (A:lastMarks [op,op'] [b,c]=false:=by with_unfolding_all rfl):PE X (.Compare a [op,op'] [b,c] pos) (Uj r r' ta tb tc):=by
 intro f s g H Q I h
 refine Compare_chain (thn (R f s g H _ I h) λv s1 ⟨x,p,T,F,S⟩=>chain_link (thn (D f s1 g p _ T S) λu s2 ⟨y,P,N,m,M⟩=>thn (K f s2 g P x y v u _ N F m M) λd s3 ⟨z,n,l,r3,k,e,o⟩=>?_)) A
 subst e
 cases r3
 apply EK
 cases k with
 | false=>exact ite_ff ⟨.bl false,n,l,U,o⟩
 | true=>exact ite_tt (chain_last (thn (q f s3 g n _ l o) λL w i=>by obtain⟨B,G,C,E,W⟩:=i;exact j f w g G y B u L Q C m E W))
def Rm (M:Bu X (compareOp op) r)(j:Bu X (compareOp op') r')(W:PE X a ta)(E:PE X b tb)(w:PE X c tc)
  (B:lastMarks [op,op'] [b,c]=false:=by with_unfolding_all rfl):PT X (.Compare a [op,op'] [b,c] pos) (Ue (Uj r r' ta tb tc)):=by
 intro f s g H Q I h
 refine isTrue_chain (thn (W f s g H _ I h) λv s1 ⟨x,p,I1,G,q1⟩=>test_link (thn (E f s1 g p _ I1 q1) λu s2 ⟨y,T,S,m,R⟩=>thn (M f s2 g T x y v u _ S G m R) λd s3 ⟨z,n,l,r3,k,e,o⟩=>?_)) B
 subst e
 cases r3
 apply EK
 cases k with
 | false=>obtain⟨k',e',q⟩:=o;cases e';exact ite_ff ⟨n,l,q⟩
 | true=>refine ite_tt (test_last (thn (w f s3 g n _ l o) λP A i=>?_));obtain⟨C,L,D,F,q4⟩:=i;refine thn (j f A g L y C u P _ D m F q4) ?_;rintro d' s5⟨z2,N,I5,r5,k2,e2,K⟩;subst e2;cases r5;exact EK ⟨N,I5,K⟩
def Oc:(sizeLine:Nat)<2^63:=by rw[AB];decide
inductive UY (x y:V)(H:Hp)(Q:VK):Prop
 | mk (i:_) (j:_) (c0:x=.str i) (c1:y=.str j) (c2:i.length+j.length<=sizeLine) (c3:Q (.str (i++j)) H):UY x y H Q
def Bs:Bu X (binaryOp .Add) UY:=by rintro d s g H x y v u Q I f e⟨i,j,rfl,rfl,hz,q⟩;obtain⟨t,rfl⟩:=f;obtain⟨t',rfl⟩:=e;exact add_str (λt' tk=>⟨.str (i++j),H,I.tok _,⟨_,U⟩,q⟩) hz
def Cm (r:Vals [x] us):∃u,us=[u]/\RelV x u:=by
 cases r with
 | cons r1 r2=>cases r2;exact⟨_,U,r1⟩
def HW (r:Vals [x,y] us):∃u w',us=[u,w']/\RelV x u/\RelV y w':=by
 cases r with
 | cons r1 r2=>
  cases r2 with
  | cons r3 r4=>cases r4;exact⟨_,_,U,r1,r3⟩
def vW (K:W.Frag)(x:V)(H:Hp)(n:Nat):Prop:=
 match x with
 | .str y=>y.length<=sizeLine/\n=y.length
 | .byt y=>y.size<=sizeLine/\n=y.size
 | .ref p=>(∃xs,Y K H p xs/\n=xs.length)\/∃xs,SqT K H p xs/\n=xs.length
 | _=>False
inductive UU (K:W.Frag)(xs:List V)(H:Hp)(Q:VK):Prop
 | mk (x:_) (n:_) (c0:xs=[x]) (c1:vW K x H n) (c2:Q (.int n) H):UU K xs H Q
def Cv:Ce X (.builtin "len") (UU X.K):=by
 rintro dg s σ H xs us Q I r⟨x,n,rfl,e,q⟩;obtain⟨u,rfl,rx⟩:=Cm r;have hl:=Oc;have hs:=AB;cases x with
 | str y=>obtain⟨t,rfl⟩:=rx;obtain⟨hy,e'⟩:y.length<=sizeLine/\n=y.length:=e;subst e';exact len_str Ψ ⟨.int _,H,I.tok _,⟨_,U⟩,q⟩
 | byt y=>obtain⟨t,rfl⟩:=rx;obtain⟨hy,e'⟩:y.size<=sizeLine/\n=y.size:=e;subst e';exact PySem.W.len_bytes Ψ ⟨.int _,H,I.tok _,⟨_,U⟩,q⟩
 | ref p=>
  cases rx;have e':=e;rcases e' with⟨xs,hx,e'⟩ | ⟨xs,hx,e'⟩
  ·subst e';obtain⟨its,r',pl,hz⟩:=I.list hx;have hlen:=r'.length;exact Calls.call_len_list pl.isList (by simp[Bx];lia) ⟨.int xs.length,H,I.tok _,⟨_,by simp only[Bx];rw[hlen]⟩,q⟩
  subst e';obtain⟨its,r',pl,hz⟩:=I.tuple hx;have hlen:=r'.length;exact len_tuple pl (by simp[Bx];lia) ⟨.int xs.length,H,I.tok _,⟨_,by simp only[Bx];rw[hlen]⟩,q⟩
 | _=>exact(show False from e).elim
end
structure ObjM (h:Heap)(x dx C:Addr)(mA:Str->Option Value):Prop where
 obj:h.get? x=some (PySem.W.instObj C dx)
 ns:h.Ns1 dx mA
 ne:dx≠x
def nJ {h:Heap}{g:Addr}{d:Str->Option Value}(n:h.Ns1 g d):∃c,h.get? g=some c/\∀name,PySem.W.lookIn name c=some (d name):=by
 obtain⟨o,f,ep,r,p,m,_,l⟩:=n;refine⟨o,r,λname=>?_⟩;have e:=l name;unfold nsFind findBy at e;rw[<- Array.find?_toList]at e;unfold PySem.W.lookIn;rw[p];dsimp only;split
 ·rename_i y q;rw[q]at e;exact A5 some e
 rename_i q;rw[q]at e;have a:f.toList.any (·.refKey)=false:=by rw[any_eq_false];intro y i;obtain⟨z,t,b⟩:=m y (Array.mem_toList_iff.mp i);simp[DictEntry.refKey,b]
 have j:¬f.toList.any (·.refKey)=true:=by rw[a];exact BI
 rw[Ag j];exact A5 some e
def ObjM.look (I:ObjM h x dx C mA):∃a,PySem.W.InstAt h x (PySem.W.instObj C dx) C (some a)/\∀name,PySem.W.lookIn name a=some (mA name):=
 let ⟨a,ho,hl⟩:=nJ I.ns
 ⟨a,⟨I.obj,U,U,ho⟩,hl⟩
section
variable {prog:Program}{w:World}{A:Around}{E:Value->Shared->Prop}{s:Shared}{K:W.Frag}{x dx C f:Addr}{mA:Str->Option Value}{name:Str}{v:Value}
def qR (X:K.In s.heap)(I:ObjM s.heap x dx C mA)(i:PySem.W.plainGet K C name=true)(d:PySem.W.hasDictIn K C=true)
  (c:PySem.W.findIn K (.ref C) name=some none)(g:mA name=some v)(b:PySem.W.handedIn v=true)(h:Q v { s with toks:=s.toks+1 }) :
  wpAny (model prog w) A (getAttr (.ref x) name expr) Q E s:=by
 obtain⟨j,a,e⟩:=I.look
 exact PySem.W.get_value X a (S3 i).1 (PySem.W.findObj_own d c U (by rw[e,g])) b h
def qQ (X:K.In s.heap)(I:ObjM s.heap x dx C mA)(b:PySem.W.plainGet K C name=true)
  (i:PySem.W.findIn K (.ref C) name=some (some (.ref f)))(c:PySem.W.isFn K (.ref f)=true)(g:mA name=none)(h:Q (.ref f,[.ref x]) s) :
  wpAny (model prog w) A (getMethod (.ref x) name pl) Q E s:=by
 obtain⟨d,a,e⟩:=I.look
 exact PySem.W.method_fn X a (S3 b).1 (S3 b).2 i (E7.mp c) (by show(PySem.W.lookIn name d).map (·.isSome)=some false;rw[e,g];rfl) h
def Za (X:K.In s.heap)(I:ObjM s.heap x dx C mA)
  (r:PySem.W.findIn K (.ref C) "__setattr__" = some (some (.builtin "object.__setattr__")))(u:PySem.W.plainOver K C=true)(p:PySem.W.takerIn K C name=some none)(l:PySem.W.hasDictIn K C=true)
  (n:PySem.Within mA ns)(hsz:ns.length<=sizeLine)
  (h:∀h',ObjM h' x dx C (λy=>if y=name then some v else mA y)->Heap.SameBut dx s.heap h'->Q () { s with heap:=h',toks:=s.toks+2 }) :
  wpAny (model prog w) A (setAttr (.ref x) name v) Q E s:=by
 obtain⟨z,a,D⟩:=I.look
 refine PySem.W.set_plain X a r (PySem.W.osa_open X a u p λb=>?_)
 obtain⟨F,o,j⟩:=PySem.W.any_some l
 refine Ab (Ae (Ab (Ab (wpAny_loadPart I.obj (Ab (PySem.W.Looks.here (PySem.W.looks_clsIn X o) ?_))))))
 rw[j]
 refine Ae (Ab (Ae (Ab ?_)))
 refine wpAny_nsSet1 I.ns λh' d c=>?_
 obtain⟨B,m,q,i,g,e⟩:=d.count (PySem.Within.cons name v n)
 refine Ab (wpAny_lookBehind i (g▸pastItsLine_dict (Ed e (by rw[BU];lia))) ?_)
 exact Ae (h _ ⟨(c.2 _ (Ec I.ne)).trans I.obj,d,I.ne⟩ c)
def mY (X:K.In s.heap)(c:PySem.W.makesIn K C=true)
  (b:PySem.W.findIn K (.ref C) "__init__" = some (some (.ref f)))(e:PySem.W.typeIn K (.ref f)=some (.type "function"))
  (h:codeAny (model prog w) (A.under (.builtin "type.__call__" ⟨.ref C::vs,kw⟩)) (.call (.ref f) ⟨.ref (s.heap.objs.size+1)::vs,kw⟩) (PySem.W.InitBack (s.heap.objs.size+1) R) { s with heap:=(s.heap.push PySem.W.emptyDict).push (PySem.W.instObj C s.heap.objs.size) }) :
  codeAny (model prog w) A (.call (.ref C) ⟨vs,kw⟩) R s:=by
 obtain⟨i,g,d,t,j⟩:=s
 exact PySem.W.make_core (PySem.W.makes_of X c) (PySem.W.looks_findIn X b) (λa=>PySem.W.bind_fn X a e) (.inl U) h
end
def putF (f:Str)(v:V):List (Str×V)->List (Str×V)
 | []=>[(f,v)]
 | (g,x)::r=>if g=f then(g,v)::r else(g,x)::putF f v r
theorem A3 (f g:Str)(v:V):∀fs:List (Str×V),(putF f v fs).lookup g=if g=f then some v else fs.lookup g
 | []=>by
  show List.lookup g [(f,v)]=_;by_cases h:g=f
  ·have a:(g == f)=true:=E7.mpr h;simp only[List.lookup,a,As h]
  have a:(g == f)=false:=FD.mpr h;simp[List.lookup,a,Ag h]
 | (k,x)::r=>by
  rw[show putF f v ((k,x)::r)=(if k=f then(k,v)::r else(k,x)::putF f v r) from rfl];by_cases b:k=f
  ·rw[As b];by_cases h:g=k
   ·have a:=E7.mpr h;simp[List.lookup,a,As (h.trans b)]
   have a:=FD.mpr h;simp[List.lookup,a,Ag (λe:g=f=>h (e.trans b.symm))]
  rw[Ag b];by_cases h:g=k
  ·have a:=E7.mpr h;simp[List.lookup,a,Ag (λe:g=f=>b (h.symm.trans e))]
  simp[List.lookup,(FD.mpr h)];exact (A3 f g v r)
theorem RO (f:Str)(v:V):∀fs:List (Str×V),f∈(putF f v fs).map (·.1)/\∀g,g∈fs.map (·.1)->g∈(putF f v fs).map (·.1)
 | []=>⟨by simp[putF],λg h=>by simp at h⟩
 | (k,x)::r=>by
  obtain⟨c,b⟩:=RO f v r;rw[show putF f v ((k,x)::r)=(if k=f then(k,v)::r else(k,x)::putF f v r) from rfl];by_cases a:k=f
  ·rw[As a];subst a;exact⟨Θ,λg h=>by simpa using h⟩
  rw[Ag a];refine⟨?_,λg h=>?_⟩
  ·rw[Bg];exact Bc _ c
  rw[Bg]at h ⊢;rcases(Ar.mp h)with e | e
  ·exact Ar.mpr (.inl e)
  exact Bc _ (b g e)
theorem VL (f:Str)(v:V):∀fs:List (Str×V),(putF f v fs).length<=fs.length+1
 | []=>by simp[putF]
 | (k,x)::r=>by
  have b:=VL f v r;rw[show putF f v ((k,x)::r)=(if k=f then(k,v)::r else(k,x)::putF f v r) from rfl];by_cases a:k=f
  ·rw[As a,BU,BU];lia
  rw[Ag a,BU,BU];lia
def RelO.some_of (r:RelO (some v) o):∃u,o=some u/\RelV v u:=by
 cases o with
 | none=>exact(show False from r).elim
 | some u=>exact⟨u,U,r⟩
def RelO.none_of (r:RelO none o):o=none:=by
 cases o with
 | none=>rfl
 | some u=>exact(show False from r).elim
def qL (r:RelV v u):PySem.W.handedIn u=true:=by
 cases v with
 | non=>cases r;rfl
 | bl b=>cases r;rfl
 | int i=>obtain⟨t,e⟩:=r;cases e;rfl
 | str x=>obtain⟨t,e⟩:=r;cases e;rfl
 | byt b=>obtain⟨t,e⟩:=r;cases e;rfl
 | flt b=>obtain⟨t,e⟩:=r;cases e;rfl
 | ref a=>cases r;rfl
 | ty n=>cases r;rfl
section
variable {P:Program}{w:World}{H H':Hp}{h h':Heap}{a C dx:Addr}{fs fs':List (Str×V)}
def LS (c:HOk P w H h)(e:H a=some (.ins C dx fs)):∃b,ObjM h a dx C b/\(∀f,RelO (fs.lookup f) (b f))/\PySem.Within b (fs.map (·.1))/\fs.length<=1000/\H dx=some (.own a):=by obtain⟨d,z,ne,g,b,n,r,q⟩:=(c a _ e);exact⟨b,⟨g,n,ne⟩,r,q,z,d⟩
end
structure Cls (K:W.Frag)(C:Addr):Prop where
 pg:PySem.W.plainGet K C Str.empty=true
 hd:PySem.W.hasDictIn K C=true
 po:PySem.W.plainOver K C=true
 sa:PySem.W.findIn K (.ref C) "__setattr__" = some (some (.builtin "object.__setattr__"))
def Cls.get {K:W.Frag}{C:Addr}(c:Cls K C)(f:Str):PySem.W.plainGet K C f=true:=c.pg
def NoAttr (K:W.Frag)(C:Addr)(f:Str):Prop:=PySem.W.findIn K (.ref C) f=some none
def NoAttr.taker {K:W.Frag}{C:Addr}{f:Str}(n:NoAttr K C f):PySem.W.takerIn K C f=some none:=by unfold PySem.W.takerIn;rw[show PySem.W.findIn K (.ref C) f=some none from n];rfl
structure B5 (K:W.Frag)(C:Addr)(m:Str)(f:Addr):Prop where
 at_:PySem.W.findIn K (.ref C) m=some (some (.ref f))
 fn:PySem.W.isFn K (.ref f)=true
 kp:PySem.W.keepIn K (.ref f)=true
section
variable {X:Cx}{dg:List (Addr×Obj)}{σ:St}{H:Hp}{s:Shared}{a C dx:Addr}{fs:List (Str×V)}{f:Str}{v:V}{A:Around}{E:Value->Shared->Prop}
def qP (I:Inv X dg σ H s)(e:H a=some (.ins C dx fs))(c:Cls X.K C)(n:NoAttr X.K C f)(l:fs.lookup f=some v)
  (h:∀u s',Inv X dg σ H s'->RelV v u->Q u s'):wpAny (model X.prog X.w) A (getAttr (.ref a) f b) Q E s:=by
 obtain⟨j,d,r,_,_,_⟩:=LS I.hok e
 obtain⟨u,i,g⟩:=RelO.some_of (by rw[<- l];exact r f)
 exact qR I.kIn d (c.get f) c.hd n i (qL g) (h u _ (I.tok _) g)
def Wa (I:Inv X dg σ H s)(e:H a=some (.ins C dx fs))(c:Cls X.K C)(k:B5 X.K C m g)(l:fs.lookup m=none)
  (h:Q (.ref g,[.ref a]) s):wpAny (model X.prog X.w) A (getMethod (.ref a) m pl) Q E s:=by
 obtain⟨d,b,r,_,_,_⟩:=LS I.hok e
 exact qQ I.kIn b (c.get m) k.at_ k.fn (RelO.none_of (by rw[<- l];exact r m)) h
def Y9 (I:Inv X dg σ H s)(e:H a=some (.ins C dx fs))(c:Cls X.K C)(n:NoAttr X.K C f)(F:fs.length<1000)(B:RelV y u)
  (h:∀s',Inv X dg σ (upd H a (.ins C dx (putF f y fs))) s'->Q () s'):wpAny (model X.prog X.w) A (setAttr (.ref a) f u) Q E s:=by
 obtain⟨p,d,r,j,_,l⟩:=LS I.hok e
 have hz:(fs.map (·.1)).length<=sizeLine:=by rw[Ah,AB];lia
 refine Za I.kIn d c.sa c.po n.taker c.hd j hz λh' i m=>h _ ?_
 have D:∃o,h'.get? dx=some o:=let ⟨o,_,_,e',_⟩:=i.ns;⟨o,e'⟩
 refine I.write (e▸Ju) (.inr l) (λb q x z=>(m.2 b x).trans z) D ?_
 refine⟨(Ao d.ne)▸l,?_,d.ne,i.obj,_,i.ns,λg=>?_,λg w=>?_⟩
 ·have:=VL f y fs;lia
 ·rw[A3];by_cases q:g=f
  ·rw[As q,As q];exact B
  rw[Ag q,Ag q];exact r g
 by_cases q:g=f
 ·rw[q];exact(RO f y fs).1
 refine(RO f y fs).2 g (j g λz=>w ?_)
 show(if g=f then some u else p g)=none
 rw[Ag q];exact z
def Inv.made (I:Inv X dg σ H s):Inv X dg σ (upd (upd H s.heap.objs.size (.own (s.heap.objs.size+1))) (s.heap.objs.size+1) (.ins C s.heap.objs.size []))
  { s with heap:=(s.heap.push PySem.W.emptyDict).push (PySem.W.instObj C s.heap.objs.size) }:=by
 have e1:(s.heap.push PySem.W.emptyDict).get? s.heap.objs.size=some PySem.W.emptyDict:=A4 s.heap U
 have e2:((s.heap.push PySem.W.emptyDict).push (PySem.W.instObj C s.heap.objs.size)).get? (s.heap.objs.size+1)=some (PySem.W.instObj C s.heap.objs.size):=by have:=A4 (s.heap.push PySem.W.emptyDict) (o:=PySem.W.instObj C s.heap.objs.size) U;rwa [C1]at this
 refine (I.laid (a:=s.heap.objs.size) (o:=.own (s.heap.objs.size+1)) (h':=s.heap.push PySem.W.emptyDict) (t':=s.toks) (λb u q=>Ax _ q) (An _) ⟨_,e1⟩).laid (λb u q=>Ax _ q) (le_of_eq (C1 _ _)) ?_
 have ne:s.heap.objs.size≠s.heap.objs.size+1:=Bd (FK _)
 refine⟨by rw[Ao ne,Af],Bt _,ne,e2,λ_=>none,(Heap.Ns1.of_empty ⟨PySem.W.emptyDict,#[],_,e1,U,(λe c=>absurd c Θ),λ_=>U⟩).at λo q=>Ax _ q,λ_=>Ju,λy d=>absurd U d⟩
def uZ (c:attributeBase e f env (eval e env)=eval e env)
  (h:wpAny (model prog w) A (eval e env) (λo b=>wpAny (model prog w) A (getAttr o f true) Q E b) E s):wpAny (model prog w) A (eval (.Attribute e f pos) env) Q E s:=
 Attribute_any_ h (by rw[arm_eval_Attribute,c])
end
inductive V6 (K:W.Frag)(f:Str)(Q:VK)(x:V)(H1:Hp):Prop
 | mk (a:_) (C:_) (dx:_) (fs:_) (v:_) (c0:x=.ref a) (c1:H1 a=some (.ins C dx fs)) (c2:Cls K C) (c3:NoAttr K C f) (c4:fs.lookup f=some v) (c5:Q v H1):V6 K f Q x H1
def YD (K:W.Frag)(ta:TE)(f:Str):TE:=λσ H Q=>ta σ H λx H1=>V6 K f Q x H1
def Z2 (K:W.Frag)(ta tv:TE)(f:Str):TS:=λD σ H=>tv σ H λy H1=>ta σ H1 λx H2=>∃a C dx fs,x=.ref a/\H2 a=some (.ins C dx fs)/\Cls K C/\NoAttr K C f/\fs.length<1000 /\
 D.nx σ (upd H2 a (.ins C dx (putF f y fs)))
section
variable {X:Cx}{o e value:Expr}{f:Str}{pos pos' tpos:Pos}{ta tv:TE}
def CA (g:PE X e ta)(m:attributeBase e f X.env (eval e X.env)=eval e X.env):PE X (.Attribute e f pos) (YD X.K ta f):=by intro b s w H Q I h;refine uZ m (thn (g b s w H _ I h) λu A d=>?_);obtain⟨x,i,p,r,a,C,B,fs,v,ex,y,c,n,l,q⟩:=d;subst ex;obtain rfl:u=Value.ref a:=r;exact qP p y c n l λD s2 j z=>⟨v,i,j,z,q⟩
def DF (r:PE X o ta)(A:PE X value tv)(G:swapsWith value (some (.Attribute o f pos')) pos.line X.env=pure false):PS X (.Assign [.Attribute o f pos'] value pos) (Z2 X.K ta tv f):=by intro b s d H D I h;refine plainObj_wpAny_Assign_Attribute (thn (A b s d H _ I h) λu m g=>?_) G;obtain⟨y,i,w,v,q⟩:=g;refine thn (r b m d i _ w q) ?_;rintro E s2⟨x,K,p,B,a,C,L,fs,ex,F,c,n,l,j⟩;subst ex;obtain rfl:E=Value.ref a:=B;exact Y9 p F c n l v λs3 z=>⟨d,_,z,j⟩
end
structure Room (k:Nat)(A:Around):Prop where
 hd:A.handled=none
 dp:A.depth+3*k+5<recursionLimit
 un:A.units+16*k+200<cLine
def Room.mono {k:Nat} (r:Room k A)(h:j<=k):Room j A:=⟨r.hd,by have:=r.dp;lia,by have:=r.un;lia⟩
def Room.deeper {k:Nat} (r:Room (k+1) A)(env:Env):Room k (A.deeper env):=
 ⟨r.hd,by have:=r.dp;show A.depth+1+3*k+5<_;lia,by have:=r.un;show A.units+3+16*k+200<_;lia⟩
def mZ {A:Around}{C:Addr}{us:List Value}{a:List (Str×Value)}:(A.under (.builtin "type.__call__" ⟨.ref C::us,a⟩)).depth=A.depth+1:=by first | rfl | simp[Around.under,Code.weight,Code.isCreation,Code.isGuard,Code.isCaller,Code.frames,Code.isFrame,guardIds]
def mX {A:Around}{C:Addr}{us:List Value}{a:List (Str×Value)}:(A.under (.builtin "type.__call__" ⟨.ref C::us,a⟩)).units=A.units+1:=by first | rfl | simp[Around.under,Code.cUnits,Code.frames,Code.isFrame]
def Room.make {k:Nat} (r:Room (k+1) A)(C:Addr)(us:List Value)(a:List (Str×Value)):Room k (A.under (.builtin "type.__call__" ⟨.ref C::us,a⟩)):=
 ⟨r.hd,by have:=r.dp;rw[mZ];lia,by have:=r.un;rw[mX];lia⟩
def Room.depth {k:Nat} (r:Room k A):A.depth<recursionLimit:=by have:=r.dp;lia
def Room.units {k:Nat} (r:Room k A):A.units+64<cLine:=by have:=r.un;lia
def Ug:TA:=λ_ H Q=>Q [] H
def YK (ta:TE)(tr:TA):TA:=λσ H Q=>ta σ H λx H1=>tr σ H1 λxs H2=>Q (x::xs) H2
section
variable {X:Cx}{e:Expr}{es:List Expr}{te:TE}{t:TA}{pos:Pos}
def Ac:PA X [] Ug:=λ_ _ _ _ H Q I h=>JB ⟨[],H,I,.nil,h⟩
def Aa (m:PE X e te)(f:PA X es t)(r:starEach (e::es) X.env=(false,eval e X.env)::starEach es X.env:=by rfl):PA X (e::es) (YK te t):=by intro pos a s c H Q I h;rw[r];refine HL (thn (m a s c H _ I h) λu i b=>?_);obtain⟨x,g,q,p,o⟩:=b;exact thn (f pos a i c g _ q o) λus s2 b=>by obtain⟨xs,l,j,d,n⟩:=b;exact⟨x::xs,l,j,.cons p d,n⟩
def Yg (t:TA):TE:=λσ H Q=>t σ H λxs H1=>xs.length<=sizeLine/\∀p,H1 p=none->Q (.ref p) (upd H1 p (.tup xs))
def Yr (t:TA):TE:=λσ H Q=>t σ H λxs H1=>xs.length<=sizeLine/\∀p,H1 p=none->Q (.ref p) (upd H1 p (.lst xs))
def A6 {x1}(h:PA X es t):PE X (.Tuple es x1 pos) (Yg t):=by intro a s j H Q I i;refine wpAny_Tuple_spliced (thn (h pos a s j H _ I i) λus d c=>?_);obtain⟨xs,g,f,r,z,q⟩:=c;refine⟨by rw[<- r.length];exact z,?_⟩;refine⟨.ref d.heap.objs.size,upd g d.heap.objs.size (.tup xs),f.laid (λb u e=>Ax _ e) (An _) ?_,U,q _ (f.hok.fresh (An _))⟩;exact⟨z,us,r,⟨_,A4 _ U,U,_,U⟩⟩
def Cu (h:PA X es t):PE X (.List es pos) (Yr t):=by intro a s j H Q I i;refine wpAny_List_spliced (thn (h pos a s j H _ I i) λus d c=>?_);obtain⟨xs,g,f,r,z,q⟩:=c;refine⟨by rw[<- r.length];exact z,?_⟩;refine⟨.ref d.heap.objs.size,upd g d.heap.objs.size (.lst xs),f.laid (λb u e=>Ax _ e) (An _) ?_,U,q _ (f.hok.fresh (An _))⟩;exact⟨z,us,0,r,A4 _ U⟩
end
abbrev Sp:=List V->Hp->VK->XK->Prop
abbrev Ef:=List Env->Hp->Shared->XK->Value->Shared->Prop
structure Env0 (P:Program)(w:World)(K:W.Frag)(mg:Str->Option Value)(base:Heap)(A:Around)(dh:List Env)(s:Shared)(H:Hp):Prop where
 frames:A.frames=some dh
 mod:Mod K mg base
 bs:∀b o,base.get? b=some o->s.heap.get? b=some o/\H b=none
 bsz:base.objs.size<=s.heap.objs.size
 funs:s.heap.FunFrames base dh
 frf:∀b∈BL dh,H b=none
 hok:HOk P w H s.heap
 bare:AllBare s.gens
def CE (dh:List Env)(P:Program)(w:World)(H:Hp)(s:Shared)(Q:VK)(u:Value)(s':Shared):Prop:=
 ∃v H',s'.os=s.os/\AllBare s'.gens/\Un (BL dh) [] H H' s.heap s'.heap/\HOk P w H' s'.heap/\RelV v u/\Q v H'
def CR (CX:Ef)(dh:List Env)(P:Program)(w:World)(H:Hp)(s:Shared)(Q:VK)(E:XK)(r:Result)(s':Shared):Prop:=
 match r with
 | .ok (.ret u)=>CE dh P w H s Q u s'
 | .ok _=>False
 | .error e=>CX dh H s E e s'
structure Aj (P:Program)(w:World)(K:W.Frag)(mg:Str->Option Value)(base:Heap)(CX:Ef)(k:Nat)(f:Addr)(fd:FuncData)(ps:List Str)(sp:Sp):Prop where
 len:∀vs H Q E,sp vs H Q E->vs.length=ps.length
 run:∀(A:Around) (dh:List Env) (s:Shared) (H:Hp) (args:Args) (us:List Value) (vs:List V) (Q:VK) (E:XK),Room k A->Env0 P w K mg base A dh s H->BindsTo s fd args (ps.zip us)->Vals vs us->sp vs H Q E ->
  codeAny (model P w) A (.call (.ref f) args) (CR CX dh P w H s Q E) s
def Env0.make {P:Program}{w:World}{K:W.Frag}{mg:Str->Option Value}{base:Heap}{A:Around}{a:List Env}{s:Shared}{H:Hp}(e:Env0 P w K mg base A a s H)(C:Addr)(us:List Value)(b:List (Str×Value)) :
  Env0 P w K mg base (A.under (.builtin "type.__call__" ⟨.ref C::us,b⟩)) a s H:=⟨by first | exact e.frames | (simpa [Around.under,Code.envs,Code.isFrame,pushEnvs] using e.frames),e.mod,e.bs,e.bsz,e.funs,e.frf,e.hok,e.bare⟩
section
variable {X:Cx}{dg:List (Addr×Obj)}{σ:St}{H:Hp}{s s':Shared}
def Inv.env0 (I:Inv X dg σ H s):Env0 X.prog X.w X.K X.mg X.base X.A X.stack s H:=
 ⟨I.ok.frames,I.ok.mod,I.bs,Ed I.ok.bsz I.sz,I.stack,I.stkFree,I.hok,I.bare⟩
def Inv.after (I:Inv X dg σ H s)(h:CE X.stack X.prog X.w H s Q u s'):EP X dg σ Q u s':=by obtain⟨v,H',os,a,un,e,r,q⟩:=h;obtain⟨f,g,d,t,c⟩:=s';obtain rfl:c=s.os:=os;exact⟨v,H',I.call un e a (λb z=>absurd z Θ),r,q⟩
end
def Uk (sp:Sp)(dvs:List V)(E:XK)(t:TA):TE:=λσ H Q=>t σ H λvs H1=>sp (vs++dvs) H1 Q E
inductive VX (C:Addr)(m:Str)(x:V)(H1:Hp)(R:Prop):Prop
 | mk (a:_) (dx:_) (fs:_) (c0:x=.ref a) (c1:H1 a=some (.ins C dx fs)) (c2:fs.lookup m=none) (c3:R):VX C m x H1 R
def Ui (C:Addr)(m:Str)(sp:Sp)(dvs:List V)(E:XK)(ta:TE)(t:TA):TE:=λσ H Q=>ta σ H λx H1=>VX C m x H1 (t σ H1 λvs H2=>sp (x::(vs++dvs)) H2 Q E)
def Yq (C:Addr)(sp:Sp)(dvs:List V)(E:XK)(t:TA):TE:=λσ H Q=>t σ H λvs H1=>∀x dx,H1 x=none->H1 dx=none->dx≠x ->
 sp (.ref x::(vs++dvs)) (upd (upd H1 dx (.own x)) x (.ins C dx [])) (λv H2=>v=.non/\Q (.ref x) H2) E
def Binds (K:W.Frag)(fd:FuncData)(ps:List Str)(ds:List Value):Prop:=
 ∀(s:Shared) (us:List Value),K.In s.heap->(us++ds).length=ps.length->BindsTo s fd ⟨us,[]⟩ (ps.zip (us++ds))
def Binds.all {K:W.Frag}{b:FuncData}{ps:List Str}(h:∀us:List Value,us.length=ps.length->bindArgs b ⟨us,[]⟩=pure (ps.zip us)):Binds K b ps []:=λs us _ a=>by rw[BC]at a ⊢;exact .of_eq (h us a)
def Em (CX:Ef)(X:Cx)(E:XK):Prop:=∀(dg:List (Addr×Obj)) (σ:St) (H:Hp) (s:Shared) (e:Value) (s':Shared),Inv X dg σ H s->CX X.stack H s E e s'->X.xe e s'
section
variable {X:Cx}{CX:Ef}{k:Nat}{f C:Addr}{fd:FuncData}{ps:List Str}{sp:Sp}{dvs:List V}{ds:List Value}{E:XK}{x m:Str}{p pos apos:Pos}{e o:Expr}{es:List Expr}{ta:TE}{t:TA}
def Rb (F:Aj X.prog X.w X.K X.mg X.base CX k f fd ps sp)(d:Room k X.A)(c:Binds X.K fd ps ds)(i:Vals dvs ds)(j:Em CX X E)
  (I:Inv X dg σ H s)(r:Vals vs us)(h:sp (vs++dvs) H Q E):wpAny (model X.prog X.w) X.A (call (.ref f) us) (EP X dg σ Q) X.xe s:=by
 have b:=r.append i
 have g:(us++ds).length=ps.length:=by rw[<- b.length];exact F.len _ _ _ _ h
 refine Jt (FJ (F.run X.A X.stack s H ⟨us,[]⟩ (us++ds) (vs++dvs) Q E d I.env0 (c s us I.kIn g) b h) λr s' a=>?_)
 cases r with
 | error e=>exact j dg σ H s e s' I a
 | ok fl=>
  cases fl with
  | ret u=>exact I.after a
  | next=>exact False.elim a
  | brk=>exact False.elim a
  | cont=>exact False.elim a
def Cj (F:Aj X.prog X.w X.K X.mg X.base CX k f fd ps sp)(j:Room k X.A)(u:Gl X x)(n:X.mg x=some (.ref f))(v:PySem.W.keepIn X.K (.ref f)=true)(w:Binds X.K fd ps ds)(z:Vals dvs ds)(l:Em CX X E)
  (y:PA X (e::es) t)(d:(x == ("__debug__" : Str))=false:=by decide)(i:starEach (e::es) X.env=(false,eval e X.env)::starEach es X.env:=by rfl)(b:(backTo pos (starEach es X.env)).any (·.1)=false:=by rfl) :
  PE X (.Call (.Name x p) (e::es) [] pos) (Uk sp dvs E t):=by
 intro a s A H Q I h
 refine HK (LM I u n ?_ d)
 refine SX I.ok.mod.kin v (thn (y pos a s A H _ I h) λus D c=>?_) i b
 obtain⟨vs,B,g,r,q⟩:=c
 refine⟨g.kIn,?_⟩
 exact Rb F j w z l g r q
def Kz (y:PE X o ta)(c:Cls X.K C)(j:B5 X.K C m f)(F:Aj X.prog X.w X.K X.mg X.base CX k f fd ps sp)(K:Room k X.A)(B:Binds X.K fd ps ds)(R:Vals dvs ds)(L:Em CX X E)(P:PA X (e::es) t)
  (g:starEach (e::es) X.env=(false,eval e X.env)::starEach es X.env:=by rfl)(i:(backTo pos (starEach es X.env)).any (·.1)=false:=by rfl)
  (A:eval (.Call (.Attribute o m apos) (e::es) [] pos) X.env=(do
   let ov <- eval o X.env;standAt apos.atName;let (f,first) <- holding [ov] (getMethod ov m pl);callWith pos f first (backTo pos (starEach (e::es) X.env)) (backToKw pos (keywordEach [] X.env))):=by rfl) :
  PE X (.Call (.Attribute o m apos) (e::es) [] pos) (Ui C m sp dvs E ta t):=by
 intro b s v H Q I h
 refine PySem.W.methodCall_KW (thn (y b s v H _ I h) λu M d=>?_) A
 obtain⟨x,z,w,D,a,S,fs,ex,G,l,q⟩:=d
 subst ex
 obtain rfl:u=Value.ref a:=D
 apply Wa w G c j l
 refine SX I.ok.mod.kin j.kp (thn (P pos b M v z _ w q) λus s2 d=>?_) g i
 obtain⟨vs,T,n,r,N⟩:=d
 refine⟨n.kIn,?_⟩
 exact Rb (vs:=.ref a::vs) F K B R L n (.cons U r) N
def Cr (j:PE X o ta)(c:Cls X.K C)(i:B5 X.K C m f)(F:Aj X.prog X.w X.K X.mg X.base CX k f fd ps sp)(n:Room k X.A)(w:Binds X.K fd ps ds)(y:Vals dvs ds)(r:Em CX X E)
  (v:eval (.Call (.Attribute o m apos) [] [] pos) X.env=(do
   let ov <- eval o X.env;standAt apos.atName;let (f,first) <- holding [ov] (getMethod ov m pl);callWith pos f first (backTo pos (starEach [] X.env)) (backToKw pos (keywordEach [] X.env))):=by rfl) :
  PE X (.Call (.Attribute o m apos) [] [] pos) (Ui C m sp dvs E ta Ug):=by
 intro b s A H Q I h
 refine PySem.W.methodCall_KW (thn (j b s A H _ I h) λu G g=>?_) v
 obtain⟨x,D,d,z,a,K,fs,ex,B,l,q⟩:=g
 subst ex
 obtain rfl:u=Value.ref a:=z
 apply Wa d B c i l
 exact PySem.W.callWith_K0 d.kIn i.kp (Rb (vs:=[.ref a]) F n w y r d (.cons U .nil) q)
structure Mk (K:W.Frag)(C f:Addr):Prop where
 makes:PySem.W.makesIn K C=true
 init:PySem.W.findIn K (.ref C) "__init__" = some (some (.ref f))
 fn:PySem.W.isFn K (.ref f)=true
 kp:PySem.W.keepIn K (.ref C)=true
def Z6 (M:Mk X.K C f)(F:Aj X.prog X.w X.K X.mg X.base CX k f fd ps sp)(q:Room (k+1) X.A)(i:Binds X.K fd ps ds)(A:Vals dvs ds)
  (y:Em CX X E)(I:Inv X dg σ H s)(r:Vals vs us)
  (h:∀x b,H x=none->H b=none->b≠x->sp (.ref x::(vs++dvs)) (upd (upd H b (.own x)) x (.ins C b [])) (λv z=>v=.non/\Q (.ref x) z) E) :
  wpAny (model X.prog X.w) X.A (call (.ref C) us) (EP X dg σ Q) X.xe s:=by
 have g:=h (s.heap.objs.size+1) s.heap.objs.size (I.hok.fresh (Dm _)) (I.hok.fresh (An _)) (Bd (FK _))
 have c:=Inv.made (C:=C) I
 have d:Vals (V.ref (s.heap.objs.size+1)::(vs++dvs)) (Value.ref (s.heap.objs.size+1)::(us++ds)):=.cons U (r.append A)
 have j:(Value.ref (s.heap.objs.size+1)::us++ds).length=ps.length:=by have e:=d.length;rw[F.len _ _ _ _ g]at e;exact e.symm
 refine Jt (mY I.kIn M.makes M.init (E7.mp M.fn) (FJ (F.run _ X.stack _ _ ⟨Value.ref (s.heap.objs.size+1)::us,[]⟩ (Value.ref (s.heap.objs.size+1)::(us++ds)) _ _ E (q.make C us []) (c.env0.make C us []) (i _ (Value.ref (s.heap.objs.size+1)::us) c.kIn j) d g) λr s' a=>?_))
 cases r with
 | error e=>exact y dg σ _ _ e s' c a
 | ok fl=>
  cases fl with
  | ret u=>obtain⟨v,H',l,w,n,B⟩:=c.after a;subst n;exact⟨w,⟨V.ref (s.heap.objs.size+1),H',l,U,B⟩⟩
  | next=>exact False.elim a
  | brk=>exact False.elim a
  | cont=>exact False.elim a
def NU (M:Mk X.K C f)(F:Aj X.prog X.w X.K X.mg X.base CX k f fd ps sp)(i:Room (k+1) X.A)(u:Gl X x)(n:X.mg x=some (.ref C))(v:Binds X.K fd ps ds)(y:Vals dvs ds)(l:Em CX X E)
  (w:PA X (e::es) t)(d:(x == ("__debug__" : Str))=false:=by decide)(j:starEach (e::es) X.env=(false,eval e X.env)::starEach es X.env:=by rfl)(b:(backTo pos (starEach es X.env)).any (·.1)=false:=by rfl) :
  PE X (.Call (.Name x p) (e::es) [] pos) (Yq C sp dvs E t):=by
 intro a s z H Q I h
 refine HK (LM I u n ?_ d)
 refine SX I.ok.mod.kin M.kp (thn (w pos a s z H _ I h) λus B c=>?_) j b
 obtain⟨vs,A,g,r,q⟩:=c
 refine⟨g.kIn,?_⟩
 exact Z6 M F i v y l g r q
end
structure Aw (N P:List Str)(sc:Scope):Prop where
 kind:sc.kind=.function
 co:sc.isCoroutine=false
 gen:sc.isGenerator=false
 nd:N.Nodup
 pre:N.take P.length=P
 par:∀x∈P,sc.names.lookup x=some .local\/sc.names.lookup x=some .cell
 nofree:∀y∈sc.names,y.2≠.free
theorem W9 {a:Str->Option NameKind}{x:Str}:∀{binds:List (Str×Value)}{m:Str->Option Value},(∀v,(x,v)∉binds)->bindL a binds m x=m x
 | [],_,_=>rfl
 | (n,v)::r,m,h=>by
  unfold bindL;rw[W9 λw b=>h w (Bc _ b)];split
  ·have:x≠n:=by rintro rfl;exact h v Bb
   simp[this]
  rfl
theorem Xb {a:Str->Option NameKind}{x:Str}:∀{binds:List (Str×Value)}{m:Str->Option Value},(∀v,(x,v)∉binds)->bindC a binds m x=m x
 | [],_,_=>rfl
 | (n,v)::r,m,h=>by
  unfold bindC;rw[Xb λw b=>h w (Bc _ b)];split
  ·rfl
  have:x≠n:=by rintro rfl;exact h v Bb
  simp[this]
theorem Xa {a:Str->Option NameKind}{x:Str}{v:Value}:∀{P:List Str}{vs:List Value}{i:Nat}{m:Str->Option Value},P.Nodup->P[i]? = some x->vs[i]? = some v->a x=some .local ->
  bindL a (P.zip vs) m x=some v
 | [],_,_,_,_,h,_,_=>by simp at h
 | _::_,[],_,_,_,_,h,_=>by simp at h
 | p::P,w::vs,0,m,nd,h1,h2,hk=>by simp at h1 h2;subst h1;subst h2;show bindL a ((p,w)::P.zip vs) m p=_;unfold bindL;rw[W9 λv b=>(Du.mp nd).1 (L6 b).1,As hk];simp
 | p::P,w::vs,i+1,m,nd,h1,h2,hk=>by show bindL a ((p,w)::P.zip vs) m x=_;exact Xa (Du.mp nd).2 (by simpa using h1) (by simpa using h2) hk
theorem Xc {a:Str->Option NameKind}{x:Str}{v:Value}:∀{P:List Str}{vs:List Value}{i:Nat}{m:Str->Option Value},P.Nodup->P[i]? = some x->vs[i]? = some v->a x≠some .local ->
  bindC a (P.zip vs) m x=some v
 | [],_,_,_,_,h,_,_=>by simp at h
 | _::_,[],_,_,_,_,h,_=>by simp at h
 | p::P,w::vs,0,m,nd,h1,h2,hk=>by simp at h1 h2;subst h1;subst h2;show bindC a ((p,w)::P.zip vs) m p=_;unfold bindC;rw[Xb λv b=>(Du.mp nd).1 (L6 b).1,Ag hk];simp
 | p::P,w::vs,i+1,m,nd,h1,h2,hk=>by show bindC a ((p,w)::P.zip vs) m x=_;exact Xc (Du.mp nd).2 (by simpa using h1) (by simpa using h2) hk
def start (N:List Str)(vs:List V):St:=vs.map some++replicate (N.length-vs.length) none
def C9 (CX:Ef)(P:Program)(w:World)(K:W.Frag)(mg:Str->Option Value)(base:Heap)(N:List Str)(qual:Str)(scope:Scope)(f:Addr)(cd:Value)(A:Around)(dh:List Env)(s:Shared)(H:Hp)(E:XK):Cx where
 prog:=P
 w:=w
 K:=K
 mg:=mg
 base:=base
 A:=A.deeper (envOfC qual scope s.heap.objs.size f cd)
 N:=N
 s₀:=s
 H₀:=H
 env:=envOfC qual scope s.heap.objs.size f cd
 dh:=dh
 stack:=envOfC qual scope s.heap.objs.size f cd::dh
 ex:=[]
 calm:=true
 fn:=λ_=>true
 pn:=[]
 xe:=λe s'=>wpAny (model P w) (A.deeper (envOfC qual scope s.heap.objs.size f cd)) (leaving (envOfC qual scope s.heap.objs.size f cd) e) (λ_ s''=>CX dh H s E e s'') (λe' s''=>CX dh H s E e' s'') s'
def W1 {sc:Scope}{n:Nat}{x:Str}(h:sc.names.lookup x=some .cell):∃c,(cellsFrom n sc.names []).lookup x=some c:=by exact isSome_iff_exists.mp (PySem.W.cellsFrom_some sc.names n [] (.inl h))
def pP {I:Ef}{P:Program}{w:World}{K:W.Frag}{mg:Str->Option Value}{base:Heap}{N ps:List Str}{j:Str}{d:Scope}{f:Addr}{F:Value}{A:Around}{g:List Env}{s s1:Shared}{H:Hp}{E:XK}{us:List Value}{vs:List V}
  (S:Aw N ps d)(T:A.handled=none)(m:Env0 P w K mg base A g s H)(X:vs.length=ps.length)(r:Vals vs us)
  (x:InCallC s s.heap.objs.size (bindL (envOfC j d s.heap.objs.size f F).kindOf (ps.zip us) λ_=>none) (cellsFrom (s.heap.objs.size+1) d.names []) (bindC (envOfC j d s.heap.objs.size f F).kindOf (ps.zip us) λ_=>none) s1) :
  Inv (C9 I P w K mg base N j d f F A g s H E) [] (start N vs) H s1:=by
 have M:ps.length<=N.length:=by have:=A5 List.length S.pre;rw[Bm]at this;lia
 obtain⟨D,tk,rfl,L⟩:=x.done
 have o:∀b:Addr,b∉(C9 I P w K mg base N j d f F A g s H E).ex:=λb z=>absurd (show b∈([]:List Addr) from z) Θ
 refine⟨⟨m.mod,S.kind,U,U,An _,λy z c D l=>?_,λy n=>?_,λy c _ h=>?_,λ_=>T,Around.frames_deeper m.frames,.inr ⟨U,U⟩,λb z=>absurd z (o b),m.bs,m.bsz,λb _ _=>o b,λb z=>absurd z (o b),m.funs,m.frf⟩,U,m.bare,Un.kept L,⟨_,x.toInCall.ns,λi y v D l h3=>?_⟩,λy c h=>⟨_,x.cell y c h⟩,m.hok.fresh (An _),λy c h=>?_,λp B=>absurd (show p∈([]:List (Addr×Obj)) from B) Θ,m.hok.kept L,?_⟩
 ·exact name_of_addr x.apart (Ms D) (Ms l)
 ·have n:=n;rcases n with n | n
  ·exact W1 n
  exact absurd U (S.nofree _ (Ms n))
 ·exact FH (x.above y c (Ms h))
 ·have C:i<vs.length:=by
   unfold start at l;by_cases C:i<vs.length
   ·exact C
   rw[DK (by simpa using C)]at l;rw[SW]at l;split at l <;> cases l
  have R:vs[i]? = some v:=by
   unfold start at l;rw[CQ (by simpa using C),AU]at l;cases e:vs[i]? with
   | none=>rw[e]at l;cases l
   | some a=>rw[e]at l;cases l;rfl
  obtain⟨u,G,Q⟩:=r.get R;have B:ps[i]? = some y:=by rw[<- S.pre,getElem?_take_of_lt Ψ];exact D
  have ndP:ps.Nodup:=by rw[<- S.pre];exact S.nd.sublist (Hr _ _)
  refine⟨u,Q,?_⟩;rcases S.par y (Cc B)with k | k
  ·exact .inl ⟨k,Xa ndP B G k⟩
  obtain⟨c,e⟩:=W1 k;refine .inr ⟨.inl k,c,e,?_⟩;have q:=x.cell y c e;rw[Xc ndP B G (by show d.names.lookup y≠_;rw[k];decide)]at q;exact q
 ·exact m.hok.fresh (FH (x.above y c (Ms h)))
 unfold start
 show _=N.length
 rw[AM,Ah,Jz]
 lia
def R4 {G:Ef}{P:Program}{w:World}{K:W.Frag}{mg:Str->Option Value}{base:Heap}{k:Nat}{f:Addr}{name g:Str}{i:Arguments}{j:List Stmt}{c:Scope}{dV kV F pm h ct oc:Value}{an od:Option Addr}
  {L:Array (Option Value)}{N ps:List Str}{sp:Sp}(lk:K.lookup f=some ⟨oc,od,.func (PySem.W.fnOf name g i j c dV kV F pm an h ct),L⟩)(T:PySem.W.codeIn K h g=true)(S:Aw N ps c)
  (len:∀vs H Q E,sp vs H Q E->vs.length=ps.length)
  (m:∀(A:Around) (d:List Env) (s:Shared) (H:Hp) (vs:List V) (Q:VK) (E:XK),Room k (A.deeper (envOfC g c s.heap.objs.size f h))->sp vs H Q E -> ∃t,PSs (C9 G P w K mg base N g c f h A d s H E) j t/\t { nx:=λ_ H'=>Q .non H',rt:=Q } (start N vs) H) :
  Aj P w K mg base G (k+1) f (PySem.W.fnOf name g i j c dV kV F pm an h ct) ps sp:=by
 refine⟨len,λA d s H args us vs Q E M B hb r D=>?_⟩
 have X:=B.mod.kin.keeps λb o e=>(B.bs b o e).1
 have p:∀y∈ps.zip us,c.names.lookup y.1=some .local\/(c.names.lookup y.1=some .cell/\((cellsFrom (s.heap.objs.size+1) c.names []).lookup y.1).isSome=true):=λ⟨n,v⟩ hy=>by
  rcases S.par n (L6 hy).1 with q | q
  ·exact .inl q
  exact .inr ⟨q,PySem.W.cellsFrom_some _ _ _ (.inl q)⟩
 refine codeAny_call_function M.depth (X _ _ lk) U S.co S.gen U (PySem.W.codeRec_of X T) (hb _ _ _ _ ?_)
 refine wpAny_newFunctionEnv_cells S.kind p λenv he s1 x=>?_
 subst he
 refine⟨(B.mod.nolimit.keeps λb o e=>(B.bs b o e).1).keeps x.toInCall.keep,codeAny_func ?_⟩
 obtain⟨t,ht,hq⟩:=m A d s H vs Q E (M.deeper _) D
 have I:Inv (C9 G P w K mg base N g c f h A d s H E) [] (start N vs) H s1:=pP S M.hd B (len _ _ _ _ D) r x
 refine CD (ht [] s1 (start N vs) H _ I hq) (λfl s' z=>?_) λe s' z=>z
 have C:∀{l:St}{H':Hp}{v:V}{u:Value},Inv (C9 G P w K mg base N g c f h A d s H E) [] l H' s'->RelV v u->Q v H'->CE d P w H s Q u s':=
  λ{l H' v u} a R q=>⟨v,H',a.os,a.bare,a.base,a.hok,R,q⟩
 cases fl with
 | ret u=>obtain⟨v,l,H',a,R,q⟩:=z;exact C a R q
 | next=>obtain⟨l,H',a,q⟩:=z;exact C (v:=V.non) a U q
 | brk=>obtain⟨_,_,_,q⟩:=z;exact False.elim q
 | cont=>obtain⟨_,_,_,q⟩:=z;exact False.elim q
section
variable {X:Cx}{x:Str}{p pos:Pos}{e:Expr}{es:List Expr}{t:TA}{id T:String}{r:List V->Hp->VK->Prop}
def Ul (r:List V->Hp->VK->Prop)(t:TA):TE:=λσ H Q=>t σ H λvs H1=>r vs H1 Q
def Be (l:Ce X (.builtin id) r)(n:Gl X x)(m:X.mg x=none)(w:bootBuiltins x=some (.builtin id))(q:PA X (e::es) t)(j:x ≠ "__name__" := by decide)(d:(x == ("__debug__" : Str))=false:=by decide)
  (g:starEach (e::es) X.env=(false,eval e X.env)::starEach es X.env:=by rfl)(b:(backTo pos (starEach es X.env)).any (·.1)=false:=by rfl):PE X (.Call (.Name x p) (e::es) [] pos) (Ul r t):=by
 intro a s f H Q I h
 refine HK (EB I n m w ?_ j d)
 exact PyProof.Rows.callWith_builtin1 (thn (q pos a s f H _ I h) λus o c=>by obtain⟨vs,i,y,v,u⟩:=c;exact l a o f i vs us Q y v u) g b
def CG (l:Ce X (.type T) r)(n:Gl X x)(m:X.mg x=none)(w:bootBuiltins x=some (.type T))(q:PA X (e::es) t)(j:x ≠ "__name__" := by decide)(d:(x == ("__debug__" : Str))=false:=by decide)
  (g:starEach (e::es) X.env=(false,eval e X.env)::starEach es X.env:=by rfl)(b:(backTo pos (starEach es X.env)).any (·.1)=false:=by rfl):PE X (.Call (.Name x p) (e::es) [] pos) (Ul r t):=by
 intro a s f H Q I h
 refine HK (EB I n m w ?_ j d)
 exact FE (thn (q pos a s f H _ I h) λus o c=>by obtain⟨vs,i,y,v,u⟩:=c;exact l a o f i vs us Q y v u) g b
end
end L2
namespace HT
open PySem PyProof.Rows
section
open PySem.SeqAt
open PySem.AutoSeq1 (wpAny_loadPart')
open PySem.MeetsSeq PySem.MeetsSeq2 PySem.MeetsSeq3
end
section
variable {prog:Program}{w:World}{A:Around}{E:Value->Shared->Prop}{s:Shared}
def cat_tup {t:Addr}{ws:List Value} (x:IsTup s.heap t vs.toArray)(y:IsTup s.heap b ws.toArray)(q:vs≠[])
  (u:ws=[]->Q (.ref t) s)(v:ws≠[]->Q (.ref s.heap.objs.size) { s with heap:=s.heap.push { cls:=.type "tuple",data:=.seq (vs++ws).toArray } })
  (hsz:vs.length+ws.length<=sizeLine):wpAny (model prog w) A (binaryOp .Add (.ref t) (.ref b)) Q E s:=by
 obtain⟨⟨cls,dd,data,r⟩,i,l,n,p⟩:=id x
 obtain⟨⟨o,g,j,d⟩,a,c,m,f⟩:=id y
 simp only at l p c f
 subst l p c f
 have e:vs.toArray++ws.toArray=(vs++ws).toArray:=by simp
 by_cases h:ws=[]
 ·exact concat_meets ⟨_,i,U⟩ ⟨_,a,U⟩ noFill_tuple_add seq_tuple_add Tf Tj (Tp _ _)
   (tuple_addW1 t b vs.toArray ws.toArray n m dd g r d (by simpa using q) (by simp[h])) ⟨i,a,u h⟩
 refine concat_meets ⟨_,i,U⟩ ⟨_,a,U⟩ noFill_tuple_add seq_tuple_add Tf Tj (Tp _ _)
  (tuple_addW2 t b vs.toArray ws.toArray n m dd g r d (by simpa using q) (by simpa using h) (by rw[Bx,Bx];exact hsz)) ⟨i,a,?_⟩
 rw[e]
 exact v h
def sIx (n d:Nat):Option Int->Nat
 | none=>d
 | some v=>if v<0 then(v+(n:Int)).toNat else min v.toNat n
def sIx_none (n d:Nat):sIx n d none=d:=rfl
def sIx_nat (n d k:Nat):sIx n d (some (k:Int))=min k n:=by show(if (k:Int)<0 then((k:Int)+(n:Int)).toNat else min (k:Int).toNat n)=min k n;rw[Ag Ψ,CO]
def Z1 (n d:Nat)(b:d<=n)(o:Option Int):sIx n d o<=n:=by
 cases o with
 | none=>exact b
 | some v=>
  show(if v<0 then(v+(n:Int)).toNat else min v.toNat n)<=n;by_cases a:v<0
  ·rw[As a];lia
  rw[Ag a];exact Nat.min_le_right _ _
def W0 (v:Int)(n d:Nat):(if v<0 then max (v+(n:Int)) 0 else min v (n:Int))=((sIx n d (some v):Nat):Int):=by
 show(if v<0 then max (v+(n:Int)) 0 else min v (n:Int))=(((if v<0 then(v+(n:Int)).toNat else min v.toNat n):Nat):Int);by_cases a:v<0
 ·simp only[As a];lia
 simp[Ag a];lia
def vK (lo a:Option Int)(n:Nat):Builtin.Slice.sliceAdjust lo a 1 (n:Int)=(((sIx n 0 lo:Nat):Int),((sIx n n a:Nat):Int)):=by
 have b:¬((1:Int)<0):=by lia
 unfold Builtin.Slice.sliceAdjust;simp only[b,De];refine Prod.ext ?_ ?_
 ·cases lo with
  | none=>rfl
  | some v=>exact W0 v n 0
 cases a with
 | none=>rfl
 | some v=>exact W0 v n n
def bJ (i j:Nat):Builtin.Slice.slicePlaces (i:Int) (j:Int) 1=j-i:=by
 unfold Builtin.Slice.slicePlaces;have a:(1:Int) > 0:=by lia
 simp[a,Dx,Int.ediv_one];split <;> lia
def Uv (p:IsPart v o)(h:Q o s):wpAny (model prog w) A (Builtin.Slice.slicePartIndex v) Q E s:=by
 cases p with
 | none=>exact slicePart_none h
 | int i t=>exact slicePart_int h
def Uw {f:Addr}{e d:Value}{lo a:Option Int}{n:Nat}{Q:Int×Int×Nat->Shared->Prop}(l:s.heap.IsSliceOf f e d .none)(j:IsPart e lo)(g:IsPart d a)
  (h:Q (((sIx n 0 lo:Nat):Int),1,sIx n n a-sIx n 0 lo) s):wpAny (model prog w) A (Builtin.Slice.sliceApplied (.ref f) (pure (n:Int))) Q E s:=by
 obtain⟨m,b,i,c⟩:=id l
 refine Ab (Ab (Cw b c U (Ab (Cw b c U (Ab (Cw b c U (Ae ?_)))))))
 refine Ab (slicePart_none ?_)
 rw[Ag Ξ]
 refine Ab (Uv j (Ab (Uv g (Ab (Ae ?_)))))
 show wpAny _ _ (match Builtin.Slice.sliceAdjust lo a 1 (n:Int)with | (lo,a)=>pure (lo,(1:Int),Builtin.Slice.slicePlaces lo a 1)) _ _ s
 rw[vK lo a n]
 show wpAny _ _ (pure (((sIx n 0 lo:Nat):Int),(1:Int),Builtin.Slice.slicePlaces ((sIx n 0 lo:Nat):Int) ((sIx n n a:Nat):Int) 1)) _ _ s
 rw[bJ]
 exact Ae h
def bM (xs:Array Value)(i k:Nat):((List.range k).filterMap λ(m:Nat)=>xs[((i:Int)+(m:Int)*1).toNat]?).toArray=((xs.toList.drop i).take k).toArray:=by
 have e:(λ(m:Nat)=>xs[((i:Int)+(m:Int)*1).toNat]?)=λm=>xs[i+m]?:=by
  funext m;have:((i:Int)+(m:Int)*1).toNat=i+m:=by lia
  rw[this]
 rw[e];have:=pick_run xs i k;rw[List.filterMap_map]at this;have e2:((λx=>xs[x]?) ∘ λx=>i+x)=λm=>xs[i+m]?:=rfl;rw[e2]at this;rw[this]
def getItem_tuple_cut {t:Addr} {lo:Option Int} (b:IsTup s.heap t items)(g:s.heap.IsSliceOf sl vl vu .none)(n:IsPart vl lo)(j:IsPart vu hi)
  (i:¬(sIx items.size 0 lo=0/\sIx items.size items.size hi=items.size))
  (h:Q (.ref s.heap.objs.size) { s with heap:=s.heap.push { cls:=.type "tuple",data:=.seq ((items.toList.drop (sIx items.size 0 lo)).take (sIx items.size items.size hi-sIx items.size 0 lo)).toArray } })
  (hsz:items.size<=sizeLine):wpAny (model prog w) A (getItem (.ref t) (.ref sl)) Q E s:=by
 have a:sizeOk (.seq ((items.toList.drop (sIx items.size 0 lo)).take (sIx items.size items.size hi-sIx items.size 0 lo)).toArray):=by show((items.toList.drop (sIx items.size 0 lo)).take (sIx items.size items.size hi-sIx items.size 0 lo)).toArray.size<=sizeLine;rw[Bx,Bm,Dc,Dw];lia
 have r:sIx items.size items.size hi<=items.size:=Z1 _ _ (An _) hi
 obtain⟨o,e,d,l⟩:=id g
 have f:s.TypeIs (.ref sl) "slice" := ⟨o,e,d⟩
 unfold getItem
 try with_reducible apply B9
 first | refine Ab (Ae ?_) | skip
 refine Ab (wpAny_sequenceKey b.typeIs Ξ ?_)
 refine Ab (Eb b.typeIs Hj (Ct Hj b.typeIs entry_tuple_getitem ?_ (args_tuple_getitem _ _)))
 show wpAny _ _ (Builtin.Tuple.tupleItemsOf (.ref t) >>= _) _ _ s
 refine Ab (tupleItemsOf_ b ?_)
 refine Ab (E9 f ?_)
 rw[As Ξ]
 refine Ab (Uw g n j ?_)
 have c:¬((((sIx items.size 0 lo:Nat):Int) == 0 && (1:Int) == 1 && (sIx items.size items.size hi-sIx items.size 0 lo) == items.size)=true):=by intro q;rw[Co,Co]at q;have u:=Gj q.1.1;have p:=Gj q.2;exact i ⟨Ψ,Ψ⟩
 show wpAny _ _ (if (((sIx items.size 0 lo:Nat):Int) == 0 && (1:Int) == 1 && (sIx items.size items.size hi-sIx items.size 0 lo) == items.size)=true then _ else _) _ _ s
 rw[Ag c,bM]
 first
  | exact Ab (m:=Builtin.Tuple.tupleExact _) (C3 (Ae ⟨_,U,Ae h⟩) a)
  | exact Ab (C3 (Ab (Ae (Ae ⟨_,U,Ae h⟩))) a)
  | exact Ab (Ab (C3 (Ae (Ae ⟨_,U,Ae h⟩)) a))
  | exact Ab (Ab (C3 (Ae ⟨_,U,Ae h⟩) a))
end
end HT
namespace L2
open PySem PySem.Spec PyProof.Rows
abbrev TO:=St->Hp->(Option Int->Hp->Prop)->Prop
def PO (X:Cx)(e:Option Expr)(t:TO):Prop:=
 ∀(dg:List (Addr×Obj)) (s:Shared) (σ:St) (H:Hp) (Q:Option Int->Hp->Prop),Inv X dg σ H s->t σ H Q ->
  wpAny (model X.prog X.w) X.A (evalPart e X.env) (λu s'=>∃o H',Inv X dg σ H' s'/\IsPart u o/\Q o H') X.xe s
def Yp:TO:=λ_ H Q=>Q none H
def Yk (t:TE):TO:=λσ H Q=>t σ H λx H1=>∃i,x=.int i/\Q (some i) H1
def pR :∀{us:List Value},Vals (ns.map V.int) us->IntsAre us ns:=by
 induction ns with
 | nil=>intro us r;rw[FF]at r;cases r;exact .nil
 | cons n ns ih=>
  intro us r;rw[Bg]at r;cases r with
  | cons r1 r2=>obtain⟨t,e⟩:=r1;subst e;exact .cons n t (ih r2)
section
variable {X:Cx}{e:Expr}{te:TE}{lo hi:Option Expr}{tl th:TO}{pos p2:Pos}
def Eu:PO X none Yp:=by intro a s b H Q I h;rw[evalPart_none];exact Ae ⟨none,H,I,.none,h⟩
def Et (h:PE X e te):PO X (some e) (Yk te):=by intro a s g H Q I c;rw[evalPart_some];refine thn (h a s g H _ I c) ?_;rintro u l⟨x,b,j,f,d⟩;obtain⟨i,rfl,q⟩:=d;obtain⟨t,rfl⟩:=f;exact⟨some i,b,j,.int i t,q⟩
def JL (X:Cx)(r:V->Option Int->Option Int->Hp->VK->Prop):Prop:=
 ∀(dg:List (Addr×Obj)) (s:Shared) (σ:St) (H:Hp) (x:V) (v vl vu:Value) (lo hi:Option Int) (sl:Addr) (Q:VK),Inv X dg σ H s->RelV x v->s.heap.IsSliceOf sl vl vu .none->IsPart vl lo->IsPart vu hi->r x lo hi H Q ->
  ∃T id,typeLookup (.type T) "__getitem__" = pure (some (.builtin id))/\s.TypeIs v T/\wpAny (model X.prog X.w) X.A (getItem v (.ref sl)) (EP X dg σ Q) X.xe s
def Yi (r:V->Option Int->Option Int->Hp->VK->Prop)(te:TE)(tl th:TO):TE:=λσ H Q=>te σ H λx H1=>tl σ H1 λl H2=>th σ H2 λu H3=>r x l u H3 Q
def Ew (A:JL X r)(i:PE X e te)(p:PO X lo tl)(n:PO X hi th):PE X (.Subscript e (.Slice lo hi none p2) pos) (Yi r te tl th):=by intro a s d H Q I h;refine Subscript_ (thn (i a s d H _ I h) λv D c=>?_);obtain⟨x,j,M,w,K⟩:=c;refine wpAny_Slice (thn (p a D d j _ M K) λf s2 c=>?_);obtain⟨l,G,F,y,E⟩:=c;refine thn (n a s2 d G _ F E) ?_;rintro g s3⟨u,L,z,m,N⟩;rw[evalPart_none];apply Ae;obtain⟨T,P,B,o,C⟩:=A a { s3 with heap:=s3.heap.push { cls:=.type "slice",data:=.fields #[f,g,.none] } } d L x v f g l u s3.heap.objs.size Q (z.kept (t':=s3.toks) λb R q=>Ax _ q) w (Heap.IsSliceOf.new ..) y m N;exact tail_any o B C (by with_unfolding_all rfl)
def BE (xs:List V)(lo hi:Option Int):List V:=(xs.drop (HT.sIx xs.length 0 lo)).take (HT.sIx xs.length xs.length hi-HT.sIx xs.length 0 lo)
def WT (xs:List V)(lo hi:Option Int):(BE xs lo hi).length<=xs.length:=by unfold BE;rw[Bm,Dc];lia
def aJ (K:W.Frag):V->Option Int->Option Int->Hp->VK->Prop:=λx lo hi H Q=>∃a xs,x=.ref a/\SqT K H a xs /\
 ¬(HT.sIx xs.length 0 lo=0/\HT.sIx xs.length xs.length hi=xs.length)/\∀p,H p=none->Q (.ref p) (upd H p (.tup (BE xs lo hi)))
def M6:JL X (aJ X.K):=by
 rintro g s p H x v w o lo hi y Q I m n l j⟨a,xs,rfl,h,i,q⟩;cases m;obtain⟨d,r,f,hz⟩:=I.tuple h;have c:d.toArray.size=xs.length:=by rw[Bx];exact r.length.symm
 refine⟨"tuple",_,Hj.lookup,f.typeIs,?_⟩;refine HT.getItem_tuple_cut f n l j (c▸i) ?_ (c▸hz);rw[c];refine⟨.ref s.heap.objs.size,_,I.laid (λb u q=>Ax _ q) (An _) ?_,U,q _ (I.hok.fresh (An _))⟩;exact⟨Ed (WT xs lo hi) hz,_,(r.drop (HT.sIx xs.length 0 lo)).take (HT.sIx xs.length xs.length hi-HT.sIx xs.length 0 lo),IsTup.new _ _⟩
def aU (K:W.Frag):R2:=λx y H Q=>∃a b xs ys,x=.ref a/\y=.ref b/\SqT K H a xs/\SqT K H b ys/\xs≠[]/\xs.length+ys.length<=sizeLine /\
 (ys=[]->Q (.ref a) H)/\(ys≠[]->∀p,H p=none->Q (.ref p) (upd H p (.tup (xs++ys))))
def Vals.nil_iff (r:Vals xs us):us=[]↔xs=[]:=by
 cases r with
 | nil=>simp
 | cons _ _=>simp
def cT:Bu X (binaryOp .Add) (aU X.K):=by rintro g s B H x y v u Q I r o⟨a,b,xs,ys,rfl,rfl,m,l,h,hz,n,j⟩;cases r;cases o;obtain⟨p,d,i,_⟩:=I.tuple m;obtain⟨f,c,p2,_⟩:=I.tuple l;refine HT.cat_tup i p2 (λz=>h (d.nil_iff.mp z)) (λz=>⟨.ref a,H,I,U,n (c.nil_iff.mp z)⟩) (λz=>?_) (by rw[<- d.length,<- c.length];exact hz);refine⟨.ref s.heap.objs.size,_,I.laid (λb A q=>Ax _ q) (An _) ?_,U,j (λw=>z (c.nil_iff.mpr w)) _ (I.hok.fresh (An _))⟩;exact⟨AM▸hz,_,d.append c,IsTup.new _ _⟩
end
def F9 (n:Nat)(i:Int):Option Nat:=if 0<=i then(if i<n then some i.toNat else none)else if -(n:Int)<=i then some (i+n).toNat else none
def atI {α:Type}(xs:List α)(i:Int):Option α:=(F9 xs.length i).bind λj=>xs[j]?
def pK {n:Nat} (h:F9 n i=some j):seqIndex? i n=some j/\j<n/\-(n:Int)<=i/\i<n:=by
 unfold F9 at h;by_cases b:0<=i
 ·rw[As b]at h;by_cases a:i<n
  ·rw[As a]at h;have e:=Bh h;exact⟨by rw[seqIndex_of b a,e],Ψ,Ψ,a⟩
  rw[Ag a]at h;cases h
 rw[Ag b]at h;by_cases a:-(n:Int)<=i
 ·rw[As a]at h;exact⟨by rw[seqIndex_neg Ψ a,(Bh h)],Ψ,a,Ψ⟩
 rw[Ag a]at h;cases h
def SB {a:Type}{xs:List a}{i:Int}{v:a}(h:atI xs i=some v):∃j,seqIndex? i xs.length=some j/\xs[j]? = some v/\j<xs.length/\-(xs.length:Int)<=i/\i<xs.length:=by
 unfold atI at h;cases e:F9 xs.length i with
 | none=>rw[e]at h;cases h
 | some j=>rw[e]at h;obtain⟨c,f,b,d⟩:=pK e;exact⟨j,c,h,f,b,d⟩
def Au {a:Type}{xs:List a}{j:Nat}{v:a}(h:xs[j]? = some v):atI xs (j:Int)=some v:=by
 have b:=(AW.mp h).1;have e:F9 xs.length (j:Int)=some j:=by unfold F9;rw[As Ψ,As Ψ];simp
 unfold atI;rw[e];exact h
def vD {a:Type}(xs:List a)(v:a):atI (xs++[v]) (-1)=some v:=by
 have b:(xs++[v]).length=xs.length+1:=by simp
 have e:F9 (xs++[v]).length (-1)=some xs.length:=by unfold F9;rw[b,Ag Ξ,As Ψ];congr 1;lia
 unfold atI;rw[e];simp
def vS (b:Expr):Prop:=∀o i,subscripted b false o i=operate [o,i] (getItem o i)
def JP (X:Cx)(r:R2):Prop:=
 ∀(value slice:Expr) (dg:List (Addr×Obj)) (s:Shared) (σ:St) (H:Hp) (x y:V) (v u:Value) (Q:VK),Inv X dg σ H s->RelV x v->RelV y u->r x y H Q ->
  subscripted slice false v u=operate [v,u] (getItem v u)->wpAny (model X.prog X.w) X.A (subscriptTail value slice v u) (EP X dg σ Q) X.xe s
def Ff (X:Cx)(id:String)(r:V->List V->Hp->VK->Prop):Prop:=
 ∀(dg:List (Addr×Obj)) (s:Shared) (σ:St) (H:Hp) (x:V) (xs:List V) (v:Value) (us:List Value) (Q:VK),Inv X dg σ H s->RelV x v->Vals xs us->r x xs H Q ->
  wpAny (model X.prog X.w) X.A (call (.builtin id) (v::us)) (EP X dg σ Q) X.xe s
section
variable {X:Cx}{a b:Expr}{ta tb:TE}{pos:Pos}
def Ap (d:JP X r)(g:PE X a ta)(f:PE X b tb)(n:vS b):PE X (.Subscript a b pos) (MK r ta tb):=by intro c s m H Q I h;exact Subscript_ (Sv g f I h λv u s2 x y i e l j q=>d a b c s2 m i x y v u Q e l j q (n _ _))
inductive Rl (K:W.Frag)(x:V)(y:V)(H:Hp)(Q:VK):Prop
 | mk (p:_) (xs:_) (i:_) (v:_) (c0:x=.ref p) (c1:y=.int i) (c2:Y K H p xs) (c3:atI xs i=some v) (c4:Q v H):Rl K x y H Q
inductive Rj (K:W.Frag)(x:V)(y:V)(H:Hp)(Q:VK):Prop
 | mk (p:_) (xs:_) (i:_) (v:_) (c0:x=.ref p) (c1:y=.int i) (c2:SqT K H p xs) (c3:atI xs i=some v) (c4:Q v H):Rj K x y H Q
def aS:R2:=λx y H Q=>∃z i c,x=.str z/\y=.int i/\z.length<=sizeLine/\atI z.cps.toList i=some c/\Q (.str ⟨#[c]⟩) H
def AL:JP X (Rl X.K):=by
 intro value slice dg s σ H x y v u Q I rx ry h hs;obtain⟨p,xs,i,z,rfl,rfl,hq,he,q⟩:=h;cases rx;obtain⟨t,rfl⟩:=ry;obtain⟨its,r,pl,hz⟩:=I.list hq;obtain⟨j,h1,h2,h3,h4,h5⟩:=SB he;obtain⟨w,ew,rw'⟩:=r.get h2;have hl:=r.length;have hn:=Oc;have fin:EP X dg σ Q w s:=⟨z,H,I,rw',q⟩;by_cases h0:0<=i
 ·have hj:i.toNat=j:=by rw[seqIndex_of h0 h5]at h1;exact Bh h1
  exact item_listR pl.isList h0 Ψ (by rw[hj];simpa using ew) fin hs
 have hj:(i+(its.toArray.size:Int)).toNat=j:=by rw[seqIndex_neg Ψ h4]at h1;rw[Bx,<- hl];exact Bh h1
 exact subscriptTail_builtinR pl.isList.typeIs slot_list_getitem.lookup
  (wpAny_getItem_list_neg pl.isList Ψ (by rw[Bx] <;> lia) Ψ (by rw[hj];simpa using ew) ⟨U,fin⟩) hs
def Bf:JP X (Rj X.K):=by
 intro value slice dg s σ H x y v u Q I rx ry h hs;obtain⟨p,xs,i,z,rfl,rfl,hq,he,q⟩:=h;cases rx;obtain⟨t,rfl⟩:=ry;obtain⟨its,r,pl,hz⟩:=I.tuple hq;obtain⟨j,h1,h2,h3,h4,h5⟩:=SB he;obtain⟨w,ew,rw'⟩:=r.get h2;have hn:=Oc
 exact subscriptTail_builtinR pl.typeIs Hj.lookup
  (getItem_tuple pl Ψ Ψ (by rw[Bx,<- r.length];exact h1) (by simpa using ew) ⟨U,⟨z,H,I,rw',q⟩⟩) hs
def pJ:JP X aS:=by
 intro value slice dg s σ H x y v u Q I rx ry h hs;obtain⟨z,i,c,rfl,rfl,hz,he,q⟩:=h;obtain⟨t,rfl⟩:=rx;obtain⟨t',rfl⟩:=ry;obtain⟨j,h1,h2,h3,h4,h5⟩:=SB he;have hl:z.cps.toList.length=z.length:=by simp[Str.length]
 rw[hl]at h1 h4 h5;have hn:=Oc;exact tail_any (Js s z t) slot_str_getitem.lookup (getItem_str (by rw[(Bi Ψ),Bi Ψ,OG]) (by rw[h1];simpa using h2) ⟨.str ⟨#[c]⟩,H,I.tok _,⟨_,U⟩,q⟩) hs
def Y3 (lo c:Option Int)(n:Nat):(sliceBounds lo c none n).1=((HT.sIx n 0 lo:Nat):Int)/\(sliceBounds lo c none n).2.1=((HT.sIx n n c:Nat):Int)/\(sliceBounds lo c none n).2.2=1:=by
 refine⟨?_,?_,U⟩
 ·cases lo with
  | none=>simp[sliceBounds,HT.sIx]
  | some i=>
   simp[sliceBounds,HT.sIx,Option.getD_none,show(1:Int) > 0 by decide,Dx];by_cases h:i<0
   ·simp[h,Dx] <;> lia
   simp[h,De] <;> lia
 cases c with
 | none=>simp[sliceBounds,HT.sIx]
 | some i=>
  simp[sliceBounds,HT.sIx,Option.getD_none,show(1:Int) > 0 by decide,Dx];by_cases h:i<0
  ·simp[h,Dx] <;> lia
  simp[h,De] <;> lia
def Y4 (c:List Value)(lo d:Option Int):slicePick c.toArray lo d none=((c.drop (HT.sIx c.length 0 lo)).take (HT.sIx c.length c.length d-HT.sIx c.length 0 lo)).toArray:=by obtain⟨f,g,e⟩:=Y3 lo d c.toArray.size;unfold slicePick;rw[f,g,e];simp only[sliceRange_one,pick_run,Bx] <;> rfl
def aM (K:W.Frag):V->Option Int->Option Int->Hp->VK->Prop:=λx lo hi H Q=>∃a xs,x=.ref a/\Y K H a xs/\∀p,H p=none->Q (.ref p) (upd H p (.lst (BE xs lo hi)))
def M7:JL X (aM X.K):=by rintro f s o H x v u n lo e w Q I l m j h⟨a,xs,rfl,g,q⟩;cases l;obtain⟨i,r,d,hz⟩:=I.list g;have c:=r.length;refine⟨"list",_,slot_list_getitem.lookup,d.isList.typeIs,?_⟩;refine wpAny_getItem_list_slice d.isList m j h .none Θ ?_ (by rw[Bx] <;> lia);rw[Y4,<- c];refine⟨.ref s.heap.objs.size,_,I.laid (λb p q=>Ax _ q) (An _) ?_,U,q _ (I.hok.fresh (An _))⟩;exact⟨Ed (WT xs lo e) hz,_,0,(r.drop (HT.sIx xs.length 0 lo)).take (HT.sIx xs.length xs.length e-HT.sIx xs.length 0 lo),A4 _ U⟩
def ED:V->Bool
 | .non=>true
 | .bl _=>true
 | .int _=>true
 | .str _=>true
 | _=>false
def DW:V->V->Bool
 | .non,.non=>true
 | .bl a,.bl b=>a == b
 | .bl a,.int b=>(if a then 1 else 0) == b
 | .int a,.bl b=>a == (if b then 1 else 0)
 | .int a,.int b=>a == b
 | .str a,.str b=>a == b
 | _,_=>false
def rR (d:RelV y u)(c:RelV x v)(f:ED y=true)(e:ED x=true):SeqAt.EqAt A s u v (DW y x):=by
 cases y with
 | non=>
  cases d;cases x with
  | non=>cases c;exact SeqAt.EqAt.same _
  | bl b=>cases c;exact SeqAt.EqAt.none_bool b
  | int b=>obtain⟨t,rfl⟩:=c;exact SeqAt.EqAt.none_int b t
  | str b=>obtain⟨t,rfl⟩:=c;exact SeqAt.EqAt.none_str b t
  | _=>exact absurd e BI
 | bl a=>
  cases d;cases x with
  | non=>cases c;exact SeqAt.EqAt.bool_none a
  | bl b=>cases c;exact SeqAt.EqAt.bool_bool a b
  | int b=>obtain⟨t,rfl⟩:=c;exact SeqAt.EqAt.bool_int a b t
  | str b=>obtain⟨t,rfl⟩:=c;exact SeqAt.EqAt.bool_str a b t
  | _=>exact absurd e BI
 | int a=>
  obtain⟨t',rfl⟩:=d;cases x with
  | non=>cases c;exact SeqAt.EqAt.int_none a t'
  | bl b=>cases c;exact SeqAt.EqAt.int_bool a t' b
  | int b=>obtain⟨t,rfl⟩:=c;exact SeqAt.EqAt.int_int a t' b t
  | str b=>obtain⟨t,rfl⟩:=c;exact SeqAt.EqAt.int_str a t' b t
  | _=>exact absurd e BI
 | str a=>
  obtain⟨t',rfl⟩:=d;cases x with
  | non=>cases c;exact SeqAt.EqAt.str_none a t'
  | bl b=>cases c;exact SeqAt.EqAt.str_bool a t' b
  | int b=>obtain⟨t,rfl⟩:=c;exact SeqAt.EqAt.str_int a t' b t
  | str b=>obtain⟨t,rfl⟩:=c;exact SeqAt.EqAt.str_str a t' b t
  | _=>exact absurd e BI
 | _=>exact absurd f BI
def CL (x:V)(u:Value):Bool:=match u with
 | .none=>DW .non x
 | .bool b=>DW (.bl b) x
 | .int i _=>DW (.int i) x
 | .str z _=>DW (.str z) x
 | _=>false
def On (r:RelV y u)(f:ED y=true):CL x u=DW y x:=by
 cases y with
 | non=>cases r;rfl
 | bl b=>cases r;rfl
 | int i=>obtain⟨t,rfl⟩:=r;rfl
 | str z=>obtain⟨t,rfl⟩:=r;rfl
 | _=>exact absurd f BI
def L1 :∀{xs:List V}{us:List Value},Vals xs us->xs.all ED=true->us.any (CL x)=xs.any λy=>DW y x
  :=by
 intro y u h f;induction h with
 | nil=>rfl
 | cons r t i=>rw[OF,Co]at f;rw[Jq,Jq,On r f.1,i f.2]
theorem G7 (e:RelV x v)(d:ED x=true):∀{xs:List V}{us:List Value},Vals xs us->xs.all ED=true->∀u∈us,SeqAt.EqAt A s u v (CL x u)
 | _,_,.nil,_=>λu c=>by cases c
 | y::xs,u::us,.cons r t,f=>λg c=>by
  rw[OF,Co]at f;rcases(Ar.mp c)with rfl | c
  ·rw[On r f.1];exact rR r e f.1 d
  exact G7 e d t f.2 g c
def Fu (x:V)(xs:List V):Bool:=xs.any λy=>DW y x
inductive Kv (K:W.Frag)(neg:Bool)(x:V)(y:V)(H:Hp)(Q:VK):Prop
 | mk (p:_) (xs:_) (c0:y=.ref p) (c1:(Y K H p xs\/SqT K H p xs)) (c2:ED x=true) (c3:xs.all ED=true) (c4:Q (.bl (if neg then !Fu x xs else Fu x xs)) H):Kv K neg x y H Q
def Ez:Bu X (compareOp .In) (Kv X.K false):=by
 rintro i s l H x y v u Q I h j⟨p,xs,rfl,d,g,fs,q⟩;cases j;rcases d with d | d
 ·obtain⟨c,r,f,hz⟩:=I.list d;refine SeqAt.in_listAt (CL x) f.isList (λw e=>G7 h g r fs w (by simpa using e)) ⟨.bl _,H,I,U,?_⟩;rw[show c.toArray.any (CL x)=c.any (CL x) by simp,L1 r fs];exact q
 obtain⟨c,r,f,hz⟩:=I.tuple d;refine SeqAt.in_tupleAt (CL x) f (λw e=>G7 h g r fs w (by simpa using e)) ⟨.bl _,H,I,U,?_⟩;rw[show c.toArray.any (CL x)=c.any (CL x) by simp,L1 r fs];exact q
def cN:Bu X (compareOp .NotIn) (Kv X.K true):=by
 rintro i s l H x y v u Q I h j⟨p,xs,rfl,d,g,fs,q⟩;cases j;rcases d with d | d
 ·obtain⟨c,r,f,hz⟩:=I.list d;refine SeqAt.notIn_listAt (CL x) f.isList (λw e=>G7 h g r fs w (by simpa using e)) ⟨.bl _,H,I,U,?_⟩;rw[show c.toArray.any (CL x)=c.any (CL x) by simp,L1 r fs];exact q
 obtain⟨c,r,f,hz⟩:=I.tuple d;refine SeqAt.notIn_tupleAt (CL x) f (λw e=>G7 h g r fs w (by simpa using e)) ⟨.bl _,H,I,U,?_⟩;rw[show c.toArray.any (CL x)=c.any (CL x) by simp,L1 r fs];exact q
def LZ:Ce X (.type "list") (λxs H Q=>∃p ys,xs=[.ref p]/\(Y X.K H p ys\/SqT X.K H p ys)/\∀l,H l=none->Q (.ref l) (upd H l (.lst ys))):=by
 rintro h s B H xs us Q I r⟨p,ys,rfl,j,q⟩;obtain⟨u,rfl,A⟩:=Cm r;cases A
 have g:∀c,Vals ys c->ys.length<=sizeLine->∀(h':Heap) (d:Nat),(∀b z,s.heap.get? b=some z->h'.get? b=some z) ->
   h'.get? s.heap.objs.size=some { cls:=.type "list",dict:=none,data:=.seq c.toArray d,slots:=#[] }->EP X h B Q (.ref s.heap.objs.size) { s with heap:=h' }:=λc f hz h' d m e=>
  ⟨.ref s.heap.objs.size,_,I.laid m (An _) (show ObjOk X.prog X.w _ h' _ (.lst ys) from ⟨hz,c,d,f,e⟩),U,q _ (I.hok.fresh (An _))⟩
 rcases j with j | j
 ·obtain⟨c,f,w,hz⟩:=I.list j;have i:=f.length;obtain⟨o,x,v,n,y⟩:=w.isList;exact call_list_seq p (.inl U) x v y (λh' d m e=>g c f hz h' d m e) (by simp[Bx] <;> lia)
 obtain⟨c,f,w,hz⟩:=I.tuple j;have i:=f.length;obtain⟨o,x,v,n,y⟩:=w;exact call_list_seq p (.inr U) x v y (λh' d m e=>g c f hz h' d m e) (by simp[Bx] <;> lia)
def W2:Ce X (.type "tuple") (λxs H Q=>∃p ys,xs=[.ref p]/\((Y X.K H p ys/\∀l,H l=none->Q (.ref l) (upd H l (.tup ys)))\/(SqT X.K H p ys/\Q (.ref p) H))):=by
 rintro d s x H xs us Q I r⟨p,ys,rfl,h⟩;obtain⟨u,rfl,v⟩:=Cm r;cases v;rcases h with⟨f,q⟩ | ⟨f,q⟩
 ·obtain⟨c,i,g,hz⟩:=I.list f;have j:=i.length;refine call_tuple_list g.isList (λh' w=>?_) (by simp[Bx] <;> lia);have m:=I.kept (t':=s.toks) w
  have n:Inv X d x (upd H h'.objs.size (.tup ys)) { s with heap:=h'.push { cls:=.type "tuple",data:=.seq c.toArray } }:=
   m.laid (t':=s.toks) (λb o e=>Ax _ e) (An _) (⟨hz,c,i,IsTup.new _ _⟩)
  exact⟨.ref h'.objs.size,_,n,U,q _ (m.hok.fresh (An _))⟩
 obtain⟨c,i,g,hz⟩:=I.tuple f;exact call_tuple_same g ⟨.ref p,H,I,U,q⟩
def Pn (K:W.Frag)(T:String)(x:V)(H:Hp):Prop:=match x with
 | .str _=>T = "str"
 | .int _=>T = "int"
 | .ref p=>(T = "list" /\ ∃xs,Y K H p xs)\/(T = "tuple" /\ ∃o,K.lookup p=some o/\o.cls=.type "tuple" /\ o.dict=none) \/
   (T = "dict" /\ ((∃kvs,H p=some (.dK kvs))\/∃kvs,H p=some (.dT kvs)))\/(T = "set" /\ ∃S n,H p=some (.set S n))
 | _=>False
def T4 (I:Inv X dg σ H s)(r:RelV x v)(f:Pn X.K T x H) :
  s.TypeIs v T/\∀a,v=.ref a->∃h,s.heap.get? a=some h/\h.dict=none:=by
 cases x with
 | str z=>obtain⟨t,rfl⟩:=r;cases f;exact⟨Js s z t,λ_ e=>nomatch e⟩
 | int i=>obtain⟨t,rfl⟩:=r;cases f;exact⟨typeIs_int s i t,λ_ e=>nomatch e⟩
 | ref p=>
  cases r;rcases f with⟨rfl,xs,q⟩ | ⟨rfl,o,d,l,g⟩ | ⟨rfl,d⟩ | ⟨rfl,S,n,d⟩
  ·obtain⟨m,_,j,_⟩:=I.list q;refine⟨j.isList.typeIs,λa e=>?_⟩;cases e;obtain⟨o,n,e,c,g,_⟩:=j;exact⟨o,e,g⟩
  ·refine⟨⟨o,I.kIn p o d,l⟩,λa e=>?_⟩;cases e;exact⟨o,I.kIn _ o d,g⟩
  ·have z:∃o,s.heap.get? p=some o/\o.ExactDict:=by
    rcases d with⟨kvs,d⟩ | ⟨kvs,d⟩
    ·obtain⟨_,_,_,_,o,_,_,e,ex,_⟩:=I.hok p _ d;exact⟨o,e,ex⟩
    obtain⟨_,_,_,_,o,_,_,e,ex,_⟩:=I.hok p _ d;exact⟨o,e,ex⟩
   obtain⟨o,e,ex⟩:=z;refine⟨⟨o,e,ex.1⟩,λa e2=>?_⟩;cases e2;exact⟨o,e,ex.2.1⟩
  obtain⟨o,_,_,_,e,ex,_⟩:=I.hok p _ d;refine⟨⟨o,e,ex.1⟩,λa e2=>?_⟩;cases e2;exact⟨o,e,ex.2.1⟩
 | _=>exact False.elim f
def YL (K:W.Frag)(T:String)(r:V->List V->Hp->VK->Prop)(to:TE):TE:=λσ H Q=>to σ H λx H1=>Pn K T x H1/\r x [] H1 Q
def Pu (K:W.Frag)(T:String)(r:V->List V->Hp->VK->Prop)(to:TE)(t:TA):TE:=λσ H Q=>to σ H λx H1=>Pn K T x H1/\t σ H1 λxs H2=>r x xs H2 Q
variable {o e:Expr}{es:List Expr}{to:TE}{t:TA}{name:Str}{apos cpos:Pos}{T id:String}{r:V->List V->Hp->VK->Prop}
def Vh (A:PlainAttrs T)(g:Slot T name id)(i:typeOf (.builtin id)=pure (.type "method_descriptor"))(w:Ff X id r)(C:PE X o to)
  (f:attributeBase o name X.env (eval o X.env)=eval o X.env:=by rfl)(d:(apos.endLine == cpos.line)=true:=by rfl):PE X (.Call (.Attribute o name apos) [] [] cpos) (YL X.K T r to):=by
 intro c s m H Q I h
 refine Ti f d (thn (C c s m H _ I h) λv y j=>?_)
 obtain⟨x,q,n,l,B,z⟩:=j
 obtain⟨p,u⟩:=T4 n l B
 exact⟨T,id,A,g,i,p,u,JG U (S2 (w c y m q x [] v [] Q n l .nil z))⟩
def Dg (P:PlainAttrs T)(j:Slot T name id)(m:typeOf (.builtin id)=pure (.type "method_descriptor"))(z:Ff X id r)(C:PE X o to)(M:PA X (e::es) t)
  (i:attributeBase o name X.env (eval o X.env)=eval o X.env:=by rfl)
  (l:((backTo cpos (starEach (e::es) X.env)).all (λx=>!x.1) && (backToKw cpos (keywordEach [] X.env)).all (λx=>x.1.isSome) && decide ((e::es).length+([]:List Keyword).length+(if ([]:List Keyword).isEmpty then 0 else 1)<30))=true:=by rfl)
  (f:(apos.endLine == cpos.line)=true:=by rfl)(B:starEach (e::es) X.env=(false,eval e X.env)::starEach es X.env:=by rfl)(d:(backTo cpos (starEach es X.env)).any (·.1)=false:=by rfl) :
  PE X (.Call (.Attribute o name apos) (e::es) [] cpos) (Pu X.K T r to t):=by
 intro c s n H Q I h
 refine wpAny_Call_method_late i l f U (thn (C c s n H _ I h) λv F g=>?_)
 obtain⟨x,w,u,p,A,N⟩:=g
 obtain⟨E,y⟩:=T4 u p A
 refine⟨T,id,P,j,m,E,y,?_⟩
 have q:=M cpos c F n w _ u N
 rw[B]at q ⊢
 refine JG (by show(false || (backTo cpos (starEach es X.env)).any (·.1))=false;rw[d] <;> rfl) (OS ?_)
 exact thn q λus s2 g=>by obtain⟨vs,L,K,D,G⟩:=g;exact z c s2 n L x vs v us Q K p D G
end
def vU (X:Cx)(id:String)(r:V->List V->Hp->VK->Prop):Prop:=
 ∀(dg:List (Addr×Obj)) (s:Shared) (σ:St) (H:Hp) (x:V) (xs:List V) (v:Value) (us:List Value) (Q:VK),Inv X dg σ H s->RelV x v->Vals xs us->r x xs H Q ->
  wpAny (model X.prog X.w) X.A (call (.builtin id) (v::us)) (EP X dg σ Q) X.xe s
def Vals.one:∀{x:V}{us:List Value},Vals [x] us->∃u,us=[u]/\RelV x u:=by intro x u h;cases h with|cons r t=>cases t;exact⟨_,U,r⟩
section
variable {X:Cx}{dg:List (Addr×Obj)}{σ:St}{H:Hp}{s:Shared}{l b:Addr}{xs ys zs:List V}
def Inv.lset {a its':List Value}{n:Nat}{f:Array Value->Array Value}{t':Nat}(I:Inv X dg σ H s)(g:H l=some (.lst xs))
  (e:s.heap.get? l=some { cls:=.type "list",data:=.seq a.toArray n })(i:f a.toArray=its'.toArray)(h:Vals ys its')(hz:ys.length<=sizeLine) :
  Inv X dg σ (upd H l (.lst ys)) { s with heap:=s.heap.update l (Obj.mapSeq f),toks:=t' }:=by
 have q:=PySem.IsL.update e f
 rw[i]at q
 refine I.write (g▸trivial) (.inl U) (λj u d c=>(JF s.heap (Obj.mapSeq f) (Ec d)).trans c) ⟨_,q⟩ ?_
 exact⟨hz,its',_,h,q⟩
def Inv.lnew (I:Inv X dg σ H s)(a:Vals ys its)(hz:ys.length<=sizeLine) :
  Inv X dg σ (upd H s.heap.objs.size (.lst ys)) { s with heap:=s.heap.push { cls:=.type "list",data:=.seq its.toArray },toks:=t' }:=
 I.laid (λ_ _ q=>Ax _ q) (An _) ⟨hz,its,0,a,A4 _ U⟩
def Inv.fresh (I:Inv X dg σ H s):H s.heap.objs.size=none:=I.hok.fresh (An _)
def Inv.lstM (I:Inv X dg σ H s)(c:H l=some (.lst xs)):xs.length<=sizeLine/\∃(a:List Value) (n:Nat),Vals xs a/\xs.length=a.length/\s.heap.get? l=some { cls:=.type "list",data:=.seq a.toArray n }:=by obtain⟨z,a,n,r,e⟩:=I.hok l _ c;exact⟨z,a,n,r,r.length,e⟩
end
section
variable {X:Cx}
def aW:V->List V->Hp->VK->Prop:=λx vs H Q=>∃l xs y,x=.ref l/\vs=[y]/\H l=some (.lst xs)/\xs.length<sizeLine/\Q .non (upd H l (.lst (xs++[y])))
def mP:vU X "list.append" aW:=by rintro c s i H x vs v us Q I g d⟨l,xs,y,rfl,rfl,b,hz,q⟩;cases g;obtain⟨u,rfl,f⟩:=d.one;obtain⟨z,a,n,r,h,e⟩:=I.lstM b;refine Hl F.slot_list_append ⟨_,e,U⟩ F.entry_list_append (F.args_list_append_2 _ _) (PySem.list_append l a.toArray n u (by rw[Bx];lia)) ⟨e,.non,_,I.lset (its':=a++[u]) b e Θ (r.append (.cons f .nil)) ?_,U,q⟩;rw[AM,Gu];lia
def aV:R2:=λx y H Q=>∃l b xs zs,x=.ref l/\y=.ref b/\H l=some (.lst xs)/\H b=some (.lst zs)/\xs.length+zs.length<=sizeLine/\∀p,H p=none->Q (.ref p) (upd H p (.lst (xs++zs)))
def G3:Bu X (binaryOp .Add) aV:=by
 rintro d s C H x y v u Q I m j⟨l,b,xs,A,rfl,rfl,g,h,hz,q⟩;cases m;cases j;obtain⟨z,c,n,r,B,e⟩:=I.lstM g;obtain⟨w,a,p,f,i,e2⟩:=I.lstM h;refine PySem.P.add_list e e2 ?_ (by rw[Bx,Bx];lia);have o:c.toArray++a.toArray=(c++a).toArray:=by simp
 rw[o];exact⟨.ref _,_,I.lnew (r.append f) (by rw[AM];lia),U,q _ I.fresh⟩
end
section
variable {κ:Type} [DecidableEq κ]
def Bj (kvs:List (κ×V))(k:κ):Option V:=(kvs.find? λkv=>decide (kv.1=k)).map (·.2)
def Cq (kvs:List (κ×V))(k:κ)(v:V):List (κ×V):=
 if (kvs.any λkv=>decide (kv.1=k))=true then kvs.map (λkv=>if kv.1=k then(kv.1,v)else kv)else kvs++[(k,v)]
def HX {k:κ}(e:p.1=k):Bj (p::r) k=some p.2:=by simp[Bj,FI,e]
def Ep {k:κ}(e:¬p.1=k):Bj (p::r) k=Bj r k:=by simp[Bj,FI,e]
theorem HY (k:κ):∀kvs:List (κ×V),(kvs.any λa=>decide (a.1=k))=(Bj kvs k).isSome
 | []=>rfl
 | p::r=>by
  rw[Jq];by_cases e:p.1=k
  ·simp[HX e,AV e,Bool.true_or,Option.isSome_some]
  rw[Ep e,Bi e,Bool.false_or];exact HY k r
def RJ (kvs:List (κ×V))(k:κ)(v:V):(Cq kvs k v).length<=kvs.length+1:=by
 unfold Cq;split
 ·rw[Ah];lia
 rw[AM,BU,length_nil];lia
def Er {k:κ}(v:V)(h:Bj kvs k=none):Cq kvs k v=kvs++[(k,v)]:=by unfold Cq;rw[HY,h];exact Ag Ξ
def RelO.isSome_eq (r:RelO o u):o.isSome=u.isSome:=by
 cases o with
 | none=>cases u with
  | none=>rfl
  | some _=>exact(show False from r).elim
 | some _=>cases u with
  | none=>exact(show False from r).elim
  | some _=>rfl
def RelO.getD (r:RelO o u)(rd:RelV d d'):RelV (o.getD d) (u.getD d'):=by
 cases o with
 | none=>cases u with
  | none=>exact rd
  | some _=>exact(show False from r).elim
 | some _=>cases u with
  | none=>exact(show False from r).elim
  | some _=>exact r
def KV.val (r:KV kvs vs)(k:κ):RelO (Bj kvs k) (valueAt vs k):=by
 induction r with
 | nil=>exact Ju
 | @cons p q ps qs h t ih=>
  obtain⟨c,d⟩:=h;by_cases e:p.1=k
  ·have a:=c.symm.trans e;have b:valueAt (q::qs) k=some q.2:=by simp[valueAt,FI,a]
   rw[HX e,b];exact d
  have a:¬q.1=k:=λz=>e (c.trans z);have b:valueAt (q::qs) k=valueAt qs k:=by simp[valueAt,FI,a]
  rw[Ep e,b];exact ih
def KV.any (r:KV kvs vs)(k:κ):(kvs.any λa=>decide (a.1=k))=vs.any λa=>decide (a.1=k):=by
 induction r with
 | nil=>rfl
 | cons h t ih=>rw[Jq,Jq,ih,h.1]
def KV.repl (r:KV kvs vs)(k:κ) (d:RelV y u) :
  KV (kvs.map λa=>if a.1=k then(a.1,y)else a) (vs.map λa=>if a.1=k then(a.1,u)else a):=by
 induction r with
 | nil=>exact .nil
 | @cons p q ps qs h t ih=>
  rw[Bg,Bg];refine .cons ?_ ih;obtain⟨b,c⟩:=h;by_cases e:p.1=k
  ·rw[As e,As (b.symm.trans e)];exact⟨b,d⟩
  rw[Ag e,Ag (λz=>e (b.trans z))];exact⟨b,c⟩
def KV.put (r:KV kvs vs)(k:κ) (a:RelV y u):KV (Cq kvs k y) (stored vs k u):=by
 unfold Cq stored;rw[r.any k];by_cases e:(vs.any λb=>decide (b.1=k))=true
 ·rw[As e,As e];exact r.repl k a
 rw[Ag e,Ag e];exact Paired.snoc r ⟨U,a⟩
def KV.keys {kvs:List (κ×V)}{vs:List (κ×Value)}(r:KV kvs vs):kvs.map (·.1)=vs.map (·.1):=by
 induction r with
 | nil=>rfl
 | cons h t ih=>rw[Bg,Bg,ih,h.1]
def KV.length (r:KV kvs vs):kvs.length=vs.length:=Gp r
end
def Fq {k:Key} (r:RelV (kV k) u):(B2 P w).is k u=true:=by
 cases k with
 | inl i=>obtain⟨t,e⟩:=r;subst e;exact mU P w i t
 | inr x=>obtain⟨t,e⟩:=r;subst e;exact mS P w x t
abbrev KT (H:Hp):List (PyData×V)->List (PyData×Addr×Value)->Prop:=Paired λp q=>p.1=q.1/\RdT H q.2.1 p.1/\RelV p.2 q.2.2
def KT.val (r:KT H kvs xs)(k:PyData):RelO (Bj kvs k) ((atKey xs k).map (·.2)):=by
 induction r with
 | nil=>exact Ju
 | @cons p q ps qs h t ih=>
  obtain⟨c,_,d⟩:=h;by_cases e:p.1=k
  ·have a:=c.symm.trans e;have b:atKey (q::qs) k=some q.2:=by simp[atKey,FI,a]
   rw[HX e,b];exact d
  have a:¬q.1=k:=λz=>e (c.trans z);have b:atKey (q::qs) k=atKey qs k:=by simp[atKey,FI,a]
  rw[Ep e,b];exact ih
def KT.repl (r:KT H kvs xs)(k:PyData) (f:RelV y u) :
  KT H (kvs.map λb=>if b.1=k then(b.1,y)else b) (xs.map (putAt k u)):=by
 induction r with
 | nil=>exact .nil
 | @cons p q ps qs h t ih=>
  rw[Bg,Bg];refine .cons ?_ ih;obtain⟨a,c,d⟩:=h;unfold putAt;by_cases e:p.1=k
  ·rw[As e,As (a.symm.trans e)];exact⟨a,c,f⟩
  rw[Ag e,Ag (λz=>e (a.trans z))];exact⟨a,c,d⟩
def KT.put (r:KT H kvs xs)(k:PyData) (c:RdT H b k)(a:RelV y u) :
  KT H (Cq kvs k y) (storedH xs k b u):=by
 have e:(kvs.any λd=>decide (d.1=k))=(atKey xs k).isSome:=by rw[HY,(r.val k).isSome_eq,isSome_map]
 unfold Cq storedH
 rw[e]
 by_cases q:(atKey xs k).isSome=true
 ·rw[As q,As q];exact r.repl k a
 rw[Ag q,Ag q];exact Paired.snoc r ⟨U,c,a⟩
def KT.keeps (r:KT H kvs xs)(a:∀b ys,H b=some (.tup ys)->H' b=some (.tup ys)):KT H' kvs xs:=
 Paired.mapP r λ_ _ z=>⟨z.1,z.2.1.same a,z.2.2⟩
section
variable {P:Program}{w:World}{H:Hp}{h:Heap}{a:Addr}
def UO (ok:HOk P w H h)(e:Rd H a u):ObjOk P w H h a u:=e.ok ok
def Fz (ok:HOk P w H h)(e:Rd H a (.dK kvs)):kvs.length<=sizeLine/\(a == sysModules)=false/\∃vs,KV kvs vs/\h.DictOf (B2 P w) a vs:=
 show ObjOk P w H h a (.dK kvs) from UO ok e
def Gc (ok:HOk P w H h)(e:H a=some (.dK kvs)):kvs.length<=sizeLine/\(a == sysModules)=false/\∃vs,KV kvs vs/\h.DictOf (B2 P w) a vs:=Fz ok (.inl e)
mutual
theorem RdD.reads (ok:HOk P w H h):∀{x:V}{d:PyData}{u:Value},RdD H x d->RelV x u->∃b,Reads h u d b
 | _,_,_,.non,r=>by cases r;exact⟨_,.none⟩
 | _,_,_,.str x,r=>by obtain⟨t,rfl⟩:=r;exact⟨_,.str x t⟩
 | _,_,_,.tup (a:=a) e rs,r=>by cases r;obtain⟨z,f,g,o,j,l,n,i⟩:=ok a _ e;obtain⟨b,c⟩:=RdDs.reads ok rs g;exact⟨b,.tuple j l i (by simpa using c)⟩
theorem RdDs.reads (ok:HOk P w H h):∀{xs:List V}{ds:List PyData}{us:List Value},RdDs H xs ds->Vals xs us->∃c,ReadsAll h us ds c
 | _,_,_,.nil,r=>by cases r;exact⟨_,.nil⟩
 | _,_,_,.cons a b,r=>by
  cases r with
  | cons r1 r2=>obtain⟨c,d⟩:=RdD.reads ok a r1;obtain⟨bs,e⟩:=RdDs.reads ok b r2;exact⟨_,.cons d e⟩
end
def LN {k:PyData}(ok:HOk P w H h)(e:RdT H a k):(WK.dataKind P w).is h k a:=⟨e.ok,e.lay,e.dp,e.de,e.rd.reads ok U⟩
def Jh (ok:HOk P w H h)(e:Rd H a (.dT kvs)):kvs.length<=sizeLine/\(a == sysModules)=false /\
  ∃xs,KT H kvs xs/\h.DictOfH (WK.dataKind P w) a xs:=by
 obtain⟨z,y,xs,r,o,f,ep,c,g,i,d,j⟩:=(UO ok e)
 refine⟨z,y,xs,r,o,f,ep,c,g,i,d,λx b=>?_,j⟩
 have all:∀{l:List (PyData×V)}{m:List (PyData×Addr×Value)},KT H l m->∀x∈m,(WK.dataKind P w).is h x.1 x.2.1:=by
  intro l m q;induction q with
  | nil=>intro x b;exact nomatch b
  | @cons p q ps qs hq t ih=>
   intro x b;rcases(Ar.mp b)with e | b
   ·subst e;exact LN ok (by rw[<- hq.1];exact hq.2.1)
   exact ih x b
 exact all r x b
def rY (ok:HOk P w H h)(e:H a=some (.dT kvs)):kvs.length<=sizeLine/\(a == sysModules)=false /\
  ∃xs,KT H kvs xs/\h.DictOfH (WK.dataKind P w) a xs:=Jh ok (.inl e)
end
def DGet (H:Hp)(a:Addr)(y:V)(r:Option V):Prop:=
 (∃kvs k,Rd H a (.dK kvs)/\y=kV k/\r=Bj kvs k)\/∃kvs k b,Rd H a (.dT kvs)/\y=.ref b/\RdT H b k/\r=Bj kvs k
def DPut (H:Hp)(a:Addr)(y v:V)(H':Hp):Prop:=
 (∃kvs k,H a=some (.dK kvs)/\y=kV k/\kvs.length<sizeLine/\H'=upd H a (.dK (Cq kvs k v))) \/
 ∃kvs k b,H a=some (.dT kvs)/\y=.ref b/\RdT H b k/\kvs.length<sizeLine/\H'=upd H a (.dT (Cq kvs k v))
theorem DGet.k {k:Key}(e:H a=some (.dK kvs)):DGet H a (kV k) (Bj kvs k):=.inl ⟨kvs,k,.inl e,U,U⟩
def DGet.t {k:PyData}(e:H a=some (.dT kvs))(c:RdT H b k):DGet H a (.ref b) (Bj kvs k):=.inr ⟨kvs,k,b,.inl e,U,c,U⟩
theorem DPut.k {k:Key} (e:H a=some (.dK kvs))(b:kvs.length<sizeLine):DPut H a (kV k) v (upd H a (.dK (Cq kvs k v))):=.inl ⟨kvs,k,e,U,b,U⟩
def DPut.t {k:PyData} (e:H a=some (.dT kvs))(d:RdT H b k)(c:kvs.length<sizeLine) :
  DPut H a (.ref b) v (upd H a (.dT (Cq kvs k v))):=.inr ⟨kvs,k,b,e,U,d,c,U⟩
section
variable {X:Cx}{dg:List (Addr×Obj)}{σ:St}{H:Hp}{s:Shared}{a:Addr}{y v:V}{u r:Value}{o:Option V}{A:Around}{E:Value->Shared->Prop}
def Inv.big (I:Inv X dg σ H s):sysModules<s.heap.objs.size:=by exact Jp Ξ ((I.mod.glob.keeps I.bk).lt)
def sZ (q:A.units+20<cLine)(I:Inv X dg σ H s)(g:DGet H a y (some v))(n:RelV y u)(h:∀f s',Inv X dg σ H s'->RelV v f->Q f s') :
  wpAny (model X.prog X.w) A (getItem (.ref a) u) Q E s:=by
 rcases g with⟨kvs,k,e,m,l⟩ | ⟨kvs,k,b,e,m,x,l⟩
 ·subst m;obtain⟨z,w,vs,c,dd⟩:=Fz I.hok e;obtain⟨f,i,d⟩:=RelO.some_of (l▸c.val k);exact wpAny_getItem_of (Fq n) dd.mapOf i (h f _ (I.tok _) d)
 subst m
 cases n
 obtain⟨z,w,xs,c,dd⟩:=Jh I.hok e
 obtain⟨f,i,d⟩:=RelO.some_of (l▸c.val k)
 obtain⟨p,B,j⟩:=Mj.mp i
 apply wpAny_getItem_heap (WK.room_in1 q) (LN I.hok x) dd B
 rw[j]
 exact h f _ (I.tok _) d
def sX (j:A.units+20<cLine)(I:Inv X dg σ H s)(g:DGet H a y o)(i:RelV y u)(h:∀s',Inv X dg σ H s'->Q (.bool (!o.isSome)) s') :
  wpAny (model X.prog X.w) A (compareOp .NotIn u (.ref a)) Q E s:=by
 rcases g with⟨kvs,k,e,f,l⟩ | ⟨kvs,k,b,e,f,m,l⟩
 ·subst f;obtain⟨z,d,vs,c,dd⟩:=Fz I.hok e;apply wpAny_notIn_of (Fq i) d dd.mapOf;rw[<- (c.val k).isSome_eq,<- l];exact h _ (I.tok _)
 subst f
 cases i
 obtain⟨z,d,xs,c,dd⟩:=Jh I.hok e
 apply wpAny_notIn_heap (WK.room_in1 j) (LN I.hok m) d dd
 have q:=(c.val k).isSome_eq
 rw[isSome_map]at q
 rw[<- q,<- l]
 exact h _ (I.tok _)
def WM (I:Inv X dg σ H s)(e:Mx (H a))(f:Heap.SameBut a s.heap h')(d:∃q,h'.get? a=some q)(new:ObjOk X.prog X.w (upd H a ob) h' a ob) :
  Inv X dg σ (upd H a ob) { s with heap:=h',toks:=t' }:=
 I.write e (.inl U) (λb q c z=>(f.2 b c).trans z) d new
def sQ (z:kvs.length<=sizeLine)(c:(a == sysModules)=false)(b:KV kvs vs)(dd:h'.DictOf (B2 P w) a vs) :
  ObjOk P w H' h' a (.dK kvs):=⟨z,c,vs,b,dd⟩
def sW (M:A.units+20<cLine)(I:Inv X dg σ H s)(g:DPut H a y v H')(x:RelV y u)(D:RelV v r)(h:∀s',Inv X dg σ H' s'->Q () s') :
  wpAny (model X.prog X.w) A (setItem (.ref a) u r) Q E s:=by
 rcases g with⟨kvs,k,e,w,l,n⟩ | ⟨kvs,k,b,e,w,B,l,n⟩
 ·subst w n;obtain⟨z,p,vs,d,dd⟩:=Gc I.hok e;have hz:vs.length<=sizeLine:=by rw[<- d.length];exact z
  have j:(Cq kvs k v).length<=sizeLine:=by have:=RJ kvs k v;lia
  refine wpAny_setItem_pairs (hsz:=hz) (Fq x) dd λh' f m=>h _ ?_;have F:∃q,h'.get? a=some q:=let ⟨q,_,_,i,_⟩:=f;⟨q,i⟩;exact WM I (e▸Ju) m F (sQ j p (d.put k D) f)
 subst w n
 cases x
 obtain⟨z,p,xs,d,dd⟩:=rY I.hok e
 have hz:xs.length<=sizeLine:=by rw[<- Gp d];exact z
 have j:(Cq kvs k v).length<=sizeLine:=by have:=RJ kvs k v;lia
 refine wpAny_setItem_heap (hsz:=hz) (WK.room_in1 M) (LN I.hok B) dd λh' f m=>h _ ?_
 obtain⟨q,K,ep,i,L,P,G,_,N⟩:=f
 refine WM I (e▸Ju) m ⟨q,i⟩ ⟨j,p,_,(d.put k B D).keeps λc ys C=>?_,q,K,ep,i,L,P,G,N⟩
 rw[Ao (Ba C e (λz=>nomatch z))]
 exact C
end
section
variable {X:Cx}{dg:List (Addr×Obj)}{σ:St}{H:Hp}{s:Shared}{a:Addr}{kvs:List (Key×V)}{k:Key}{u:Value}{A:Around}{E:Value->Shared->Prop}
def sY (I:Inv X dg σ H s)(e:Rd H a (.dK kvs))(h:∀t s',Inv X dg σ H s'->Q (.int kvs.length t) s'):wpAny (model X.prog X.w) A (call (.builtin "len") [.ref a]) Q E s:=by obtain⟨z,c,vs,b,dd⟩:=Fz I.hok e;refine call_len_dict c dd (by rw[<- b.length];rw[AB]at z;lia) ?_;rw[<- b.length];exact h _ _ (I.tok _)
end
def Xx (i:Expr):Prop:=∀ov iv,subscripted i false ov iv=operate [ov,iv] (getItem ov iv)
def YQ {prog:Program}{w:World}{A:Around}{E:Value->Shared->Prop}{s:Shared}{env:Env}{b a:Expr}{pos:Pos}{T m:String}{Q:Value->Shared->Prop}
  (n:typeLookup (.type T) "__getitem__" = pure (some (.builtin m)))(p:Xx a)
  (h:wpAny (model prog w) A (eval b env) (λo d=>wpAny (model prog w) A (eval a env) (λi s₂=>s₂.TypeIs o T/\wpAny (model prog w) A (getItem o i) Q E s₂) E d) E s) :
  wpAny (model prog w) A (eval (.Subscript b a pos) env) Q E s:=by
 refine Subscript_ (CD h (λo d g=>CD g (λi s₂ c=>?_) λ_ _ x=>x) λ_ _ x=>x)
 obtain⟨l,c⟩:=c
 apply Ab
 rw[getitemInPython_of_ne l.not_modules]
 refine Ab (EJ l n ?_)
 have f:wpAny (model prog w) A (subscripted a false o i) (λr e=>wpAny (model prog w) A (letTemporaryGo b o r >>= λ_=>pure r) Q E e) E s₂:=by rw[p o i];exact wpAny_operating (CD c (λr e j=>Ab (wpAny_letTemporaryGo (Ae j))) λ_ _ x=>x)
 first
  | exact Ae (Ab f)
  | exact Ab (Ae (Ab f))
  | exact Ab f
def sS (I:Inv X dg σ H s)(g:DGet H a y o):s.TypeIs (.ref a) "dict" := by
 rcases g with⟨kvs,k,e,_,_⟩ | ⟨kvs,k,b,e,_,_,_⟩
 ·obtain⟨_,_,vs,_,dd⟩:=Fz I.hok e;exact dd.typeIs
 obtain⟨_,_,xs,_,dd⟩:=Jh I.hok e;exact dd.typeIs
inductive V7 (Q:VK)(x y:V)(H2:Hp):Prop
 | mk (a:_) (v:_) (c0:x=.ref a) (c1:DGet H2 a y (some v)) (c2:Q v H2):V7 Q x y H2
def YJ (td ty:TE):TE:=λσ H Q=>td σ H λx H1=>ty σ H1 λy H2=>V7 Q x y H2
def YF (ty td:TE):TE:=λσ H Q=>ty σ H λy H1=>td σ H1 λx H2=>∃a o,x=.ref a/\DGet H2 a y o/\Q (.bl (!o.isSome)) H2
def Z3 (td ty tv:TE):TS:=λD σ H=>tv σ H λv H1=>td σ H1 λx H2=>ty σ H2 λy H3=>∃a H4,x=.ref a/\DPut H3 a y v H4/\D.nx σ H4
section
variable {X:Cx}{o i e value:Expr}{pos pos' tpos:Pos}{td ty tv:TE}
def Ru (n:X.A.units+20<cLine)(E:PE X o td)(p:PE X i ty)(D:Xx i):PE X (.Subscript o i pos) (YJ td ty):=by intro b s j H Q I h;refine YQ PySem.F.slot_dict_getitem.lookup D (thn (E b s j H _ I h) λu m d=>?_);obtain⟨x,l,A,C,q⟩:=d;refine thn (p b m j l _ A q) ?_;rintro iv s2⟨y,r,f,z,a,v,ex,g,w⟩;subst ex;obtain rfl:u=Value.ref a:=C;exact⟨sS f g,sZ n f g z λF s3 B c=>⟨v,r,B,c,w⟩⟩
def NV (l:X.A.units+20<cLine)(n:PE X i ty)(w:PE X o td):PC X .NotIn i o (YF ty td):=by intro b s c H Q I h;refine thn (n b s c H _ I h) ?_;rintro iv j⟨y,d,B,v,p⟩;refine thn (w b j c d _ B p) ?_;rintro u s2⟨x,q,m,A,a,r,ex,g,f⟩;subst ex;obtain rfl:u=Value.ref a:=A;exact sX l m g v λs3 z=>⟨.bl (!r.isSome),q,z,U,f⟩
def Fj (p:X.A.units+20<cLine)(F:PE X o td)(q:PE X i ty)(z:PE X value tv)(E:swapsWith value (some (.Subscript o i pos')) pos.line X.env=pure false) :
  PS X (.Assign [.Subscript o i pos'] value pos) (Z3 td ty tv):=by
 intro b s c H D I h
 refine wpAny_Assign_Subscript (thn (z b s c H _ I h) λr K f=>?_) E
 obtain⟨v,m,Q,G,P⟩:=f
 refine thn (F b K c m _ Q P) λu s2 d=>?_
 obtain⟨x,N,M,A,L⟩:=d
 refine thn (q b s2 c N _ M L) λiv s3 j=>?_
 obtain⟨y,S,C,w,a,B,ex,g,l⟩:=j
 subst ex
 obtain rfl:u=Value.ref a:=A
 exact sW p C g w G λR n=>⟨c,B,n,l⟩
end
def sR (h:Heap)(a:sysModules<h.objs.size):ObjOk P w H (h.push { cls:=.type "dict",data:=.dict #[] }) h.objs.size (.dK []):=
 ⟨Bt _,FD.mpr (Ec (Bd a)),[],.nil,Heap.DictOf.new h⟩
def rZ (h:Heap)(a:sysModules<h.objs.size):ObjOk P w H (h.push { cls:=.type "dict",data:=.dict #[] }) h.objs.size (.dT []):=
 ⟨Bt _,FD.mpr (Ec (Bd a)),[],.nil,_,#[],0,A4 _ U,⟨U,U,U⟩,U,U,nodup_nil⟩
def YH:TE:=λ_ H Q=>∀p,H p=none->Q (.ref p) (upd H p (.dK []))
def YG:TE:=λ_ H Q=>∀p,H p=none->Q (.ref p) (upd H p (.dT []))
section
variable {X:Cx}{pos:Pos}
def IB:PE X (.Dict [] [] pos) YH:=λa s b H Q I h=>wpAny_Dict_empty ⟨.ref s.heap.objs.size,_,I.laid (λ_ _ q=>Ax _ q) (An _) (sR s.heap I.big),U,h _ (I.hok.fresh (An _))⟩
def cA:PE X (.Dict [] [] pos) YG:=λa s b H Q I h=>wpAny_Dict_empty ⟨.ref s.heap.objs.size,_,I.laid (λ_ _ q=>Ax _ q) (An _) (rZ s.heap I.big),U,h _ (I.hok.fresh (An _))⟩
end
structure M1 (X:Cx)(o:Expr)(m:Str)(apos:Pos)(e:Expr)(cpos:Pos):Prop where
 base:attributeBase o m X.env (eval o X.env)=eval o X.env
 few:((backTo cpos (starEach [e] X.env)).all (λx=>!x.1) && (backToKw cpos (keywordEach [] X.env)).all (λx=>x.1.isSome)
  && decide (([e]:List Expr).length+([]:List Keyword).length+(if ([]:List Keyword).isEmpty then 0 else 1)<30))=true
 line:(apos.endLine == cpos.line)=true
 trees:backTo cpos (starEach [e] X.env)=[(false,eval e X.env)]
structure M2 (X:Cx)(o:Expr)(m:Str)(apos:Pos)(e f:Expr)(cpos:Pos):Prop where
 base:attributeBase o m X.env (eval o X.env)=eval o X.env
 few:((backTo cpos (starEach [e,f] X.env)).all (λx=>!x.1) && (backToKw cpos (keywordEach [] X.env)).all (λx=>x.1.isSome)
  && decide (([e,f]:List Expr).length+([]:List Keyword).length+(if ([]:List Keyword).isEmpty then 0 else 1)<30))=true
 line:(apos.endLine == cpos.line)=true
 trees:backTo cpos (starEach [e,f] X.env)=[(false,eval e X.env),(false,eval f X.env)]
def XG (H:Hp)(a:Addr):Prop:=(∃kvs,Rd H a (.dK kvs))\/∃kvs,Rd H a (.dT kvs)
def RX (I:Inv X dg σ H s)(d:XG H a) :
  s.TypeIs (.ref a) "dict" /\ (∀b,Value.ref a=.ref b->∃c,s.heap.get? b=some c/\c.dict=none)/\(a == sysModules)=false:=by
 rcases d with⟨kvs,e⟩ | ⟨kvs,e⟩
 ·obtain⟨_,g,vs,_,dd⟩:=Fz I.hok e;refine⟨dd.typeIs,λb q=>?_,g⟩;cases q;obtain⟨c,_,_,f,h,_⟩:=dd;exact⟨c,f,h.2.1⟩
 obtain⟨_,g,xs,_,dd⟩:=Jh I.hok e
 refine⟨dd.typeIs,λb q=>?_,g⟩
 cases q
 obtain⟨c,_,_,f,h,_⟩:=dd
 exact⟨c,f,h.2.1⟩
section
variable {X:Cx}{dg:List (Addr×Obj)}{σ:St}{H:Hp}{s:Shared}{a:Addr}{y d:V}{u r:Value}{o:Option V}{A:Around}{E:Value->Shared->Prop}
def tE (n:A.units+20<cLine)(I:Inv X dg σ H s)(g:DGet H a y o)(m:RelV y u)(rd:RelV d r)(h:∀j s',Inv X dg σ H s'->RelV (o.getD d) j->Q j s') :
  wpAny (model X.prog X.w) A (call (.builtin "dict.get") [.ref a,u,r]) Q E s:=by
 rcases g with⟨kvs,k,e,i,l⟩ | ⟨kvs,k,b,e,i,p,l⟩
 ·subst i;obtain⟨z,f,vs,c,dd⟩:=Fz I.hok e;refine Gn Mt dd.typeIs Te (PySem.F.args_dict_get_3 _ _ _) (meets_dict_get_default (B2 X.prog X.w) a (Fq m) f r) ⟨_,dd.mapOf,h _ _ (I.tok _) ?_⟩;rw[l];exact(c.val k).getD rd
 subst i
 cases m
 obtain⟨z,f,xs,c,dd⟩:=Jh I.hok e
 refine Gn Mt dd.typeIs Te (PySem.F.args_dict_get_3 _ _ _) (meetsH_dict_get_default (WK.dataKind X.prog X.w) a b f r) ⟨WK.room_in1 n,k,xs,LN I.hok p,dd,h _ _ (I.tok _) ?_⟩
 rw[l]
 exact(c.val k).getD rd
end
def YI (td ty tx:TE):TE:=λσ H Q=>td σ H λx H1=>∃a,x=.ref a/\XG H1 a/\ty σ H1 λy H2=>tx σ H2 λz H3=>∃o,DGet H3 a y o/\Q (o.getD z) H3
section
variable {X:Cx}{o e f:Expr}{apos cpos:Pos}{td ty tx:TE}
def cB (v:X.A.units+20<cLine)(C:PE X o td)(n:PE X e ty)(G:PE X f tx)(m:M2 X o "get" apos e f cpos):PE X (.Call (.Attribute o "get" apos) [e,f] [] cpos) (YI td ty tx):=by intro b s j H Q I h;refine wpAny_Call_method m.base m.few m.line Jn Mt PySem.F.type_dict_get (thn (C b s j H _ I h) λu K i=>?_);obtain⟨x,q,l,A,a,ex,d,N⟩:=i;subst ex;obtain rfl:u=Value.ref a:=A;obtain⟨D,R,_⟩:=RX l d;refine⟨D,R,?_⟩;rw[m.trees];exact JG U (OS (HL (thn (n b K j q _ l N) λiv s2 ⟨y,M,L,w,F⟩=>HL (thn (G b s2 j M _ L F) λfv s3 ⟨z,P,B,E,T,g,p⟩=>JB (tE v B g w E λW S r c=>⟨_,P,r,c,p⟩)))))
end
end L2
namespace Att
open PySem PySem.W PySem.Calls PyProof.Rows
def pQ :∀(ns:List Int) (vs:List Value),WellAll P h vs (ns.map WData.int)->IntsAre vs ns:=by
 intro ns;induction ns with
 | nil=>intro vs w;rw[FF]at w;cases w;exact .nil
 | cons n ns ih=>
  intro vs w;rw[Bg]at w;cases w with
  | cons a b=>cases a;exact .cons _ _ (ih _ b)
def Ze {l:OpenLaw}{n:Nat}(m:l.most=some n){P:Params}{h:Heap}{args:List WData}{b:List Value}
  (c:l.row.toRowW.claim.pre args=true)(i:WellAll P h b args) :
  ∃a vs ns,b=[Value.ref a]/\args=[WData.list (ns.map WData.int)]/\h.get? a=some { cls:=.type "list",data:=.seq vs.toArray }/\IntsAre vs ns/\ns.length<=n:=by
 have o:=(pre_splitW c).2
 obtain⟨d,r,rfl,j,p⟩:=hasAllW_cons ((pre_splitW c).1)
 obtain rfl:=hasAllW_nil p
 obtain⟨xs,rfl,s⟩:=hasW_list j
 obtain⟨ns,rfl⟩:=items_int s
 have e:ns.length<=n:=by
  have f:(WTm.not (.lt (.lit (.int (n:Int))) (.len (.arg 0)))).holds [] { args:=[.list (ns.map .int)] } = true:=by have f:=(holds_andW o).1;rw[m]at f;exact f
  have g:=condW_of f (w_not (w_lt w_lit (w_len_list (w_arg U))));rw[Ah]at g;refine le_of_not_lt λq=>?_
  first
   | (rw[AV Ψ]at g;exact absurd g Ξ)
   | (simp at g;lia)
 cases i with
 | cons w1 w2=>
  cases w2;cases w1 with
  | list ho hall=>exact⟨_,_,ns,U,U,ho,pQ ns _ hall,e⟩
def bH (l:OpenLaw)(args:List WData):l.row.toRowW.claim.post args (.bool true) args=true:=
 postW_of
  (show WShape.has [] (.bool true) .bool=true by first | rfl | decide | simp[WShape.has,WShape.arms,WShape.armsAll])
  (show(WTm.eq .res (.lit (.bool true))).value [] { args:=args,res:=some (.bool true),after:=args } = some (.bool (true == true)) from w_eq_bool (w_res U) w_lit) U
def attach_call {l:OpenLaw}{n:Nat}{q:Program}{g:List Str}{D:(Str->Option Value)->Heap->Prop}{C:World->Heap->Prop}{d:DefRec}
  (P:l.most=some n)(v:d.params.defaults=[])
  (call:∀(w:World) (e c:Shared) (mg A:Str->Option Value) (m:Addr) (o:Obj) (z u i:Value) (a:Addr) (vs:List Value) (ns:List Int),Ground q g [] D w e mg A c.heap->C w c.heap -> c.heap.get? m=some o->o.data=.func (docDef d.name d.params d.body d.scope z u i)->c.heap.CodeRec u d.name->mg d.name=some (.ref m) -> c.heap.get? a=some { cls:=.type "list",data:=.seq vs.toArray }->IntsAre vs ns->ns.length<=n->c.gens=#[] -> codeAny (model l.prog w) callerA (.call (.ref m) ⟨[.ref a],[]⟩) (λr s'=>r=.ok (.ret (.bool true))/\OldK c.heap s'.heap/\s'.os=c.os/\AllBare s'.gens) c) :
  WalkO q g D C l.row.toRowW d [] (λf vs=>PySem.call f vs):=by
 intro w e c mg A G b m o z u i M kV N T B hD y Q args E X s F W x I
 obtain rfl:M=.none:=Dflts.none hD v
 obtain rfl:kV=.none:=Dflts.noKw hD
 obtain⟨a,vs,ns,rfl,rfl,j,h,p⟩:=Ze P s x
 refine enter_call (FJ (call w e c mg A m o z u i a vs ns G b N (fd_plain T) B y j h p Q) λr s' S=>?_)
 obtain⟨rfl,K,R,H⟩:=S
 exact⟨.inl ⟨.bool true,.bool true,[],U,λ_=>U,.bool true,bH l _,λ_=>⟨List.Pairwise.nil,λ_ L=>(nomatch L)⟩⟩,K,R,H⟩
end Att
namespace L2
open PySem PySem.Spec PyProof.Rows
def Pk:∀{vs:List Value}{ns:List Int},IntsAre vs ns->Vals (ns.map V.int) vs
  :=by
 intro v n h;induction h with
 | nil=>exact .nil
 | cons n t h i=>exact .cons ⟨t,U⟩ i
def TH (H:Hp):Prop:=∀b,H b=none\/∃o xs,H b=some (.frz o (.lst xs))
def oH {P:Program}{w:World}{K:W.Frag}{mg S:Str->Option Value}{CX:Ef}{k:Nat}{M a:Addr}{X:FuncData}{x:Str}{sp:Sp}{s₁:Shared}{vs:List Value}{ns:List Int}
  (T:K.In s₁.heap)(A:s₁.heap.Ns mainGlobals mg)(f:s₁.heap.Ns builtinsNs S)(N:∀x:Str,x ≠ "__name__" -> S x=bootBuiltins x)(D:s₁.heap.NoLimit)(hg:s₁.gens=#[])
  (G:s₁.heap.get? a=some { cls:=.type "list",data:=.seq vs.toArray })(hi:IntsAre vs ns)(hl:ns.length<=sizeLine)(hr:Room k callerA)
  (F:∀base:Heap,K.In base->base.Ns mainGlobals mg->Aj P w K mg base CX k M X [x] sp)(j:∀(s:Shared) (u:Value),BindsTo s X ⟨[u],[]⟩ [(x,u)])
  (I:∀H:Hp,TH H->Y K H a (ns.map V.int)->sp [.ref a] H (λv _=>v=.bl true) λ_ _ _=>False)
  (R:∀H e s',CX [] H s₁ (λ_ _ _=>False) e s'->False) :
  codeAny (model P w) callerA (.call (.ref M) ⟨[.ref a],[]⟩) (λr s'=>r=.ok (.ret (.bool true))/\OldK s₁.heap s'.heap/\s'.os=s₁.os/\AllBare s'.gens) s₁:=by
 have rv:=Pk hi
 have i:∀H:Hp,TH H->Y K H a (ns.map V.int)->HOk P w H s₁.heap->(∀b,H b≠none->b=a)->(H a≠none->K.lookup a=none) ->
   codeAny (model P w) callerA (.call (.ref M) ⟨[.ref a],[]⟩) (λr s'=>r=.ok (.ret (.bool true))/\OldK s₁.heap s'.heap/\s'.os=s₁.os/\AllBare s'.gens) s₁:=by
  intro H hO hS l hA hK
  have c:∀{b:Addr}{o:Obj},s₁.heap.get? b=some o->H b=none->(G9 s₁.heap H).get? b=some o:=λe n=>qF e n
  have L:∀{b:Addr}{o:Obj}{E:Array DictEntry}{ep:Nat},s₁.heap.get? b=some o->o.data=.dict E ep->H b=none:=λ{b o E ep} e d=>by
   cases q:H b with
   | none=>rfl
   | some u=>
    have Q:=hA b (by rw[q];simp)
    subst Q
    rw[G]at e;cases e
    have d':=d
    cases d'
  have g:∀{b:Addr}{m:Str->Option Value},s₁.heap.Ns b m->(G9 s₁.heap H).Ns b m:=λ{b m} ⟨o,E,ep,e,d,r⟩=>⟨o,E,ep,c e (L e d),d,r⟩
  have p:=λb o e=>c (T b o e) (by
   cases q:H b with
   | none=>rfl
   | some u=>
    have Q:=hA b (by rw[q];simp)
    subst Q
    rw[hK (by rw[q];simp)]at e;cases e)
  have e0:Env0 P w K mg (G9 s₁.heap H) callerA [] s₁ H:=⟨U,⟨p,g A,⟨S,g f,N⟩,let ⟨mc,h1,h2⟩:=D;⟨mc,g h1,h2⟩⟩,λb o e=>iO e,le_of_eq (qE _ _),trivial,λb f=>absurd (show b∈([]:List Addr) from f) Θ,l,.of_eq hg⟩
  refine FJ ((F _ p (g A)).run callerA [] s₁ H ⟨[.ref a],[]⟩ [.ref a] [.ref a] _ _ hr e0 (j s₁ (.ref a)) (.cons U .nil) (I H hO hS)) λr s' h=>?_
  cases r with
  | error e=>exact(R H e s' h).elim
  | ok fl=>
   cases fl with
   | next=>exact False.elim h
   | brk=>exact False.elim h
   | cont=>exact False.elim h
   | ret u=>
    obtain⟨v,H',os,B,un,C,r',q⟩:=h
    have q':v=.bl true:=q
    subst q'
    obtain rfl:u=Value.bool true:=r'
    refine⟨U,OldK.of_keep λb o e=>?_,os,B⟩
    cases q:H b with
    | none=>exact un.keep b o e q (by intro z;exact absurd (show b∈([]:List Addr) from z) Θ) Θ
    | some u=>
     rcases hO b with z | ⟨ob,xs,z⟩
     ·rw[q]at z;cases z
     have z2:=un.frzs b ob _ z
     obtain⟨e1,_⟩:=l b _ z
     obtain⟨e2,_⟩:=C b _ z2
     rw[e]at e1;cases e1
     exact e2
 cases hk:K.lookup a with
 | some o=>have e:=T a o hk;rw[G]at e;cases e;refine i (λ_=>none) (λ_=>.inl U) (.inr ⟨_,vs.toArray,_,hk,U,U,U,by rw[Bx,hi.length];exact hl,by simpa using rv⟩) (λb u z=>by have y:(none:Option HO)=some u:=z;cases y) (λb z=>absurd U z) λz=>absurd U z
 | none=>
  refine i (λb=>if b=a then some (.frz { cls:=.type "list",data:=.seq vs.toArray } (.lst (ns.map V.int)))else none) (λb=>?_) (.inl (.inr ⟨{ cls:=.type "list",data:=.seq vs.toArray },As U⟩)) (λb u z=>?_) (λb z=>?_) λ_=>hk
  ·by_cases f:b=a
   ·exact .inr ⟨_,_,As f⟩
   exact .inl (Ag f)
  ·by_cases f:b=a
   ·have y:=(As f).symm.trans z;cases y;subst f;exact⟨G,by rw[Ah];exact hl,vs,_,rv,G⟩
   have y:=(Ag f).symm.trans z;cases y
  by_cases f:b=a
  ·exact f
  exact absurd (Ag f) z
def walk_of {l:PySem.W.OpenLaw}{n k:Nat}{q:Program}{g:List Str}{N:(Str->Option Value)->Heap->Prop}{D:World->Heap->Prop}{d:DefRec}{K:Params->W.Frag}{M:World->Ef}{L:World->Sp}{x:Str}
  (hn:l.most=some n)(B:n<=sizeLine)(r:d.params.defaults=[])(S:Room k callerA)
  (hY:∀(w:World) (h:Heap),D w h->(K w.params).In h)
  (F:∀(w:World) (mg:Str->Option Value) (p:Addr) (h:Heap),(K w.params).In h->h.Ns mainGlobals mg->mg d.name=some (.ref p) -> ∃y:FuncData,(∀(s:Shared) (u:Value),BindsTo s y ⟨[u],[]⟩ [(x,u)]) /\ ∀base:Heap,(K w.params).In base->base.Ns mainGlobals mg->Aj l.prog w (K w.params) mg base (M w) k p y [x] (L w))
  (z:∀(w:World) (H:Hp) (a:Addr) (ns:List Int),ns.length<=n->TH H->Y (K w.params) H a (ns.map V.int)->L w [.ref a] H (λv _=>v=.bl true) λ_ _ _=>False)
  (C:∀(w:World) (H:Hp) (s:Shared) (e:Value) (s':Shared),M w [] H s (λ_ _ _=>False) e s'->False) :
  PySem.W.WalkO q g N D l.row.toRowW d [] (λf vs=>PySem.call f vs):=by
 refine Att.attach_call hn r λw I m mg mb p o pm cd a0 a vs ns G b ho hd T A j i c hg=>?_
 have E:=hY w _ b
 obtain⟨y,P,Q⟩:=F w mg p _ E G.T.g A
 exact oH E G.T.g G.T.b G.T.builtins G.T.nolimit hg j i (Ed c B) S Q P (λH X R=>z w H a ns c X R) λH e s'=>C w H m e s'
def CI (s:Stmt)(j:Nat):Stmt:=match s with
 | .ClassDef _ _ _ body _ _ _ _ _ _ _=>body.getD j (.Pass ⟨0,0,0,0⟩)
 | _=>.Pass ⟨0,0,0,0⟩
def Dr (s:Stmt):Arguments:=match s with
 | .FunctionDef _ a _ _ _ _ _ _ _ _=>a
 | _=>{ posonlyargs:=[],args:=[],vararg:=none,kwonlyargs:=[],kw_defaults:=[],kwarg:=none,defaults:=[] }
def CB (s:Stmt):List Stmt:=match s with
 | .FunctionDef _ _ b _ _ _ _ _ _ _=>b
 | _=>[]
def Ak (s:Stmt):Scope:=match s with
 | .FunctionDef _ _ _ _ _ _ sc _ _ _=>sc
 | _=>{ kind:=.function,names:=[],isGenerator:=false,isCoroutine:=false }
abbrev CX0:Ef:=λ_ _ _ _ _ _=>False
abbrev E0:XK:=λ_ _ _=>False
def Aq :Em CX0 X E0:=λ_ _ _ _ _ _ _ h=>h.elim
structure Fun (K:W.Frag)(x qual:Str)(st:Stmt)(f:Addr)(fd:FuncData):Prop where
 ex:∃(oc:Value) (od:Option Addr) (kV doc pm:Value) (an:Option Addr) (di ct:Value) (osl:Array (Option Value)),
  fd=PySem.W.fnOf x qual (Dr st) (CB st) (Ak st) .none kV doc pm an di ct/\K.lookup f=some ⟨oc,od,.func fd,osl⟩/\PySem.W.codeIn K di qual=true
 kp:PySem.W.keepIn K (.ref f)=true
section
variable {P:Program}{w:World}{K:W.Frag}{mg:Str->Option Value}{base:Heap}
def Fun.ok {x b:Str}{st:Stmt}{f:Addr}{i:FuncData}{N ps:List Str}{k:Nat}{sp:Sp}(F:Fun K x b st f i)(S:Aw N ps (Ak st))(len:∀vs H Q E,sp vs H Q E->vs.length=ps.length)
  (d:∀(c:Value) (A:Around) (a:List Env) (s:Shared) (H:Hp) (vs:List V) (Q:VK) (E:XK),Room k (A.deeper (envOfC b (Ak st) s.heap.objs.size f c))->sp vs H Q E -> ∃t,PSs (C9 CX0 P w K mg base N b (Ak st) f c A a s H E).nox (CB st) t/\t { nx:=λ_ H'=>Q .non H',rt:=Q } (start N vs) H):Aj P w K mg base CX0 (k+1) f i ps sp:=by
 obtain⟨r,p,kV,n,u,o,c,ct,l,rfl,j,g⟩:=F.ex
 refine R4 j g S len λA a s H vs Q E m e=>?_
 obtain⟨t,h,q⟩:=d c A a s H vs Q E m e
 exact⟨t,h.nox,q⟩
def Fun.binds {x a:Str}{st:Stmt}{f:Addr}{g:FuncData}{ps:List Str}(F:Fun K x a st f g)
  (h:∀(kV c e:Value) (d:Option Addr) (b ct:Value) (us:List Value),us.length=ps.length->bindArgs (PySem.W.fnOf x a (Dr st) (CB st) (Ak st) .none kV c e d b ct) ⟨us,[]⟩=pure (ps.zip us)):Binds K g ps []:=by
 obtain⟨n,l,kV,c,e,d,b,ct,i,rfl,m,j⟩:=F.ex
 exact .all (h kV c e d b ct)
def Fx {x a:Str}{st:Stmt}{f:Addr}{j:Value}{i h:Option Addr}{e:Array (Option Value)}{kV d g b ct:Value}(l:K.lookup f=some ⟨j,i,.func (PySem.W.fnOf x a (Dr st) (CB st) (Ak st) .none kV d g h b ct),e⟩)
  (c:PySem.W.codeIn K b a=true)(k:PySem.W.keepIn K (.ref f)=true):Fun K x a st f (PySem.W.fnOf x a (Dr st) (CB st) (Ak st) .none kV d g h b ct):=⟨⟨j,i,kV,d,g,h,b,ct,e,U,l,c⟩,k⟩
end
def Dh {k:Nat}(a:Room k A):A.units+20<cLine:=lt_of_le_of_lt (Nat.add_le_add_left (by decide:20<=64) _) a.units
section
variable {X:Cx}
def pv (i:Nat) (d:X.N[i]? = some x:=by rfl)(b:TB X.env.scope x:=by first | exact Or.inl U | exact DN (Or.inl U) | exact DN (DN U))(c:(x == ("__debug__" : Str))=false:=by decide)
  (a:(x == ("__classdict__" : Str))=false:=by decide):PE X (.Name x pos) (Ia i):=bS d b c a
def Ow:Ce X (.builtin "len") (λxs H Q=>∃a kvs,xs=[V.ref a]/\H a=some (.dK kvs)/\Q (.int kvs.length) H):=by rintro b s f H xs us Q I r⟨a,kvs,rfl,c,q⟩;obtain⟨u,rfl,e⟩:=Cm r;cases e;exact sY I (.inl c) λt s' d=>⟨.int kvs.length,H,d,⟨t,U⟩,q⟩
end
def A7 {A B:Prop}(h:B):if false=true then A else B:=by rw[Ag BI];exact h
def Bw {A B:Prop}(h:A):if true=true then A else B:=by rw[As rfl];exact h
def Bq {c A B:Prop}[Decidable c](a:c->A)(b:¬c->B):if c then A else B:=by
 by_cases h:c
 ·rw[As h];exact a h
 rw[Ag h];exact b h
def pM {c A B:Prop}[Decidable c](a:c)(h:B):if (!decide c)=true then A else B:=by rw[AV a];exact A7 h
def Same (H H':Hp):Prop:=∀b o,H b=some o->H' b=some o
def Same.refl (H:Hp):Same H H:=λ_ _ h=>h
def Same.trans (a:Same H H1)(b:Same H1 H2):Same H H2:=λc o h=>b c o (a c o h)
def Same.free (e:Same H H') (h:H' l=Option.none):H l=Option.none:=by
 cases q:H l with
 | none=>rfl
 | some o=>rw[e l o q]at h;cases h
def Same.seq {K:W.Frag}{H H':Hp}{a:Addr}{xs:List V}(e:Same H H')(h:Y K H a xs):Y K H' a xs:=by
 rcases h with(h | ⟨o,h⟩) | h
 ·exact .inl (.inl (e _ _ h))
 ·exact .inl (.inr ⟨o,e _ _ h⟩)
 exact .inr h
section
variable {κ:Type} [DecidableEq κ]
def MD {k:κ} (h:Bj kvs k=some v):k∈kvs.map (·.1):=by
 have q:(kvs.any λa=>decide (a.1=k))=true:=by rw[HY,h];all_goals rfl
 obtain⟨p,b,e⟩:=Hn.mp q;exact AK.mpr ⟨p,b,Bp e⟩
theorem VC:∀{l:List κ}{k:κ},l.Nodup->¬k∈l->(l++[k]).Nodup
 | [],k,_,_=>by simp
 | a::r,k,h,hk=>by
  obtain⟨b,c⟩:=Du.mp h;refine Du.mpr ⟨λm=>?_,VC c λm=>hk (Ar.mpr (DN m))⟩;rcases(Br.mp m)with q | q
  ·exact b q
  exact hk (Ar.mpr (Or.inl (AF.mp q).symm))
end
def Cs (cells:List (Str×Addr)):List (Str×NameKind)->List (Str×Addr)->List (Str×Addr)
 | [],cs=>cs
 | (n,k)::r,cs=>Cs cells r (if k == NameKind.free then(n,(cells.lookup n).getD 0)::cs else cs)
theorem WZ :∀(ns:List (Str×NameKind)) (cs:List (Str×Addr)),(∀y∈ns,y.2=NameKind.free->(env.cells.lookup y.1).isSome=true) ->
  (forIn ns cs λ(p:Str×NameKind) (r:List (Str×Addr))=>if (p.2 == NameKind.free)=true then(do let a <- cellOf env p.1;pure (ForInStep.yield ((p.1,a)::r)):Sem _)else pure (ForInStep.yield r))=(pure (Cs env.cells ns cs):Sem _)
 | [],cs,_=>by simp[Cs]
 | (n,k)::r,cs,h=>by
  have d:=λb=>WZ r b λy j=>h y (Bc _ j);rw[SH];by_cases f:k=NameKind.free
  ·subst f;have i:=h (n,NameKind.free) Bb U;cases e:env.cells.lookup n with
   | none=>rw[e]at i;cases i
   | some c=>
    have e1:cellOf env n=pure c:=by unfold cellOf;rw[e]
    have e2:Cs env.cells ((n,NameKind.free)::r) cs=Cs env.cells r ((n,c)::cs):=by simp[Cs,e]
    rw[e2,<- d ((n,c)::cs)];(simp[Hy,Dx]);rw[e1];rfl
  have g:(k == NameKind.free)=false:=by simpa using f
  have e2:Cs env.cells ((n,k)::r) cs=Cs env.cells r cs:=by simp[Cs,g]
  rw[e2,<- d cs];(simp only[g,DZ,De]);rfl
def Sh (h:∀y∈scope.names,y.2=NameKind.free->(env.cells.lookup y.1).isSome=true):closureFor scope env=pure (Cs env.cells scope.names []):=by unfold closureFor;simp only[bind_pure];exact (WZ (env:=env) scope.names [] h)
theorem WX :∀{ns:List (Str×NameKind)}{cs:List (Str×Addr)},(∀y∈ns,y.2=NameKind.free->(cells.lookup y.1).isSome=true)->(cs.lookup x=some c->cells.lookup x=some c) ->
  (Cs cells ns cs).lookup x=some c->cells.lookup x=some c
 | [],_,_,h,e=>h e
 | (n,k)::r,cs,hn,h,e=>by
  refine WX (λy g=>hn y (Bc _ g)) ?_ e;by_cases b:k=NameKind.free
  ·subst b;(simp[Hy,Dx]);intro q;rw[Gm]at q;by_cases a:x=n
   ·subst a;have f:=hn (x,NameKind.free) Bb U;simp only[Hy]at q;cases e1:cells.lookup x with
    | none=>rw[e1]at f;cases f
    | some d=>rw[e1]at q;exact q
   have i:(x == n)=false:=by simpa using a
   rw[i]at q;exact h q
  (simp[(by simpa using b),DZ,De]);exact h
theorem WY :∀{ns:List (Str×NameKind)}{cs:List (Str×Addr)},(cs.lookup x).isSome=true->((Cs cells ns cs).lookup x).isSome=true
 | [],_,h=>h
 | (n,k)::r,cs,h=>by
  apply WY (ns:=r);split
  ·rw[Gm];split
   ·rfl
   exact h
  exact h
theorem Si :∀{ns:List (Str×NameKind)}{cs:List (Str×Addr)},(x,NameKind.free)∈ns->((Cs cells ns cs).lookup x).isSome=true
 | [],_,h=>nomatch h
 | (n,k)::r,cs,h=>by
  rcases(Ar.mp h)with e | e
  ·cases e;apply WY (ns:=r);simp
  exact Si (ns:=r) e
theorem NO {env:Env}{x:Str}{k:NameKind}:∀{ns:List (Str×NameKind)},(∀y∈ns,y.2≠NameKind.cell)->k=NameKind.cell\/k=NameKind.free ->
  (ns.map λ(p:Str×NameKind)=>if (p.2 == NameKind.free && env.scope.kind == .function && env.kindOf p.1 == some .cell)then(p.1,NameKind.cell)else(p.1,p.2)).lookup x=some k->(x,NameKind.free)∈ns
 | [],_,_,e=>by simp at e
 | (n,j)::r,hn,hk,e=>by
  rw[Bg]at e;by_cases b:x=n
  ·subst b
   have f:j=NameKind.free:=by
    by_cases a:(j == NameKind.free && env.scope.kind == .function && env.kindOf x == some .cell)=true
    ·simp only[Co,E7]at a;exact a.1.1
    simp only[a]at e;simp at e;subst e;rcases hk with q | q
    ·exact absurd q (hn (x,j) Bb)
    exact q
   subst f;exact Bb
  refine Bc _ (NO (env:=env) (λy d=>hn y (Bc _ d)) hk ?_);by_cases a:(j == NameKind.free && env.scope.kind == .function && env.kindOf n == some .cell)=true
  ·simp only[a,Dx]at e;rw[Gm]at e;have c:(x == n)=false:=by simpa using b
   rw[c]at e;exact e
  simp only[a]at e;simp at e;rw[Gm]at e;have c:(x == n)=false:=by simpa using b
  rw[c]at e;simpa using e
def Do (X:Cx)(N:List Str)(scope:Scope)(C:Addr)(s:Shared)(H:Hp)(fp:List Addr):Cx where
 prog:=X.prog
 w:=X.w
 K:=X.K
 mg:=X.mg
 base:=X.base
 A:=X.A
 N:=N
 s₀:=s
 H₀:=H
 env:=compEnvC scope (Cs X.env.cells scope.names []) C X.env
 dh:=X.stack
 stack:=X.stack
 ex:=fp
 fn:=λ_=>false
 calm:=X.calm
 pn:=[]
 xe:=λ_ _=>False
def EE (n:Nat)(js:List Nat)(σ:St):St:=replicate n none++js.map λj=>(σ[j]?).getD none
structure LcOk (X:Cx)(N:List Str)(sc scope:Scope)(own:List Str)(fr:List Str)(js:List Nat):Prop where
 around:X.env.scope=sc
 names:N=own++fr
 kind:scope.kind=.function
 okind:sc.kind=.function
 nocell:∀y∈scope.names,y.2≠NameKind.cell
 free:∀y∈scope.names,y.2=NameKind.free->sc.names.lookup y.1=some NameKind.cell
 loc:∀y∈scope.names,y.2=NameKind.local->scope.names.lookup y.1=some NameKind.local
 at':js.map (λj=>X.N[j]?)=fr.map some
 cap:∀x∈fr,sc.names.lookup x=some NameKind.cell/\scope.names.lookup x=some NameKind.free
theorem UK {env:Env}{x:Str}(g:env.scope.kind=.function)(f:env.kindOf x=some NameKind.cell):∀{ns:List (Str×NameKind)},ns.lookup x=some NameKind.free ->
  (ns.map λ(p:Str×NameKind)=>if (p.2 == NameKind.free && env.scope.kind == .function && env.kindOf p.1 == some .cell)then(p.1,NameKind.cell)else(p.1,p.2)).lookup x=some NameKind.cell
 | [],e=>by simp at e
 | (n,j)::r,e=>by
  rw[Bg];rw[Gm]at e;by_cases d:x=n
  ·subst d;simp[Hy]at e;cases e;have a:(NameKind.free == NameKind.free && env.scope.kind == .function && env.kindOf x == some .cell)=true:=by rw[g,f];rfl
   simp only[a,Dx];rw[Gm];simp
  have b:(x == n)=false:=by simpa using d
  rw[b]at e;have c:=UK g f e;by_cases a:(j == NameKind.free && env.scope.kind == .function && env.kindOf n == some .cell)=true
  ·simp only[a,Dx];rw[Gm,b];exact c
  rw[Ag a,Gm,b];exact c
def LcOk.cellAt (L:LcOk X N sc scope own fr js)(ok:X.Ok):∀y∈scope.names,y.2=NameKind.free->(X.env.cells.lookup y.1).isSome=true:=λy a b=>by obtain⟨c,e⟩:=ok.has y.1 (.inl (show X.env.scope.names.lookup y.1=_ by rw[L.around];exact L.free y a b));rw[e];rfl
def LcOk.sub (L:LcOk X N sc scope own fr js)(ok:X.Ok) (e:(Cs X.env.cells scope.names []).lookup x=some c):X.env.cells.lookup x=some c:=
 WX (L.cellAt ok) (λz=>by simp at z) e
def LcOk.len (L:LcOk X N sc scope own fr js):js.length=fr.length:=by have:=A5 List.length L.at';simpa using this
theorem nZ (L:LcOk X N sc scope own fr js)(I:Inv X dg σ H s)(d:∀b∈fp,FpOk X dg H b)
  (j:∀b∈fp,b<s.heap.objs.size) (f:s.heap.objs.size<=C):(Do X N scope C s H fp).Ok where
 mod:=I.mod
 kind:=L.kind
 glob:=I.ok.glob
 blt:=I.ok.blt
 above:=f
 inj:=λx y c e1 e2=>I.ok.inj x y c (L.sub I.ok e1) (L.sub I.ok e2)
 has:=λx g=>by
  have h:(x,NameKind.free)∈scope.names:=by
   rcases g with q | q
   ·exact NO L.nocell (.inl U) q
   exact NO L.nocell (.inr U) q
  have:=Si (cells:=X.env.cells) (cs:=[]) h;cases e:(Cs X.env.cells scope.names []).lookup x with
  | none=>rw[e]at this;cases this
  | some c=>exact⟨c,e⟩
 cab:=λ_ _ z _=>nomatch z
 hd:=I.ok.hd
 frames:=I.ok.frames
 stk:=.inl U
 exf:=λb a=>⟨Bd (Cp (j b a) f),λx c e=>(d b a).2.2.2.2.1 x c (L.sub I.ok e)⟩
 bs:=I.bs
 bsz:=Ed I.ok.bsz I.sz
 noex:=λb o e a=>by
  rcases(d b a).2.2.2.1 with q | q
  ·exact I.ok.noex b o e q
  exact absurd (Cp (AH (I.ok.bs b o e).1) q) (CM _)
 exfs:=λb a i=>by
  rcases Ar.mp (I.stkSub b i)with q | q
  ·exact(d b a).2.1 q
  exact(d b a).2.2.1 q
 funs:=I.stack
 frf:=I.stkFree
def getD_none (h:o.getD none=some v):o=some (some v):=by
 cases o with
 | none=>cases h
 | some u=>cases u with
  | none=>cases h
  | some w=>cases h;rfl
def tQ (e:(EE n js σ)[i]? = some (some v)):∃k j,i=n+k/\js[k]? = some j/\σ[j]? = some (some v):=by
 unfold EE at e;by_cases a:i<n
 ·rw[CQ (by simpa using a)]at e;rw[SW]at e;split at e <;> cases e
 rw[DK (by simpa using a)]at e;simp only[Jz,AU]at e;cases q:js[i-n]? with
 | none=>rw[q]at e;cases e
 | some j=>rw[q]at e;exact⟨i-n,j,Ψ,q,getD_none (Bh e)⟩
def nX (L:LcOk X N sc scope own fr js)(I:Inv X dg σ H s)(T:∀b∈fp,FpOk X dg H b)
  (Q:∀b∈fp,b<s.heap.objs.size) {tk:Nat}(R:h'.Ns (s.heap.objs.size+1) m)(h:∀b o,s.heap.get? b=some o->h'.get? b=some o)
  (M:h'.get? s.heap.objs.size=some { cls:=.type "list",data:=.seq ([]:List Value).toArray }) :
  Inv (Do X N scope (s.heap.objs.size+1) s H fp) [] (EE own.length js σ) (upd H s.heap.objs.size (.lst [])) { s with heap:=h',toks:=tk }:=by
 have fresh:∀a,s.heap.objs.size<=a->H a=none:=λa W=>I.hok.fresh W
 have cellAt:∀x c,(Cs X.env.cells scope.names []).lookup x=some c->∃v,s.heap.IsCell c v:=λx c e=>I.cell x c (L.sub I.ok e)
 refine⟨nZ L I T Q (Dm _),U,I.bare,Un.laid h (An _) (fresh _ (An _)),⟨m,R,λi x v e1 e2 e3=>?_⟩,λx c e=>?_,?_,λx c e=>?_,λp hp=>?_,I.hok.laid h (An _) ?_,?_⟩
 ·obtain⟨k,j,rfl,hj,P⟩:=tQ e2;have B:(own++fr)[own.length+k]? = some x:=by have g:=e1;rw[L.names]at g;exact g
  rw[DK Ψ,Nat.add_sub_cancel_left]at B;have S:x∈fr:=Cc B;have A:X.N[j]? = some x:=by have:=A5 (λl=>l[k]?) L.at';simp only[AU,hj,B,map_some]at this;exact Bh this
  obtain⟨w,y⟩:=L.cap x S;have C:X.env.kindOf x=some NameKind.cell:=by show X.env.scope.names.lookup x=_;rw[L.around];exact w
  have F:(relabel scope X.env).names.lookup x=some NameKind.cell:=UK (L.around▸L.okind) C y;obtain⟨m0,_,q⟩:=I.loc;obtain⟨u,r,l⟩:=q j x v A P (.inr (.inl C));refine⟨u,r,.inr ⟨.inl F,?_⟩⟩;rcases l with⟨D,_⟩ | ⟨_,c,K,z⟩
  ·rw[C]at D;cases D
  have E:((Cs X.env.cells scope.names []).lookup x).isSome=true:=Si (NO L.nocell (.inl U) F);cases e:(Cs X.env.cells scope.names []).lookup x with
  | none=>rw[e]at E;cases E
  | some d=>have G:=L.sub I.ok e;rw[K]at G;cases G;obtain⟨o,f,n⟩:=z;exact⟨c,e,o,h c o f,n⟩
 ·obtain⟨v,o,f,n⟩:=cellAt x c e;exact⟨v,o,h c o f,n⟩
 ·show upd H s.heap.objs.size _ (s.heap.objs.size+1)=none;rw[Ao (Nat.succ_ne_self _)];exact fresh _ (Dm _)
 ·obtain⟨v,o,f,n⟩:=cellAt x c e;rw[Ao (Bd (AH f))];exact I.freeC x c (L.sub I.ok e)
 ·exact nomatch hp
 ·exact⟨Bt _,[],0,.nil,M⟩
 show(EE own.length js σ).length=N.length
 rw[L.names]
 simp[EE,L.len]
def HN (X:Cx)(ifs:List Expr)(t:TT):Prop:=
 ∀(dg:List (Addr×Obj)) (s:Shared) (σ:St) (H:Hp) (Q:Bool->Hp->Prop),Inv X dg σ H s->t σ H Q ->
  wpAny (model X.prog X.w) X.A (forIn ifs true λc r=>if r=true then do let ok <- isTrue c X.env (eval c X.env);pure (ForInStep.yield ok)else pure (ForInStep.yield r)) (TP X dg σ Q) X.xe s
def Ud:TT:=λ_ H Q=>Q true H
def BV :HN X [] Ud:=λ_ _ _ H _ I h=>wpAny_tests_nil ⟨H,I,h⟩
def GM {t:TT}(h:PT X c t):HN X [c] t:=λa s b H Q I q=>wpAny_tests_one (h a s b H Q I q)
def GB (J:It)(D:Addr)(σ0:St)(g:TG)(tc:TT)(te:TE)(fin:Hp->Prop)(W:Nat->Nat->List V->Hp->Prop):Prop:=
 ∀i m ys H,W i m ys H->(J.stop i H/\fin H)\/(J.go i H/\∃N:List V->Hp->Prop,(∀ys' H',N ys' H'->∃m',m'<m/\W (i+1) m' ys' H') /\ ∀x H1,J.yld i H x H1->g x σ0 H1 λσ2 H2=>(σ2.length=σ0.length/\∀(i:Nat) v,σ0[i]? = some (some v)->σ2[i]? = some (some v)) /\ tc σ2 H2 λb H3=>if b=true then te σ2 H3 λy H4=>∃zs,H4 D=some (.lst zs)/\zs.length<sizeLine/\N (zs++[y]) (upd H4 D (.lst (zs++[y])))else N ys H3)
def tLc (wi:TI)(n:Nat)(js:List Nat)(g:TG)(tc:TT)(te:TE):TE:=λσ H Q=>wi σ H λJ H1=>∀D,H1 D=none ->
 ∃W:Nat->Nat->List V->Hp->Prop,(∃m,W 0 m [] (upd H1 D (.lst [])))/\GB J D (EE n js σ) g tc te (λH2=>Q (.ref D) H2) W
def Ys (i:Nat)(wi:TI)(n:Nat)(js:List Nat)(g:TG)(tc:TT)(te:TE):TS:=λE σ H=>wi σ H λJ H1=>∀D,H1 D=none ->
 ∃W:Nat->Nat->List V->Hp->Prop,(∃m,W 0 m [] (upd H1 D (.lst [])))/\GB J D (EE n js σ) g tc te (λH2=>E.nx (σ.set i (some (.ref D))) H2) W
section
variable {X:Cx}
theorem TV:∀(tk:Nat) (xs:List Str),Vals (xs.map V.str) (strsFrom tk xs)
 | _,[]=>.nil
 | tk,_::r=>.cons ⟨tk,U⟩ (TV (tk+1) r)
def EA:Ff X "str.split" (λx xs H Q=>∃a b,x=.str a/\xs=[.str b]/\(b.length == 0)=false/\a.length+2<=sizeLine/\∀p,H p=none->Q (.ref p) (upd H p (.lst ((Txt.split a b).map V.str)))):=by
 rintro c s i H x xs v us Q I h g⟨a,b,rfl,rfl,f,hz,q⟩;obtain⟨t,rfl⟩:=h;obtain⟨u,rfl,t',rfl⟩:=Cm g;have one:∀{ys:List Str},ys=[a]->Txt.split a b=ys->EP X c i Q (.ref s.heap.objs.size) { s with heap:=s.heap.push { cls:=.type "list",data:=.seq [Value.str a t].toArray } }:=λ{ys} e1 e2=>by have d:=q _ (I.hok.fresh (An _));rw[e2,e1]at d;exact⟨.ref _,_,I.lnew (ys:=[V.str a]) (.cons ⟨t,U⟩ .nil) (by show 1<=sizeLine;decide),U,d⟩
 have j:=split_le a b;cases h1:(decide (a.length<b.length) || decide (Builtin.Str.strKind a<Builtin.Str.strKind b))with
 | true=>apply Hl DJ (Js _ _ _) SQ (SV _ _) (meets_str_split_cannot_occur a b t t' h1);exact one U (As h1)
 | false=>
  cases hf:(Builtin.Str.occurrences a b 0 a.length (a.length+1)).isEmpty with
  | true=>apply Hl DJ (Js _ _ _) SQ (SV _ _) (meets_str_split_not_found a b t t' h1 f hf);exact one U ((Ag (by rw[h1];decide)).trans (As hf))
  | false=>
   have e:Txt.split a b=Builtin.Str.partsBetween a (Builtin.Str.occurrences a b 0 a.length (a.length+1)) b.length:=(Ag (by rw[h1];decide)).trans (Ag (by rw[hf];decide));refine Hl DJ (Js _ _ _) SQ (SV _ _) (meets_str_split_sep a b t t' h1 f hf Ψ (by rw[<- e];lia)) ?_;refine⟨.ref _,_,I.lnew (TV s.toks _) ?_,U,?_⟩
   ·rw[Ah,<- e];lia
   rw[<- e];exact (q _ (I.hok.fresh (An _)))
def W4:Ce X (.builtin "isinstance") (λxs H Q=>∃i T,xs=[.int i,.ty T]/\((T = "int" /\ Q (.bl true) H)\/(T = "bool" /\ Q (.bl false) H))):=by
 rintro a s e H xs us Q I r⟨i,T,rfl,h⟩;obtain⟨c,d,rfl,⟨t,rfl⟩,b⟩:=HW r;cases b;rcases h with⟨rfl,q⟩ | ⟨rfl,q⟩
 ·exact PySem.IsiPair.int_int ⟨.bl true,H,I,U,q⟩
 exact PySem.IsiPair.int_bool ⟨.bl false,H,I.tok _,U,q⟩
def UX (K:W.Frag):R2:=λx y H Q=>∃a b xs ys,x=.ref a/\y=.ref b/\SqT K H a xs/\SqT K H b ys/\xs.length+ys.length<=sizeLine /\
 (xs=[]->Q (.ref b) H)/\(xs≠[]->ys=[]->Q (.ref a) H)/\(xs≠[]->ys≠[]->∀p,H p=none->Q (.ref p) (upd H p (.tup (xs++ys))))
def RB:Bu X (binaryOp .Add) (UX X.K):=by
 rintro d s M H x y v u Q I q p⟨a,b,xs,ys,rfl,rfl,z,m,hz,D,L,K⟩;by_cases g:xs=[]
 ·subst g;cases q;cases p;obtain⟨E,F,B,_⟩:=I.tuple z;obtain⟨w,P,G,_⟩:=I.tuple m;cases F;obtain⟨⟨cls,dd,data,N⟩,r,l,n,A⟩:=id B;obtain⟨⟨o,i,j,h⟩,f,c,C,e⟩:=id G;simp only at l A c e;subst l A c e
  exact concat_meets ⟨_,r,U⟩ ⟨_,f,U⟩ noFill_tuple_add seq_tuple_add Tf Tj (Tp _ _)
   (tuple_addW0 a b _ _ n C dd i N h U) ⟨r,f,⟨.ref b,H,I,U,D U⟩⟩
 exact cT d s M H _ _ v u Q I q p ⟨a,b,xs,ys,U,U,z,m,g,hz,L g,K g⟩
end
mutual
inductive RdV (H:Hp):V->PyData->Prop
 | non:RdV H .non .none
 | int (i:Int):RdV H (.int i) (.int i)
 | str (x:Str):RdV H (.str x) (.str x)
 | tup {a:Addr}{xs:List V}{ds:List PyData}:H a=some (.tup xs)->RdVs H xs ds->RdV H (.ref a) (.tuple ds)
inductive RdVs (H:Hp):List V->List PyData->Prop
 | nil:RdVs H [] []
 | cons {x:V}{d:PyData}{xs:List V}{ds:List PyData}:RdV H x d->RdVs H xs ds->RdVs H (x::xs) (d::ds)
end
mutual
theorem RdV.reads (ok:HOk P w H h):∀{x:V}{d:PyData}{u:Value},RdV H x d->RelV x u->∃b,Reads h u d b
 | _,_,_,.non,r=>by cases r;exact⟨_,.none⟩
 | _,_,_,.int i,r=>by obtain⟨t,rfl⟩:=r;exact⟨_,.int i t⟩
 | _,_,_,.str x,r=>by obtain⟨t,rfl⟩:=r;exact⟨_,.str x t⟩
 | _,_,_,.tup (a:=a) e rs,r=>by cases r;obtain⟨z,f,g,o,l,m,n,j⟩:=ok a _ e;obtain⟨b,c⟩:=RdVs.reads ok rs g;exact⟨b,.tuple l m j (by simpa using c)⟩
theorem RdVs.reads (ok:HOk P w H h):∀{xs:List V}{ds:List PyData}{us:List Value},RdVs H xs ds->Vals xs us->∃c,ReadsAll h us ds c
 | _,_,_,.nil,r=>by cases r;exact⟨_,.nil⟩
 | _,_,_,.cons a b,r=>by
  cases r with
  | cons r1 r2=>obtain⟨c,d⟩:=RdV.reads ok a r1;obtain⟨bs,e⟩:=RdVs.reads ok b r2;exact⟨_,.cons d e⟩
end
mutual
theorem RdV.same (k:∀b xs,H b=some (.tup xs)->H' b=some (.tup xs)):∀{x:V}{d:PyData},RdV H x d->RdV H' x d
 | _,_,.non=>.non
 | _,_,.int i=>.int i
 | _,_,.str x=>.str x
 | _,_,.tup e rs=>.tup (k _ _ e) (RdVs.same k rs)
theorem RdVs.same (k:∀b xs,H b=some (.tup xs)->H' b=some (.tup xs)):∀{xs:List V}{ds:List PyData},RdVs H xs ds->RdVs H' xs ds
 | _,_,.nil=>.nil
 | _,_,.cons a b=>.cons (RdV.same k a) (RdVs.same k b)
end
theorem RdVs.get :∀{xs:List V}{ds:List PyData}{i:Nat}{x:V},RdVs H xs ds->xs[i]? = some x->∃d,ds[i]? = some d/\RdV H x d
 | _,_,_,_,.nil,e=>by simp at e
 | _,_,0,_,.cons a _,e=>by simp at e;subst e;exact⟨_,U,a⟩
 | _,_,i+1,_,.cons _ b,e=>by obtain⟨d,c,f⟩:=RdVs.get b (by simpa using e);exact⟨d,by simpa using c,f⟩
theorem RdVs.length :∀{xs:List V}{ds:List PyData},RdVs H xs ds->xs.length=ds.length
 | _,_,.nil=>rfl
 | _,_,.cons _ b=>by simp[RdVs.length b]
theorem RdVs.strs :∀(xs:List Str),RdVs H (xs.map V.str) (xs.map PyData.str)
 | []=>.nil
 | x::r=>.cons (.str x) (RdVs.strs r)
section
variable {X:Cx}
def UW (neg:Bool):R2:=λx y H Q=>∃d e,RdV H x d/\RdV H y e/\PySem.SeqAt.shaped d=true/\PySem.SeqAt.shaped e=true/\Q (.bl (neg ^^ PyData.eqv d e)) H
def cS (i:X.A.units+64<cLine):Bu X (compareOp .Eq) (UW false):=by rintro c s o H x y v u Q I m j⟨d,e,l,f,g,h,q⟩;obtain⟨n,a⟩:=l.reads I.hok m;obtain⟨bs,b⟩:=f.reads I.hok j;rw[SF]at q;exact Tu a b g h i ⟨.bl _,H,I,U,q⟩
end
end L2
namespace ZT
open PySem PyProof.Rows
section
variable {prog:Program}{w:World}{A:Around}{E:Value->Shared->Prop}{s:Shared}
def next_item {t:Addr}{k:Nat} (d:s.heap.IsTupleIter p t k)(e:s.heap.IsTuple t items)(g:items[k]? = some v)
  (q:∀h',h'.IsTupleIter p t (k+1)->Heap.SameBut p s.heap h'->Q v { s with heap:=h' }):wpAny (model prog w) A (Builtin.SmallTypes.nextOf (.ref p)) Q E s:=by
 obtain⟨o,b,f,a⟩:=id d
 obtain⟨j,c,_,i,h⟩:=e
 (unfold Builtin.SmallTypes.nextOf)
 refine Ab (Eb d.typeIs O1 (Ct O1 d.typeIs F.entry_tuple_iterator_next ?_ (F.args_tuple_iterator_next_1 _)))
 show wpAny _ _ (field (.ref p) 0 >>= _) _ _ s
 refine Ab (Cw b a U ?_)
 (show wpAny _ _ (if (Value.ref t == Value.none)=true then _ else _) _ _ s)
 rw[Ag (by exact BI)]
 refine Ab (Cw b a U ?_)
 (show wpAny _ _ (seqItems? (.ref t) >>= _) _ _ s)
 refine Ab (EH c h ?_)
 simp[CO,g]
 refine Ab (Mh b a Θ (Ae ⟨v,U,Ae (q _ ?_ (FC ..))⟩))
 refine⟨_,E5 _ b (S9 (JD a _)),(Obj.cls_mapFields ..).trans f,?_⟩
 rw[JD a]
 simp[rawInt]
def next_end {t:Addr}{k:Nat} (f:A.handled=none)(d:s.heap.IsTupleIter p t k)(g:s.heap.IsTuple t items)(h:items[k]? = none)
  (q:∀h' e,Heap.ExtBut p s.heap h'->(∃o,h'.get? e=some o/\o.cls=.type "StopIteration")->E (.ref e) { s with heap:=h' }):wpAny (model prog w) A (Builtin.SmallTypes.nextOf (.ref p)) Q E s:=by
 obtain⟨o,c,l,a⟩:=id d
 obtain⟨m,b,_,j,i⟩:=g
 (unfold Builtin.SmallTypes.nextOf)
 refine Ab (Eb (name:=Str.ofString "__next__") d.typeIs O1 (Ct O1 d.typeIs F.entry_tuple_iterator_next ?_ (F.args_tuple_iterator_next_1 _)))
 show wpAny _ _ (field (.ref p) 0 >>= _) _ _ s
 refine Ab (Cw c a U ?_)
 (show wpAny _ _ (if (Value.ref t == Value.none)=true then _ else _) _ _ s)
 rw[Ag (by exact BI)]
 refine Ab (Cw c a U ?_)
 (show wpAny _ _ (seqItems? (.ref t) >>= _) _ _ s)
 refine Ab (EH b i ?_)
 simp[CO,h]
 refine Ab (Ee (Ab (Mh c a Θ ?_)))
 (show wpAny _ _ (newExc (.type "StopIteration") [] >>= _) _ _ _)
 apply Ab
 simp[newExc,newTuple]
 (refine Ab (C3 ?_ (by size_fits)))
 (refine Ab (Gk (by first | rfl | (simp[firstArgMember];rfl)) ?_))
 (refine C3 ?_ (by size_fits))
 simp only[raiseNew]
 (refine Ab (OE ?_))
 (first | rw[show A.in1.handled=none from f] | rw[f])
 (refine Ab (Ae (L8 ?_)))
 exact q _ _ (((FC ..).extBut.push _).push _) ⟨_,A4 _ U,U⟩
structure Apart (z p q i j:Addr):Prop where
 pz:p≠z
 qz:q≠z
 iz:i≠z
 jz:j≠z
 pq:p≠q
 pi:p≠i
 pj:p≠j
 qi:q≠i
 qj:q≠j
 ij:i≠j
def YU {k:Nat} (B:A.handled=none)(D:Apart z p q i j)
  (hz:IsZip s.heap z p q .none)(N:IsPair s.heap p (.ref i) (.ref j))(W:IsPair s.heap q x0 y0)(K:s.heap.IsTupleIter i a k)(T:s.heap.IsTupleIter j b k)
  (I:s.heap.IsTuple a xs)(S:s.heap.IsTuple b ys)(G:a≠z/\a≠q/\a≠i/\a≠j)(P:b≠z/\b≠q/\b≠i/\b≠j)(C:xs[k]? = none)
  (h:∀h' e,(∀c o,c≠z->c≠q->c≠i->c≠j->s.heap.get? c=some o->h'.get? c=some o)->(∃o,h'.get? e=some o/\o.cls=.type "StopIteration")->E (.ref e) { s with heap:=h' }) :
  (wpAny (model prog w) A (Builtin.«zip.__next__» ⟨[.ref z],[]⟩) Q E s):=by
 (show wpAny _ _ (field (.ref z) 2 >>= _) _ _ _)
 (refine Ab (Cw hz U U ?_))
 (show wpAny _ _ (field (.ref z) 3 >>= _) _ _ _)
 refine Ab (Cw hz U U (Ab (EH N U ?_)))
 (show wpAny _ _ (Builtin.SmallTypes.ownedTupleIsFree (.ref z) >>= _) _ _ _)
 apply Ab
 (unfold Builtin.SmallTypes.ownedTupleIsFree)
 (refine Ab (Cw hz U (x:=.none) U (Ae ?_)))
 simp only[Dx]
 refine Ab (Ee (Ab (Cw hz U U (Ab (CP hz Θ λv l g=>?_)))))
 replace l:IsZip v z p q .ellipsis:=l
 refine Ab ?_
 (simp only[List.zipIdx_cons,List.zipIdx_nil,SH,List.forIn_nil])
 (refine Ab (Ab (wpAny_onRaise ?_)))
 refine Ab (next_end B (K.extBut g.extBut D.iz) (I.extBut g.extBut G.1) C λR e u y=>?_)
 obtain⟨M,d,f⟩:=y
 have n:=u _ _ D.iz.symm l
 have F:e≠z:=λw=>by subst w;rw[n]at d;cases d;simp at f
 exact CP n Θ λH _ m=>h H e (λc o r _ L _ w=>m.extBut _ _ r (u _ _ L (g.extBut _ _ r w))) ⟨M,m.extBut _ _ F d,f⟩
def py_end {k:Nat} (g:A.handled=none)(D:Apart z p q i j)
  (hz:IsZip s.heap z p q .none)(C:IsPair s.heap p (.ref i) (.ref j))(y:IsPair s.heap q x0 y0)(v:s.heap.IsTupleIter i a k)(x:s.heap.IsTupleIter j b k)
  (u:s.heap.IsTuple a xs)(r:s.heap.IsTuple b ys)(n:a≠z/\a≠q/\a≠i/\a≠j)(h:b≠z/\b≠q/\b≠i/\b≠j)(l:xs[k]? = none)
  (d:∀h',(∀c o,c≠z->c≠q->c≠i->c≠j->s.heap.get? c=some o->h'.get? c=some o)->Q none { s with heap:=h' }):wpAny (model prog w) A (pyNext (.ref z)) Q E s:=by
 have f:s.TypeIs (.ref z) "zip" := ⟨_,hz,U⟩
 refine Ab (EG (Eb f OL (Ct OL f F.entry_zip_next ?_ (F.args_zip_next_1 _))))
 refine YU g D hz C y v x u r n h l λh' e f1 f2=>?_
 obtain⟨o,B,m⟩:=f2
 exact Ab (Gv (T := "StopIteration") ⟨o,B,m⟩ Mg (Ae (d _ f1)))
end
abbrev zI (t:Addr):Obj:={ cls:=.type "tuple_iterator",data:=.fields #[.ref t,.int 0 0] }
abbrev zP (i j:Addr):Obj:={ cls:=.type "tuple",data:=.seq #[.ref i,.ref j] }
abbrev zQ:Obj:={ cls:=.type "tuple",data:=.seq #[.none,.none] }
abbrev zZ (p q:Addr):Obj:={ cls:=.type "zip",data:=.fields #[.none,.bool false,.bool false,.ref p,.ref q] }
abbrev zH (h:Heap)(a b:Addr):Heap:=((((h.push (zI a)).push (zI b)).push (zP h.objs.size (h.push (zI a)).objs.size)).push zQ).push (zZ ((h.push (zI a)).push (zI b)).objs.size (((h.push (zI a)).push (zI b)).push (zP h.objs.size (h.push (zI a)).objs.size)).objs.size)
def make (a b:Addr)(xs ys:Array Value) :
  Meets (Builtin.«zip.__new__» ⟨[.type "zip",.ref a,.ref b],[]⟩) (λ_ R s=>s.heap.IsTuple a xs/\s.heap.IsTuple b ys /\ R (.ok (.ret (.ref ((((s.heap.push (zI a)).push (zI b)).push (zP s.heap.objs.size (s.heap.push (zI a)).objs.size)).push zQ).objs.size))) { s with heap:=zH s.heap a b }):=
 .of_wp λprog w A R s h=>by (obtain⟨i,g,d,tk,f⟩:=s);obtain⟨e,c,h⟩:=h;have sub:=sub_zip;wp_walk using JE e,JE (Heap.IsTuple.push c _);exact⟨_,U,h⟩
end ZT
namespace L2
open PySem PySem.Spec PyProof.Rows
section
variable {X:Cx}{dg:List (Addr×Obj)}{σ:St}{H:Hp}{s:Shared}{h':Heap}
def FpOk.not {ch:List Addr}(a:∀b∈ch,FpOk X dg H b){b:Addr}{o:HO}(e:H b=some o):b∉ch:=λz=>by have:=(a b z).1;rw[e]at this;cases this
def Inv.fpT {t:Addr} (I:Inv X dg σ H s)(b:SqT X.K H t zs)(f:FpOk X dg H t):False:=by
 rcases b with a | ⟨o,_,_,hk,_⟩
 ·rcases a with a | ⟨o,a⟩
  ·rw[f.1]at a;cases a
  rw[f.1]at a;cases a
 have e:=I.mod.kin t o hk;rcases f.2.2.2.1 with q | q
 ·exact I.ok.noex t o e q
 exact absurd (Cp (AH (I.ok.bs t o e).1) q) (CM _)
def Inv.stepL {t':Nat}{ch:List Addr}(I:Inv X dg σ H s)(d:∀b∈ch,FpOk X dg H b)(k:∀b o,b∉ch->s.heap.get? b=some o->h'.get? b=some o):Inv X dg σ H { s with heap:=h',toks:=t' }:=by
 refine I.step (λb f=>⟨(d b f).2.2.2.1,(d b f).2.1,(d b f).2.2.2.2.1,(d b f).2.2.2.2.2⟩) (λb o _ _ a e _=>k b o a e) (λb o _ _ a e _=>⟨o.slots,k b o a e⟩) (λ_ _ _ _ n=>n)
  (λb o a e=>⟨o,k b o a e⟩) (λ_ _ e=>e) (λ_ _ _ e=>e) (λb ps e=>⟨#[],by rw[e];simp⟩) (λm h=>?_) (λb u e=>?_) I.bare
 ·obtain⟨o,g,ep,i,r⟩:=h;exact⟨o,g,ep,k _ o (λz=>(d _ z).2.1 U) i,r⟩
 refine(I.hok b u e).stay (λc v a q=>k c v ?_ q) (λ_ q=>q) λ_ _ q=>q;rcases a with z | z
 ·rw[z];exact FpOk.not d e
 exact FpOk.not d z
def Inv.stepN {t':Nat}{ch:List Addr}{i:HO}(I:Inv X dg σ H s)(g:∀b∈ch,FpOk X dg H b)(k:∀b o,b∉ch->s.heap.get? b=some o->h'.get? b=some o)
  (new:ObjOk X.prog X.w (upd H s.heap.objs.size i) h' s.heap.objs.size i):Inv X dg σ (upd H s.heap.objs.size i) { s with heap:=h',toks:=t' }:=by
 have fr:=I.hok.fresh (An _)
 have d:∀b∈s.heap.objs.size::ch,FpOk X dg H b:=λb a=>by
  rcases(Ar.mp a)with e | e
  ·rw[e];exact (I.fpOk (An _) fr)
  exact g b e
 have h:∀b o,b∉s.heap.objs.size::ch->s.heap.get? b=some o->h'.get? b=some o:=λb o a e=>k b o (λz=>a (Bc _ z)) e
 refine I.step (λb a=>⟨(d b a).2.2.2.1,(d b a).2.1,(d b a).2.2.2.2.1,(d b a).2.2.2.2.2⟩) (λb o _ _ f e _=>h b o f e) (λb o _ _ f e _=>⟨o.slots,h b o f e⟩)
  (λb o _ e n=>by rw[Ao ((λb o e=>Bd (AH e)) b o e)];exact n) (λb o f e=>⟨o,h b o f e⟩) (λb xs e=>by rw[Ao (A1 e fr)];exact e) (λb o xs e=>by rw[Ao (A1 e fr)];exact e)
  (λb ps e=>⟨#[],by rw[Ao (A1 e fr),e];simp⟩) (λm l=>?_) (λb u e=>?_) I.bare
 ·obtain⟨o,j,ep,p,r⟩:=l;exact⟨o,j,ep,k _ o (λz=>(g _ z).2.1 U) p,r⟩
 by_cases a:b=s.heap.objs.size
 ·subst a;rw[Af]at e;cases e;exact new
 rw[Ao a]at e
 refine(I.hok b u e).stay (λc v f q=>k c v ?_ q) (λc q=>by rw[Ao (A1 q fr)];exact q) λc xs q=>by rw[Ao (A1 q fr)];exact q
 rcases f with z | z
 ·rw[z];exact FpOk.not g e
 exact FpOk.not g z
end
def Same.new (h:H l=none):Same H (upd H l o):=λb u e=>by rw[Ao (A1 e h)];exact e
def Same.put (s:Same H H')(h:H l=none):Same H (upd H' l o):=λb u e=>by rw[Ao (A1 e h)];exact s b u e
def Same.rd (s:Same H H') (h:RdV H v d):RdV H' v d:=h.same λb xs e=>s b _ e
def Same.rds (s:Same H H') (h:RdVs H vs ds):RdVs H' vs ds:=h.same λb xs e=>s b _ e
structure Df (K:W.Frag)(mg:Str->Option Value)(x:Str)(st:Stmt)(ps:List Str)(f:Addr)(fd:FuncData):Prop where
 F:Fun K x x st f fd
 m:mg x=some (.ref f)
 b:Binds K fd ps []
def BK {a:It} (c:Nat->List V->Hp->Prop)(s:c 0 [] (upd H0 D (.lst [])))
  (q:∀i ys H,i<n->c i ys H->a.go i H)(f:∀ys H,c n ys H->a.stop n H)
  (z:∀i ys H x g,i<n->c i ys H->a.yld i H x g->tc (some x::ρ) g λb l=>if b=true then te (some x::ρ) l λy o=>∃h,o D=some (.lst h)/\h.length<sizeLine/\c (i+1) (h++[y]) (upd o D (.lst (h++[y])))else c (i+1) ys l)
  (u:∀ys H,c n ys H->fin H):∃W:Nat->Nat->List V->Hp->Prop,(∃m,W 0 m [] (upd H0 D (.lst [])))/\GB a D (none::ρ) (EC 0) tc te fin W:=by
 refine⟨λi m ys H=>m=n-i/\i<=n/\c i ys H,⟨n,U,Bt _,s⟩,?_⟩
 rintro i m ys H ⟨rfl,A,p⟩
 by_cases d:i<n
 ·refine .inr ⟨q i ys H d p,c (i+1),λr H' w=>⟨n-(i+1),Ψ,U,d,w⟩,λx g y=>⟨⟨U,λj v e=>?_⟩,z i ys H x g d p y⟩⟩;cases j with
  | zero=>cases e
  | succ j=>exact e
 have e:i=n:=by lia
 subst e
 exact .inl ⟨f ys H p,u ys H p⟩
def BX {a:St}{H:Hp}{A B:Hp->Prop}(h:A H):Ud a H λb H3=>if b=true then A H3 else B H3:=by
 show if true=true then A H else B H
 rw[As rfl];exact h
def YO :(some x::some y::ρ:St).length=(none::none::ρ:St).length/\∀(i:Nat) v,(none::none::ρ:St)[i]? = some (some v)->(some x::some y::ρ:St)[i]? = some (some v):=
 ⟨U,λj v e=>by
  match j,e with
  | 0,e=>cases e
  | 1,e=>cases e
  | j+2,e=>exact e⟩
section
variable {X:Cx}
def RW (K:W.Frag)(h:X.K=K):JP X (Rl K):=by subst h;exact AL
def C8 (K:W.Frag)(h:X.K=K):JP X (Rj K):=by subst h;exact Bf
def uJ {t:TA}(K:W.Frag)(h:X.K=K)(a:PE X e (Pu X.K T r to t)):PE X e (Pu K T r to t):=by subst h;exact a
def Oi {t:JK}(K:W.Frag)(h:X.K=K)(a:PG X e (Jd X.K n t)):PG X e (Jd K n t):=by subst h;exact a
end
def uD:bootBuiltins "zip" = some (.type "zip"):=by decide +kernel
def Sq:bootBuiltins "tuple" = some (.type "tuple"):=by decide +kernel
def uG:bootBuiltins "int" = some (.type "int"):=by decide +kernel
def uH:bootBuiltins "bool" = some (.type "bool"):=by decide +kernel
def Jj:bootBuiltins "isinstance" = some (.builtin "isinstance"):=by decide +kernel
end L2
namespace Tx
open PySem L2 PyProof.Rows
open PySem.PyData (strOk)
def BW (x y:Str):(x++y).length=x.length+y.length:=by (show(x.cps++y.cps).size=x.cps.size+y.cps.size);rw[Array.size_append]
def LC (h:strOk x=true) (a:c∈x.cps.toList):c<0x110000:=by unfold strOk at h;rw[SU]at h;exact Bp (h c (by simpa using a))
def NZ (h:∀c∈x.cps.toList,c<0x110000):strOk x=true:=by unfold strOk;rw[SU];intro c a;exact AV (h c (by simpa using a))
def abc:Str := "abcdefghijklmnopqrstuvwxyz"
def blank:Str := " "
def uK:blank=⟨#[32]⟩:=by decide +kernel
end Tx
namespace Rk
open PySem
def cs (x:Str):List Nat:=x.cps.toList
def AZ (x y:Str):cs (x++y)=cs x++cs y:=by show(x.cps++y.cps).toList=_;rw[Array.toList_append];rfl
def BF (h:cs x=cs y):x=y:=by
 cases x with | mk a=>
 cases y with | mk b=>
 have:a=b:=OP.mp h;rw[this]
def A8 (x:Str):(cs x).length=x.length:=by exact Dw
def J:List (List Nat)->List Nat
 | []=>[]
 | [a]=>a
 | a::b::r=>a++32::J (b::r)
theorem WS:∀{a b u v:List Nat},32∉a->32∉b->a++32::u=b++32::v->a=b/\u=v
 | [],[],u,v,_,_,h=>⟨U,by simpa using h⟩
 | [],y::b,u,v,_,hb,h=>by simp[Jy,SL,Mm]at h;exact absurd (Ar.mpr (.inl h.1)) hb
 | x::a,[],u,v,ha,_,h=>by simp[Jy,SL,Mm]at h;exact absurd (Ar.mpr (.inl h.1.symm)) ha
 | x::a,y::b,u,v,ha,hb,h=>by simp[SL,Mm]at h;obtain⟨e1,e2⟩:=WS (λz=>ha (Bc _ z)) (λz=>hb (Bc _ z)) h.2;exact⟨by rw[h.1,e1],e2⟩
theorem XB:∀{ps ws:List (List Nat)},ps≠[]->ws≠[]->(∀p∈ps,32∉p)->(∀w∈ws,32∉w)->J ps=J ws->ps=ws
 | [],_,h,_,_,_,_=>absurd U h
 | _::_,[],_,h,_,_,_=>absurd U h
 | [a],[b],_,_,_,_,e=>by rw[show a=b from e]
 | [a],b::c::r,_,_,ha,_,e=>by have f:a=b++32::J (c::r):=e;exact absurd (by rw[f];simp) (ha a (Bb ..))
 | a::c::r,[b],_,_,_,hb,e=>by have f:a++32::J (c::r)=b:=e;exact absurd (by rw[<- f];simp) (hb b (Bb ..))
 | a::c::r,b::d::t,_,_,ha,hb,e=>by obtain⟨e1,e2⟩:=WS (ha a (Bb ..)) (hb b (Bb ..)) e;rw[e1,XB (Bo _ _) (Bo _ _) (λp g=>ha p (Bc _ g)) (λp g=>hb p (Bc _ g)) e2]
theorem XC:∀ps:List (List Nat),(J ps).count 32+1=(ps.map (List.count 32)).sum+(if ps=[]then 1 else ps.length)
 | []=>rfl
 | [a]=>by simp[J]
 | a::b::r=>by have c:=XC (b::r);rw[Ag (Bo _ _)]at c ⊢;show(a++32::J (b::r)).count 32+1=_;rw[List.count_append,List.count_cons_self,Bg,Hs];simp[BU]at c ⊢;lia
theorem Uo:∀{l:List Nat},l.sum=0->∀x∈l,x=0
 | [],_,_,h=>nomatch h
 | a::r,h,x,hx=>by
  rw[Hs]at h;rcases(Ar.mp hx)with e | e
  ·lia
  exact Uo Ψ x e
def fixedS:List Str:=["and", "or", "not", "while", "in", "on", "top", "held", "open", "shut", "locked", "bare", "free", "hand"]
structure Nv (x:Str):Prop where
 low:∀c∈cs x,97<=c/\c<=122
 pos:1<=x.length
 len:x.length<=8
 fix:x∉fixedS
inductive Ro where
 | pl (n:Str)
 | bx (n:Str)
 | lk (n k:Str)
 | th (n s:Str)
 deriving DecidableEq
def Ro.name:Ro->Str
 | .pl n=>n
 | .bx n=>n
 | .lk n _=>n
 | .th n _=>n
def Ro.boxed:Ro->Bool
 | .bx _=>true
 | .lk _ _=>true
 | _=>false
def Ro.words:Ro->List Str
 | .pl n=>["place",n]
 | .bx n=>["box",n]
 | .lk n k=>["box",n,k]
 | .th n s=>["thing",n,s]
def Ro.txt:Ro->Str
 | .pl n=>("place " : Str)++n
 | .bx n=>("box " : Str)++n
 | .lk n k=>("box " : Str)++n++(" " : Str)++k
 | .th n s=>("thing " : Str)++n++(" " : Str)++s
def Ro.nv:Ro->Prop
 | .pl n=>Nv n
 | .bx n=>Nv n
 | .lk n k=>Nv n/\Nv k
 | .th n s=>Nv n/\Nv s
theorem Ro.nv_name:∀{r:Ro},r.nv->Nv r.name
 | .pl _,h=>h
 | .bx _,h=>h
 | .lk _ _,h=>h.1
 | .th _ _,h=>h.1
def Nv.noblank (h:Nv x):32∉cs x:=λz=>by have:=h.low 32 z;lia
theorem Ro.noblank:∀{r:Ro},r.nv->∀w∈r.words,32∉cs w
 | .pl n,h,w,hw=>by
  simp[Ro.words,Ar,AS,AQ]at hw;rcases hw with e | e
  ·rw[e];decide +kernel
  rw[e];exact Nv.noblank h
 | .bx n,h,w,hw=>by
  simp[Ro.words,Ar,AS,AQ]at hw;rcases hw with e | e
  ·rw[e];decide +kernel
  rw[e];exact Nv.noblank h
 | .lk n k,h,w,hw=>by
  simp[Ro.words,Ar,AS,AQ]at hw;rcases hw with e | e | e
  ·rw[e];decide +kernel
  ·rw[e];exact Nv.noblank h.1
  rw[e];exact Nv.noblank h.2
 | .th n k,h,w,hw=>by
  simp[Ro.words,Ar,AS,AQ]at hw;rcases hw with e | e | e
  ·rw[e];decide +kernel
  ·rw[e];exact Nv.noblank h.1
  rw[e];exact Nv.noblank h.2
theorem tF:∀r:Ro,cs r.txt=J (r.words.map cs)
 | .pl n=>by
  show cs (("place " : Str)++n)=cs ("place" : Str)++32::cs n;rw[AZ];have e:cs ("place " : Str)=cs ("place" : Str)++[32]:=by decide +kernel
  rw[e];simp
 | .bx n=>by
  show cs (("box " : Str)++n)=cs ("box" : Str)++32::cs n;rw[AZ];have e:cs ("box " : Str)=cs ("box" : Str)++[32]:=by decide +kernel
  rw[e];simp
 | .lk n k=>by
  show cs (("box " : Str)++n++(" " : Str)++k)=cs ("box" : Str)++32::(cs n++32::cs k);rw[AZ,AZ,AZ];have e:cs ("box " : Str)=cs ("box" : Str)++[32]:=by decide +kernel
  have e2:cs (" " : Str)=[32]:=by decide +kernel
  rw[e,e2];simp
 | .th n k=>by
  show cs (("thing " : Str)++n++(" " : Str)++k)=cs ("thing" : Str)++32::(cs n++32::cs k);rw[AZ,AZ,AZ];have e:cs ("thing " : Str)=cs ("thing" : Str)++[32]:=by decide +kernel
  have e2:cs (" " : Str)=[32]:=by decide +kernel
  rw[e,e2];simp
def X0 {r:Ro}(h:r.nv):r.txt.length<=23:=by
 have b:("place " : Str).length=6:=by decide +kernel
 have c:("box " : Str).length=4:=by decide +kernel
 have a:("thing " : Str).length=6:=by decide +kernel
 have d:(" " : Str).length=1:=by decide +kernel
 cases r with
 | pl n =>have:=Nv.len h;rw[<- A8,show(Ro.pl n).txt=("place " : Str)++n from U,AZ,AM,A8,A8];lia
 | bx n=>have:=Nv.len h;rw[<- A8,show(Ro.bx n).txt=("box " : Str)++n from U,AZ,AM,A8,A8];lia
 | lk n k=>have:=Nv.len h.1;have:=Nv.len h.2;rw[<- A8,show(Ro.lk n k).txt=("box " : Str)++n++(" " : Str)++k from U,AZ,AZ,AZ,AM,AM,AM,A8,A8,A8,A8];lia
 | th n k=>have:=Nv.len h.1;have:=Nv.len h.2;rw[<- A8,show(Ro.th n k).txt=("thing " : Str)++n++(" " : Str)++k from U,AZ,AZ,AZ,AM,AM,AM,A8,A8,A8,A8];lia
def plc:List Ro->List (Str×Bool×Option Str)
 | []=>[]
 | .pl n::r=>(n,false,none)::plc r
 | .bx n::r=>(n,true,none)::plc r
 | .lk n k::r=>(n,true,some k)::plc r
 | .th _ _::r=>plc r
def BD:List Ro->List (Str×Str)
 | []=>[]
 | .th n s::r=>(n,s)::BD r
 | _::r=>BD r
theorem F3:∀a b:List Ro,plc (a++b)=plc a++plc b
 | [],_=>rfl
 | .pl n::r,b=>by simp[plc,F3 r b]
 | .bx n::r,b=>by simp[plc,F3 r b]
 | .lk n k::r,b=>by simp[plc,F3 r b]
 | .th n s::r,b=>by simp[plc,F3 r b]
theorem Gz:∀a b:List Ro,BD (a++b)=BD a++BD b
 | [],_=>rfl
 | .pl n::r,b=>by simp[BD,Gz r b]
 | .bx n::r,b=>by simp[BD,Gz r b]
 | .lk n k::r,b=>by simp[BD,Gz r b]
 | .th n s::r,b=>by simp[BD,Gz r b]
theorem F8:∀rs:List Ro,(rs.map Ro.name).Perm ((plc rs).map (·.1)++(BD rs).map (·.1))
 | []=>.nil
 | .pl n::r=>.cons _ (F8 r)
 | .bx n::r=>.cons _ (F8 r)
 | .lk n k::r=>.cons _ (F8 r)
 | .th n s::r=>(List.Perm.cons n (F8 r)).trans List.perm_middle.symm
def LJ (h:n∈(plc rs).map (·.1)):n∈rs.map Ro.name:=(F8 rs).mem_iff.mpr (Hw _ h)
def Fp (h:n∈(BD rs).map (·.1)):n∈rs.map Ro.name:=(F8 rs).mem_iff.mpr (Ei _ h)
structure Good (rs:List Ro):Prop where
 nv:∀r∈rs,r.nv
 nd:(rs.map Ro.name).Nodup
 first:∃n t,plc rs=(n,false,none)::t
 fewP:(plc rs).length<=6
 fewT:(BD rs).length<=6
 keys:∀p∈plc rs,∀k,p.2.2=some k->k∈(BD rs).map (·.1)
def Good.floor (g:Good rs) (e:rs=a++r::b)(h:r.boxed=true):plc a≠[]:=λz=>by
 obtain⟨n,t,f⟩:=g.first;rw[e,F3,z,Jy]at f;cases r with
 | pl n=>cases h
 | th n s=>cases h
 | bx n=>simp[plc]at f
 | lk n k=>simp[plc]at f
def Good.ndP (g:Good rs):((plc rs).map (·.1)).Nodup:=((Dj.mp ((F8 rs).nodup_iff.mp g.nd))).1
def Good.ndT (g:Good rs):((BD rs).map (·.1)).Nodup:=((Dj.mp ((F8 rs).nodup_iff.mp g.nd))).2.1
end Rk
namespace Rk
open PySem PyProof.Rows L2 Tx
theorem WW (c:Nat):∀l:List Nat,cnt c l=(l.count c:Int)
 | []=>by rw[cnt_nil];rfl
 | n::r=>by
  rw[cnt_cons,WW c r,List.count_cons];by_cases h:n=c
  ·simp[h];lia
  simp[h]
def tG:cs blank=[32]:=by decide +kernel
theorem Ji:∀ps:List Str,cs (Str.join blank ps)=J (ps.map cs)
 | []=>rfl
 | [a]=>rfl
 | a::b::r=>by show cs (a++blank++Str.join blank (b::r))=cs a++32::J (cs b::r.map cs);rw[AZ,AZ,Ji (b::r),tG];simp
theorem VF:∀{xs ys:List Str},xs.map cs=ys.map cs->xs=ys
 | [],[],_=>rfl
 | [],_::_,h=>by simp at h
 | _::_,[],h=>by simp at h
 | x::xs,y::ys,h=>by (simp[Bg,Mm]at h);rw[BF h.1,VF h.2]
def Us {ws:List Str}(e:ws≠[])(h:cs x=J (ws.map cs))(d:∀w∈ws,32∉cs w):Txt.split x blank=ws:=by
 have a:=split_len x 32;rw[<- uK,WW]at a;have e1:J ((Txt.split x blank).map cs)=cs x:=by rw[<- Ji,(StrLaws.join_split x blank)]
 have j:=XC ((Txt.split x blank).map cs);have c:Txt.split x blank≠[]:=λz=>by rw[z]at a;simp at a;lia
 rw[Ag (by simpa using c),e1,Ah]at j;have g:(cs x).count 32=x.cps.toList.count 32:=rfl
 have b:∀p∈(Txt.split x blank).map cs,32∉p:=λp b=>by have:=Uo Ψ (p.count 32) (HM b);exact List.count_eq_zero.mp this
 refine VF (XB (by simpa using c) (by simpa using e) b (λw i=>?_) (e1.trans h));obtain⟨v,f,rfl⟩:=AK.mp i;exact d v f
def XQ (r:Ro):r.words≠[]:=by cases r <;> exact Bo _ _
def YX {r:Ro}(h:r.nv):Txt.split r.txt blank=r.words:=Us (XQ r) (tF r) (Ro.noblank h)
def Nv.ok (h:Nv x):PySem.PyData.strOk x=true:=NZ λc a=>by have:=h.low c a;lia
def Nv.ascii (h:Nv x):x.cps.all (· < 128)=true:=by rw[SU];intro c a;have:=h.low c (by simpa [cs] using a);(exact AV Ψ)
def pS (a:97<=c)(b:c<=122):(!(Builtin.Str.occurrences abc ⟨#[c]⟩ 0 abc.length 1).isEmpty)=true:=by
 have h:∀n:Nat,n<26->(!(Builtin.Str.occurrences abc ⟨#[97+n]⟩ 0 abc.length 1).isEmpty)=true:=by decide +kernel
 have:=h (c-97) Ψ;rw[show 97+(c-97)=c by lia]at this;exact this
theorem DH (x:Str):∀ys:List Str,Fu (.str x) (ys.map V.str)=decide (x∈ys)
 | []=>rfl
 | y::ys=>by
  show(DW (.str y) (.str x) || Fu (.str x) (ys.map V.str))=_;rw[DH x ys];by_cases h:y=x
  ·subst h;simp[DW]
  have h':¬x=y:=λe=>h e.symm;simp[DW,h,h']
theorem flat_strs:∀ys:List Str,(ys.map V.str).all ED=true
 | []=>rfl
 | _::ys=>by rw[Bg,OF,flat_strs ys];rfl
def shK (rs:List Ro):List (Key×V):=(BD rs).map λx=>(Sum.inr x.1,.str x.2)
end Rk
namespace Rk
open PySem PySem.Spec PyProof.Rows L2 Tx
def Pz {ws:List Str}(b:ws≠[])(a:∀w∈ws,32∉cs w):Txt.split (Txt.join blank ws) blank=ws:=by refine Us b ?_ a;rw[<- Ji];exact A5 cs (Gi blank ws)
def Lo (p:Str×Bool×Option Str)(l:Str):Prop:=l = "open" \/ (l = "shut" /\ p.2.1=true)\/(l = "locked" /\ p.2.2.isSome=true)
theorem VM {b:Type}:∀{a:List (List b)}{h:List b},h∈a->h.length<=a.flatten.length
 | y::r,h,hm=>by
  rw[List.flatten_cons,AM];rcases(Ar.mp hm)with e | e
  ·rw[e];lia
  have:=VM e;lia
end Rk
namespace SK
open PySem PyProof.Rows
def dd {κ:Type}[DecidableEq κ](val:Nat->κ):Nat->List κ
 | 0=>[]
 | i+1=>if val i∈dd val i then dd val i else dd val i++[val i]
section
variable {κ:Type} [DecidableEq κ] {val:Nat->κ}
theorem dd_le:∀i:Nat,(dd val i).length<=i
 | 0=>An _
 | i+1=>by
  have a:=dd_le i;show(if val i∈dd val i then dd val i else dd val i++[val i]).length<=i+1;split
  ·lia
  rw[AM];show(dd val i).length+1<=i+1;lia
theorem Sg:∀{i:Nat}{x:κ},x∈dd val i->∃j,j<i/\x=val j
 | 0,_,h=>nomatch h
 | i+1,x,h=>by
  have h':x∈(if val i∈dd val i then dd val i else dd val i++[val i]):=h;split at h'
  ·obtain⟨j,a,e⟩:=Sg h';exact⟨j,Ψ,e⟩
  rcases Br.mp h' with z | z
  ·obtain⟨j,a,e⟩:=Sg z;exact⟨j,Ψ,e⟩
  exact⟨i,Ψ,AF.mp z⟩
theorem dd_full (inj:∀i j,i<n->j<n->val i=val j->i=j):∀i:Nat,i<=n->(dd val i).length=i
 | 0,_=>rfl
 | i+1,h=>by
  show(if val i∈dd val i then dd val i else dd val i++[val i]).length=i+1;rw[Ag,AM,(dd_full inj i Ψ)]
  ·rfl
  intro z;obtain⟨j,a,e⟩:=Sg z;have:=inj i j Ψ Ψ e;lia
def dd_step (i:Nat)(x:κ):decide (x∈dd val (i+1))=(decide (x∈dd val i) || decide (x=val i)):=by
 show decide (x∈(if val i∈dd val i then dd val i else dd val i++[val i]))=_;by_cases h:val i∈dd val i
 ·rw[As h];by_cases e:x=val i
  ·subst e;simp[h]
  simp[e]
 rw[Ag h];simp[Br]
def dd_size (i:Nat):(dd val (i+1)).length=if decide (val i∈dd val i)=true then(dd val i).length else(dd val i).length+1:=by
 show(if val i∈dd val i then dd val i else dd val i++[val i]).length=_;by_cases h:val i∈dd val i
 ·rw[As h,As (AV h)]
 rw[Ag h,Ag (by simpa using h),AM];rfl
end
section
variable {prog:Program}{w:World}{κ:Type} [DecidableEq κ] {knd:KeyKind prog w κ}{A:Around}{R:Result->Shared->Prop}{I:Addr}{fp wr:List Addr}{G:Array GenState->Array GenState->Prop}{n:Nat}{P:Nat->Value->Prop}{St:Nat->Shared->Prop}
def kept {S:Addr}{h h':Heap}{f:κ->Bool}{m:Nat}(q:h.SetOf knd S f m)(e:∀o,h.get? S=some o->h'.get? S=some o):h'.SetOf knd S f m:=by obtain⟨o,a,ep,t,b,r⟩:=q;exact⟨o,a,ep,t,e o b,r⟩
def Ot {S:Addr}{h:Heap}{f g:κ->Bool}{m k:Nat}(q:h.SetOf knd S f m)(e:∀x,f x=g x)(a:m=k):h.SetOf knd S g k:=by have:=funext e;subst this a;exact q
def R6 (W:WalksS prog w A.in1 I fp wr G n P St)(S:Addr)(D:S∉fp)(val:Nat->κ)(F:∀i v,P i v->knd.is (val i) v=true/\v.scannable=true)(l:n+1<scanBound) :
  ∀(k i:Nat) (s:Shared),n-i=k->i<=n->St i s->s.heap.SetOf knd S (λx=>decide (x∈dd val i)) (dd val i).length ->
   (∀s',Moved (S::wr) G s s'->s'.heap.SetOf knd S (λx=>decide (x∈dd val n)) (dd val n).length->R (.ok (.ret .none)) s') ->
   (codeAny (model prog w) A (.builtin "set.update.loop" ⟨[.ref S,.ref I],[]⟩) R s):=by
 have C:S∉wr:=λh=>D (W.sub _ h)
 have sub:∀b∈wr,b∈S::wr:=λb z=>Bc _ z
 intro k
 induction k with
 | zero=>
  intro i s K E st p a;obtain rfl:i=n:=by lia
  apply Ea OB;rw[E4 Jo _];exact Ab (m:=pyNext (.ref I)) (W.done s _ _ st λg c=>Ae (a g (c.mono sub) (kept p λo e=>c.heap S o C e)))
 | succ k ih=>
  intro i s K E st p a;have lt:i<n:=by lia
  apply Ea OB;rw[E4 Jo _];refine Ab (W.item i s _ _ lt st λv g L y c=>?_);obtain⟨j,sc⟩:=F i v L;refine Ab (B9 ?_);refine B9 (Ab (knd.pyHash j ?_));have f:(dd val i).length+1<scanBound:=by have:=dd_le (val:=val) i;lia
  refine wpAny_setAddHashed_of (knd:=knd) j sc (kept p λo e=>c.heap S o C e) f λB H r=>?_;have d:∀b o,b≠S->g.heap.get? b=some o->B.get? b=some o:=λb o z e=>(H.2 b z).trans e;refine Ae ⟨Fc Jo _,ih (i+1) _ Ψ lt (W.frame _ g B (g.toks+1) y (Dm _) λb l o e=>d b o (λz=>D (z ▸ l)) e) (Ot r (λx=>(dd_step i x).symm) (dd_size i).symm) λs2 u q=>?_⟩;refine a s2 (Moved.trans W.gtrans ((c.mono sub).then_heap (Dm _) λb o l e=>d b o (λz=>l (z ▸ Bb)) e) u) q
end
section
variable {prog:Program}{w:World}{κ:Type} [DecidableEq κ] {knd:KeyKind prog w κ}{A:Around}{E:Value->Shared->Prop}{s:Shared}
abbrev CJ (led:Bool):Obj:={ cls:=.type "set",dict:=none,data:=.set #[] 0 (.fresh 0 0 led) }
set_option maxHeartbeats 3300000 in
def make {val:Nat->κ} (hh:A.handled=none)(hl:s.heap.IsList l items)(hv:∀i v,items[i]? = some v->knd.is (val i) v=true/\v.scannable=true)(W:items.size+1<scanBound)
  (q:∀(h':Heap) (tk:Nat),h'.SetOf knd s.heap.objs.size (λx=>decide (x∈dd val items.size)) (dd val items.size).length->(∀b o,s.heap.get? b=some o->h'.get? b=some o)->Q (.ref s.heap.objs.size) { s with heap:=h',toks:=tk }) :
  (wpAny (model prog w) A (call (.type "set") [.ref l]) Q E s):=by
 obtain⟨c,tl,L⟩:=Dk.mro
 have B:=Dk.made
 have K:=Dk.sub
 refine Jt (codeAny_of_tree (show wpAny _ _ (callAny (.type "set") _) _ _ _ from ?_))
 refine Ae ⟨SS _ Δ,Ea PySem.F.entry_type_call ?_⟩
 (rw[Around.under_plain (weight_type_call_type "set" [.ref l] []) rfl])
 have h1:=Dk.notType
 have h2:=Dk.canCreate
 have a4:=PySem.F.typeCall_set_1 (.ref l)
 (repeat (any_goals (first | assumption | wp_step)))
 refine FJ (code_set_new_1 (.ref l) (E:=E) (Q₁:=λN H=>∃a:Bool,N=.ref s.heap.objs.size/\H={ s with heap:=s.heap.push { cls:=.type "set",dict:=none,data:=.set #[] 0 (.fresh 0 0 a) } }) λa=>⟨a,U,U⟩) λr H u=>?_
 cases r with
 | error e=>exact u
 | ok fl=>
  cases fl with
  | ret N=>
   obtain⟨a,rfl,rfl⟩:=u;have M:(s.heap.push (CJ a)).get? s.heap.objs.size=some (CJ a):=A4 _ U;have hT:Shared.TypeIs { s with heap:=s.heap.push (CJ a) } (.ref s.heap.objs.size) "set" := ⟨_,M,U⟩;have a0:=Dk.init.lookup;have a3:=Dk.init.bind (.ref s.heap.objs.size);(repeat (any_goals (first | assumption | wp_step)));refine FJ (OR (R:=wants (λr s2=>r=.none/\∃h' tk,s2={ s with heap:=h',toks:=tk }/\h'.SetOf knd s.heap.objs.size (λx=>decide (x∈dd val items.size)) (dd val items.size).length /\ (∀b o,s.heap.get? b=some o->h'.get? b=some o)) E) Dk.init.plain PySem.F.entry_set_init (check_set_init_1 hT ?_)) λr2 s2 g=>?_
   ·obtain⟨⟨G,f,D,d⟩,h,p,F,n⟩:=hl;simp only at p n;subst p n;have j:(s.heap.push (CJ a)).get? l=some { cls:=.type "list",dict:=f,data:=.seq items F,slots:=d }:=Ax _ h;have x1:=PySem.F.sub_list_set;have x2:=Xn;have x3:(Value.type "list" == Value.type "dict")=false:=by decide
    have m:(s.heap.push (CJ a)).IsList l items:=⟨_,j,U,F,U⟩;(unfold Builtin.«set.__init__» noKeywords Builtin.Frozenset.updateFrom);generalize hPI:pyIter=PI;wp_walk;subst hPI;(apply HG m);(refine Ab (wpAny_runValue ?_));have lt:l<s.heap.objs.size:=AH h;have sz:(s.heap.push (CJ a)).objs.size=s.heap.objs.size+1:=C1 ..;(have y:A.in1.in1.in1.handled=none:=by simp[hh]);have z:l≠(s.heap.push (CJ a)).objs.size:=by rw[sz];exact Bd (FL lt)
    have nS:s.heap.objs.size∉[(s.heap.push (CJ a)).objs.size,l]:=by rw[sz];simp only[Ar,AS,AQ,E6];exact⟨Bd (FK _),Dy lt⟩
    refine R6 (knd:=knd) ((L5 y _ l z items).toS) s.heap.objs.size nS val hv W (items.size-0) 0 _ Ψ (Bt _) ⟨⟨_,A4 _ U,U,U⟩,m.push _⟩ ?_ λs3 T q3=>?_
    ·exact Ot ((PyProof.Rows.setObjOf_fresh a).setOf (Ax ({ cls:=.type "list_iterator",data:=.fields #[.ref l,.int 0 0] }:Obj) M) Ψ) (λx=>by simp[dd]) U
    obtain⟨h3,g3,d3,C,P⟩:=s3;obtain⟨m1,m2,m3,m4,m5⟩:=T;have X:=m2;have ed:=m3;have S:=m4;subst X ed S;refine Ae (Ae ⟨U,h3,C,U,q3,λb o e=>m1 b o ?_ (Ax _ (Ax _ e))⟩);have I:=AH e;rw[sz];simp[Ar,AS,AQ,E6];exact⟨Bd I,Bd (FL I)⟩
   cases r2 with
   | error e=>exact g
   | ok fl2=>
    cases fl2 with
    | ret r=>obtain⟨rfl,h',tk,rfl,a1,a2⟩:=g;(repeat (any_goals (first | assumption | wp_step)));exact q _ _ a1 a2
    | _=>exact g.elim
  | _=>exact u.elim
end
end SK
namespace L2
open PySem PySem.Spec PyProof.Rows
theorem Pl:∀{xs:List V}{us:List Value},xs.length=us.length->(∀(i:Nat) x u,xs[i]? = some x->us[i]? = some u->RelV x u)->Vals xs us
 | [],[],_,_=>.nil
 | [],_::_,h,_=>by(simp at h)
 | _::_,[],h,_=>by(simp at h)
 | x::xs,u::us,h,r=>.cons (r 0 x u U U) (Pl (by simpa using h) λi y v a b=>r (i+1) y v (by simpa using a) (by simpa using b))
theorem KV.get:∀{kvs:List (Key×V)}{vs:List (Key×Value)}{i:Nat}{k:Key}{u:Value},KV kvs vs->vs[i]? = some (k,u)->∃v,kvs[i]? = some (k,v)/\RelV v u
 | _,_,_,_,_,.nil,e=>by simp at e
 | _,_,0,_,_,.cons (a:=p) r _,e=>by simp at e;subst e;obtain⟨e1,e2⟩:=r;obtain⟨f,c⟩:=p;cases e1;exact⟨c,U,e2⟩
 | _,_,i+1,_,_,.cons _ t,e=>by obtain⟨v,b,d⟩:=KV.get t (by simpa using e);exact⟨v,by simpa using b,d⟩
section
variable {X:Cx}
def Ou (w:X.calm=true):Ce X (.type "list") (λxs H Q=>∃p kvs,xs=[.ref p]/\Rd H p (.dK kvs)/\∀l,H l=none->Q (.ref l) (upd H l (.lst (kvs.map λf=>kV f.1)))):=by
 rintro m s M H xs us Q I r⟨p,kvs,rfl,L,q⟩;obtain⟨u,rfl,E⟩:=Cm r;cases E;obtain⟨hz,A,vs,e,K⟩:=Fz I.hok L;obtain⟨ep,g⟩:=K.dictAt;have C:=e.length;refine PySem.W.kdl_call (PySem.W.kdl_dict (knd:=B2 X.prog X.w) (kvs:=vs) (ep:=ep) A) (I.ok.hd w) g Ψ λh' tk d c G D b=>⟨.ref _,_,I.laid (a:=s.heap.objs.size) (o:=.lst (kvs.map λf=>kV f.1)) G (An _) ⟨by rw[Ah];exact hz,d.toList,c,Pl ?_ λi x u n B=>?_,D⟩,U,q _ (I.hok.fresh (An _))⟩
 ·have F:d.toList.length=d.size:=by simp
  rw[Ah,F,b.1,C]
 obtain⟨k,z,e1,e2⟩:=b.2 i u (by simpa using B);obtain⟨v,e3,_⟩:=KV.get e e1;rw[AU,e3]at n;have h:=(Bh n).symm;subst h;rcases Dp (show DT k u=true from e2)with⟨j,t,rfl,rfl⟩ | ⟨y,t,rfl,rfl⟩
 ·exact⟨t,U⟩
 exact⟨t,U⟩
def Ox (B:X.calm=true):Ce X (.builtin "all") (λxs H Q=>∃(p:Addr) (bs:List Bool),xs=[.ref p]/\Y X.K H p (bs.map V.bl)/\Q (.bl (bs.all λb=>b)) H):=by
 rintro y s N H xs us Q I r⟨p,bs,rfl,G,q⟩;obtain⟨u,rfl,w⟩:=Cm r;cases w;obtain⟨f,A,m,hz⟩:=I.list G;have c:=A.length;rw[Ah]at c;have l:p<s.heap.objs.size:=by obtain⟨o,n,e,_⟩:=m;exact AH e
 refine call_all_walk (HG m.isList ⟨s.heap.objs.size,_,_,_,_,_,λi=>bs.getD i true,U,L5 (show X.A.in1.handled=none from I.ok.hd B) _ p (Bd l) f.toArray,⟨⟨_,A4 _ U,U,U⟩,m.isList.push _⟩,λi v s2 M K F D=>?_,λh' tk E=>?_⟩)
 ·have d:f[i]? = some v:=by simpa using F
  have h:i<bs.length:=by have:=(AW.mp d).1;lia
  obtain⟨L,j,w⟩:=A.get (i:=i) (x:=.bl bs[i]) (by simp[h]);rw[d]at j;cases j;cases w;apply EK;have e:bs.getD i true=bs[i]:=by simp[List.getD,h]
  rw[<- e];exact D
 refine⟨.bl _,H,I.kept (λb o e=>E b o ?_ (Ax _ e)),U,?_⟩
 ·intro z;rw[AF]at z;exact absurd (AH e) (z▸CM _)
 have e:(List.range f.toArray.size).all (λi=>bs.getD i true)=bs.all λb=>b:=by
  rw[Bx,<- c];(rw[EI,E8,E8]);constructor
  ·intro a b C;(obtain⟨i,d,rfl⟩:=List.getElem_of_mem C);have:=a i (Dz.mpr d);simpa [List.getD,d] using this
  intro a i d;(have g:=Dz.mp d);have:=a bs[i] (Cb g);simpa [List.getD,g] using this
 rw[e];exact q
def Ig (P:Program)(w:World)(a:Addr)(n:Nat):HO:=.ext λh=>∃S,h.SetOf (B2 P w) a S n
def B8 (ks:List Key)(i:Nat):Key:=ks.getD i (.inl 0)
def Sl (w:X.calm=true):Ce X (.type "set") (λxs H Q=>∃p ks,xs=[.ref p]/\Y X.K H p (ks.map kV)/\ks.length<=1000/\∀a,H a=none->Q (.ref a) (upd H a (Ig X.prog X.w a (SK.dd (B8 ks) ks.length).length))):=by
 rintro m s M H xs us Q I r⟨p,ks,rfl,E,K,q⟩;obtain⟨u,rfl,c⟩:=Cm r;cases c;obtain⟨f,n,B,hz⟩:=I.list E;have b:=n.length;rw[Ah]at b;refine SK.make (knd:=B2 X.prog X.w) (val:=B8 ks) (I.ok.hd w) B.isList (λi v C=>?_) (by rw[Bx];unfold scanBound;lia) λh' tk h D=>?_
 ·have l:f[i]? = some v:=by simpa using C
  have d:i<ks.length:=by have:=(AW.mp l).1;lia
  obtain⟨L,g,c⟩:=n.get (i:=i) (x:=kV ks[i]) (by simp[d]);rw[l]at g;cases g;have e:B8 ks i=ks[i]:=by simp[B8,List.getD,d]
  rw[e];refine⟨Fq c,?_⟩;cases hkk:ks[i]with
  | inl j=>rw[hkk]at c;obtain⟨t,rfl⟩:=c;rfl
  | inr y=>rw[hkk]at c;obtain⟨t,rfl⟩:=c;rfl
 have A:f.toArray.size=ks.length:=by simp[b]
 rw[A]at h;refine⟨.ref _,_,I.laid (o:=Ig X.prog X.w s.heap.objs.size (SK.dd (B8 ks) ks.length).length) D (An _) ⟨⟨_,h⟩,?_,λG F f1 e=>?_⟩,U,q _ (I.hok.fresh (An _))⟩
 ·obtain⟨o,_,_,_,e,_⟩:=h;exact⟨o,e⟩
 obtain⟨S,z⟩:=f1;exact⟨S,SK.kept z e⟩
def Sm:Ce X (.builtin "len") (λxs H Q=>∃a n,xs=[.ref a]/\H a=some (Ig X.prog X.w a n)/\Q (.int n) H):=by rintro b s l H xs us Q I r⟨a,n,rfl,f,q⟩;obtain⟨u,rfl,i⟩:=Cm r;cases i;obtain⟨⟨S,o,j,ep,t,h,ex,g,_,_,e,d,c⟩,_,_⟩:=I.hok a _ f;refine call_len_set h ex g d (by unfold scanBound at e;lia) ⟨.int n,H,I.tok _,⟨_,by rw[c]⟩,q⟩
end
def XF (x:Str):It:=⟨λi _=>i<x.cps.size,λi H v H'=>H'=H/\∃c,x.cps[i]? = some c/\v=.str ⟨#[c]⟩,λi _=>x.cps.size<=i⟩
theorem X4 {P:Program}{w:World}{K:W.Frag}{A:Expr}(it:Addr)(x:Str)(t:Tok):El P w K A (XF x) [it] it (λi h=>h.IsStrIter it "str_ascii_iterator" x t i) where
 mem:=by simp
 obj:=λi h st b a=>by
  have e:b=it:=by simpa using a
  subst e;obtain⟨o,e,c,d⟩:=st;exact⟨o,e,λv z=>by rw[d]at z;cases z⟩
 keep:=λi h h' st k=>by obtain⟨o,e,r⟩:=st;exact⟨o,k it Θ o e,r⟩
 item:=by intro X q n m y i g s D H E I l st p;subst q n m;obtain⟨u,f1,f2,f3,f4,f5⟩:=l it Θ;have j:i<x.cps.size:=p;refine wpAny_pyNext_ascii_item st (c:=x.cps[i]) (by simp[j]) λh' f C=>?_;obtain⟨o,e,c,d⟩:=id f;exact⟨_,U,Jc e c d Ξ ⟨.str ⟨#[x.cps[i]]⟩,H,I.turned (λb o a e=>(C.2 b a).trans e) u f1 f3 f4 f5,⟨_,U⟩,⟨U,_,by simp[j],U⟩,f,λb a=>(l b a).1⟩⟩
 done:=by intro X q n m y i g s D H E I l st p;subst q n m;obtain⟨u,f1,f2,f3,f4,f5⟩:=l it Θ;have j:x.cps.size<=i:=p;exact wpAny_pyNext_ascii_end (I.ok.hd y) st (by simp[j]) λh' B=>⟨U,I.turned (λb o a e=>B b o a e) u f1 f3 f4 f5⟩
 self:=λ_ _ _ _ _ st h=>wpAny_pyIter_striter_ascii st h
def pW (tl:TE):TI:=λσ H R=>tl σ H λv H1=>∃x,v=.str x/\x.cps.all (· < 128)=true/\R (XF x) H1
def Vb (m:PE X l tl):PI X tg l (pW tl):=by
 intro a s p H R I h;refine thn (m a s p H _ I h) ?_;rintro v c⟨y,f,d,n,j⟩;obtain⟨x,e,i,q⟩:=j;subst e;obtain⟨t,rfl⟩:=n;refine wpAny_pyIter_ascii i ⟨c.heap.objs.size,[c.heap.objs.size],_,_,f,U,d.kept λb o e=>Ax _ e,X4 _ x t,⟨_,A4 _ U,U,U⟩,λb g=>?_,q⟩;have e:b=c.heap.objs.size:=by simpa using g
 subst e;exact d.fpOk (An _) (d.hok.fresh (An _))
end L2
namespace ZN
open PySem PyProof.Rows
end ZN
namespace L2
open PySem PySem.Spec PyProof.Rows
theorem KV.get2:∀{kvs:List (Key×V)}{vs:List (Key×Value)}{i:Nat}{k:Key}{v:V},KV kvs vs->kvs[i]? = some (k,v)->∃u,vs[i]? = some (k,u)/\RelV v u
 | _,_,_,_,_,.nil,e=>by simp at e
 | _,_,0,_,_,.cons (b:=p) r _,e=>by simp at e;subst e;obtain⟨e1,e2⟩:=r;obtain⟨f,c⟩:=p;cases e1;exact⟨c,U,e2⟩
 | _,_,i+1,_,_,.cons _ t,e=>by obtain⟨v,a,d⟩:=KV.get2 t (by simpa using e);exact⟨v,by simpa using a,d⟩
def HV (v a:Addr):HO:=.ext λh=>h.IsValuesView v a
section
variable {X:Cx}
def mI:Ff X "dict.values" (λx xs H Q=>∃a kvs,x=.ref a/\xs=[]/\H a=some (.dK kvs)/\∀v,H v=none->Q (.ref v) (upd H v (HV v a))):=by rintro d s u H x xs v us Q I l h⟨a,kvs,rfl,rfl,j,q⟩;cases l;cases h;obtain⟨hz,i,vs,g,c⟩:=Gc I.hok j;refine Gn PySem.F.slot_dict_values c.typeIs PySem.F.entry_dict_values (PySem.F.args_dict_values_1 _) (meets_dict_values (B2 X.prog X.w) a i) ⟨⟨vs,c⟩,.ref s.heap.objs.size,_,I.laid (t':=s.toks) (o:=HV s.heap.objs.size a) (λb o e=>Ax _ e) (An _) ⟨⟨_,A4 _ U,U,U⟩,⟨_,A4 _ U⟩,λn p f e=>?_⟩,U,q _ (I.hok.fresh (An _))⟩;obtain⟨o,m,r⟩:=f;exact⟨o,e o m,r⟩
def Inv.freeze (I:Inv X dg σ H s)(g:H a=some (.dK kvs))(j:s.heap.get? a=some o):Inv X dg σ (upd H a (.frz o (.dK kvs))) s:=by
 have h:∀b,H b=none->b≠a:=λb e z=>by rw[z,g]at e;cases e
 have keep:∀b u,H b=some u->u≠.dK kvs->upd H a (.frz o (.dK kvs)) b=some u:=λb u e d=>by rw[Ao (Ba e g d)];exact e
 have st:Inv X dg σ (upd H a (.frz o (.dK kvs))) { s with heap:=s.heap,gens:=s.gens,drawn:=s.drawn,toks:=s.toks }:=by
  refine I.step (ch:=[]) (λb f=>nomatch f) (λb o _ _ _ e _=>e) (λb o _ _ _ e _=>⟨o.slots,e⟩) (λb o _ e n=>by rw[Ao (h b n)];exact n) (λb o _ e=>⟨o,e⟩)
   (λb xs e=>keep b _ e nofun) (λb o u e=>keep b _ e nofun) (λb ps e=>⟨#[],by rw[keep b _ e nofun];simp⟩) (λm i=>i) (λb u e=>?_) I.bare
  by_cases f:b=a
  ·subst f;rw[Af]at e;cases e;exact⟨j,I.hok _ _ g⟩
  rw[Ao f]at e;exact(I.hok b u e).stay (λc v _ q=>q) (λc q=>keep c _ q nofun) λc xs q=>keep c _ q nofun
 exact st
end
def My (a:Addr)(o:Obj)(kvs:List (Key×V)):It:=
 ⟨λi H=>i<kvs.length/\H a=some (.frz o (.dK kvs)),λi H x H'=>H'=H/\∃k,kvs[i]? = some (k,x),λi H=>kvs.length<=i/\H a=some (.frz o (.dK kvs))⟩
def Oo (I:Inv X dg σ H s)(h:H a=some (.frz o (.dK kvs)))(e:o.data=.dict es ep) :
  ∃vs,KV kvs vs/\s.heap.DictAt (B2 X.prog X.w) a vs ep:=by
 obtain⟨f,hz,l,vs,d,j,i,g,c,ex,b,r⟩:=I.hok a _ h
 rw[f]at c
 cases c
 rw[e]at b
 cases b
 exact⟨vs,d,o,es,f,ex,e,r⟩
theorem X2 {P:Program}{w:World}{K:W.Frag}{M:Expr}(it a:Addr)(o:Obj)(kvs:List (Key×V))(N:Array DictEntry)(ep:Nat)(L:o.data=.dict N ep) :
  El P w K M (My a o kvs) [it] it (λi h=>h.IsValIter it a i kvs.length ep) where
 mem:=by simp
 obj:=λi h st b g=>by
  have e:b=it:=by simpa using g
  subst e;obtain⟨o,e,c,d⟩:=st;exact⟨o,e,λv z=>by rw[d]at z;cases z⟩
 keep:=λi h h' st k=>by obtain⟨o,e,r⟩:=st;exact⟨o,k it Θ o e,r⟩
 item:=by intro X B x q D i m s σ H E I p st y;subst B x q;obtain⟨C,f1,f2,f3,f4,f5⟩:=p it Θ;obtain⟨F,A⟩:=y;obtain⟨vs,f,l⟩:=Oo I A L;have n:=f.length;have G:=Ay F;obtain⟨u,Q,S⟩:=KV.get2 f G;rw[n]at st;refine wpAny_pyNext_values_item st l Q λh' j T=>?_;obtain⟨o',e,c,d⟩:=id j;rw[<- n]at j;exact⟨u,U,Jc e c d Ξ ⟨kvs[i].2,H,I.turned (t':=s.toks) (λb o g e=>(T.2 b g).trans e) C f1 f3 f4 f5,S,⟨U,_,G⟩,j,λb g=>(p b g).1⟩⟩
 done:=by intro X B x q D i m s σ H E I p st y;subst B x q;obtain⟨C,f1,f2,f3,f4,f5⟩:=p it Θ;obtain⟨F,A⟩:=y;obtain⟨vs,f,l⟩:=Oo I A L;have n:=f.length;rw[n]at st;exact wpAny_pyNext_values_end (I.ok.hd D) st l (OO Ψ) λh' R=>⟨U,I.turned (λb o g e=>R b o g e) C f1 f3 f4 f5⟩
 self:=λ_ _ _ _ _ st h=>wpAny_pyIter_valiter st h
def pU (tl:TE):TI:=λσ H R=>tl σ H λx H1=>∃v a kvs,x=.ref v/\H1 v=some (HV v a)/\H1 a=some (.dK kvs)/\∀o,R (My a o kvs) (upd H1 a (.frz o (.dK kvs)))
def bN (z:PE X l tl):PI X tg l (pU tl):=by
 intro c s D H R I h;refine thn (z c s D H _ I h) ?_;rintro u m⟨x,w,f,A,C⟩;obtain⟨v,a,kvs,rfl,B,i,q⟩:=C;cases A;obtain⟨hz,E,vs,j,o,n,ep,g,ex,p,r⟩:=Gc f.hok i;obtain⟨d,_,_⟩:=f.hok v _ B;refine wpAny_pyIter_values d ⟨o,n,g,ex,p,r⟩ ⟨m.heap.objs.size,[m.heap.objs.size],_,_,upd w a (.frz o (.dK kvs)),U,(f.freeze i g).kept (λb o e=>Ax _ e),X2 _ a o kvs n ep p,⟨_,A4 _ U,U,by rw[j.length] <;> rfl⟩,λb y=>?_,q o⟩;have e:b=m.heap.objs.size:=by simpa using y
 subst e;exact(f.freeze i g).fpOk (An _) ((f.freeze i g).hok.fresh (An _))
def JM (K:W.Frag)(v:V)(d:PyData):Prop:=∀(h:Heap) (u:Value),K.In h->RelV v u->∃as,Reads h u d as
def Di:List Value->Option (List V)
 | []=>some []
 | u::r=>match Dt u,Di r with
  | some v,some vs=>some (v::vs)
  | _,_=>none
def EV (h:Dt u=some v):RelV v u:=by
 cases u with
 | none=>cases h;rfl
 | bool b=>cases h;rfl
 | int i t=>cases h;exact⟨t,U⟩
 | str x t=>cases h;exact⟨t,U⟩
 | bytes b t=>cases h;exact⟨t,U⟩
 | float b t=>cases h;exact⟨t,U⟩
 | ref a=>cases h;rfl
 | type n=>cases h;rfl
 | _=>cases h
theorem DB:∀{us:List Value}{vs:List V},Di us=some vs->Vals vs us
 | [],_,h=>by cases h;exact .nil
 | u::r,vs,h=>by
  unfold Di at h;cases e1:Dt u with
  | none=>rw[e1]at h;cases h
  | some v=>
   cases e2:Di r with
   | none=>rw[e1,e2]at h;cases h
   | some ws=>rw[e1,e2]at h;cases h;exact .cons (EV e1) (DB e2)
def Wm:V->Option PyData
 | .non=>some .none
 | .int i=>some (.int i)
 | .str x=>some (.str x)
 | _=>none
def aB (e:Wm v=some d)(r:RelV v u):∃as,Reads h u d as:=by
 cases v with
 | non=>cases e;cases r;exact⟨_,.none⟩
 | int i=>cases e;obtain⟨t,rfl⟩:=r;exact⟨_,.int i t⟩
 | str x=>cases e;obtain⟨t,rfl⟩:=r;exact⟨_,.str x t⟩
 | _=>cases e
def UN :∀{vs:List V}{ds:List PyData}{us:List Value},Vals vs us->Paired (λv d=>∀u,RelV v u->∃c,Reads h u d c) vs ds->∃c,ReadsAll h us ds c
  :=by
 intro v d u a p;induction p generalizing u with
 | nil=>cases a;exact⟨_,.nil⟩
 | cons p q i=>cases a with|cons r s=>obtain⟨c,a⟩:=p _ r;obtain⟨d,b⟩:=i s;exact⟨_,.cons a b⟩
def Ku {K:W.Frag}{a:Addr}{g:Option Addr}{c:Array Value}{n:Nat}{j:Array (Option Value)}{vs:List V}{ds:List PyData}(l:K.lookup a=some ⟨.type "tuple",g,.seq c n,j⟩)(ab:Di c.toList=some vs)(r:Paired (JM K) vs ds):JM K (.ref a) (.tuple ds):=by
 intro h u b f;cases f
 have i:∀{vs:List V}{ds:List PyData},Paired (JM K) vs ds->Paired (λv d=>∀u,RelV v u->∃e,Reads h u d e) vs ds:=by
  intro vs ds p;induction p with
  | nil=>exact .nil
  | cons a _ ih=>exact .cons (λu f=>a h u b f) ih
 obtain⟨e,q⟩:=UN (DB ab) (i r);exact⟨e,.tuple (b a _ l) U U q⟩
def FZ {K:W.Frag}{v:V}{d:PyData}(e:Wm v=some d):JM K v d:=λ_ _ _ r=>aB e r
section
variable {X:Cx}
def aO (K:W.Frag):R2:=λx y H Q=>∃d ds,RdV H x d/\JM K y (.tuple ds)/\PySem.SeqAt.shaped d=true/\PySem.SeqAt.shaped (PyData.tuple ds)=true/\Q (.bl (!ds.any λe=>PyData.eqv e d)) H
def cL (h:X.A.units+65<cLine):Bu X (compareOp .NotIn) (aO X.K):=by rintro e s n H x y v u Q I l i⟨d,ds,j,f,c,g,q⟩;obtain⟨m,a⟩:=j.reads I.hok l;obtain⟨bs,b⟩:=f s.heap u I.kIn i;exact PySem.SeqAt.notIn_tuple_reads b a (Mu g) (Mu c) (room_in_shaped c h) ⟨.bl _,H,I,U,q⟩
def Wy (x:Str):Str.empty++x=x:=by
 cases x with | mk a=>
 show Str.mk (#[]++a)=Str.mk a;rw[Array.empty_append]
theorem Uq:∀{ys:List Str}{us:List Value},Vals (ys.map V.str) us->StrsAre us ys
 | [],_,h=>by cases h;exact .nil
 | y::ys,_,h=>by
  cases h with
  | cons r t=>obtain⟨tk,rfl⟩:=r;exact .cons y tk (Uq t)
def mJ:Ff X "str.join" (λx xs H Q=>∃a p ys,x=.str a/\xs=[.ref p]/\Y X.K H p (ys.map V.str)/\(ys.map (·.length)).sum+ys.length*a.length<=16777216/\Q (.str (Txt.join a ys)) H):=by rintro b s i H x xs v us Q I g c⟨a,p,ys,rfl,rfl,h,hz,q⟩;obtain⟨t,rfl⟩:=g;obtain⟨u,rfl,e⟩:=Cm c;cases e;obtain⟨d,r,f,_⟩:=I.list h;exact join_list f.isList (by simpa using Uq r) hz λt' k=>⟨.str _,H,I.tok k,⟨t',U⟩,q⟩
end
def DX:bootBuiltins "list" = some (.type "list"):=by decide +kernel
def Oy:bootBuiltins "set" = some (.type "set"):=by decide +kernel
def Jk:bootBuiltins "all" = some (.builtin "all"):=by decide +kernel
end L2
namespace ZN
open PySem PyProof.Rows
end ZN
namespace L2
open PySem PySem.Spec PyProof.Rows
end L2
namespace ZN
open PySem PyProof.Rows
end ZN
namespace L2
open PySem PySem.Spec PyProof.Rows
section
variable {X:Cx}
def NP {P:Program}{w:World}{H:Hp}{h:Heap}(ok:HOk P w H h){a:Addr}{xs:List Str}(e:H a=some (.lst (xs.map V.str))):∃as,Reads h (.ref a) (.list (xs.map PyData.str)) as:=by obtain⟨z,c,n,r,d⟩:=ok a _ e;obtain⟨as,b⟩:=RdVs.reads ok (RdVs.strs xs) r;exact⟨_,.list d U U (by simpa using b)⟩
def Vq (g:X.A.units+64<cLine):Bu X (compareOp .NotEq) (λx y H Q=>∃(a b:Addr) (xs ys:List Str),x=.ref a/\y=.ref b/\H a=some (.lst (xs.map V.str))/\H b=some (.lst (ys.map V.str))/\PySem.SeqAt.shaped (.list (xs.map PyData.str))=true /\
  PySem.SeqAt.shaped (.list (ys.map PyData.str))=true/\Q (.bl (!PyData.eqv (.list (xs.map PyData.str)) (.list (ys.map PyData.str)))) H):=by
 intro c s p H x y v u Q I n m h
 obtain⟨a,b,xs,ys,rfl,rfl,j,i,d,f,q⟩:=h
 cases n
 cases m
 obtain⟨o,l⟩:=NP I.hok j
 obtain⟨bs,e⟩:=NP I.hok i
 exact Xp l e d f g ⟨.bl _,H,I,U,q⟩
def Sr:bootBuiltins "sorted" = some (.builtin "sorted"):=by decide +kernel
end
def LY {k:Nat}(h:k<=xs.length):BE xs (some ((k:Nat):Int)) none=xs.drop k:=by unfold BE;rw[HT.sIx_none,HT.sIx_nat,Mi h];apply FA;rw[Dc];exact An _
end L2
namespace L2
open PySem PySem.Spec PyProof.Rows PySem.W
section
variable {P:Program}{w:World}
def ObjOk.there (x:ObjOk P w H h a o):∃ob,h.get? a=some ob:=by
 cases o with
 | lst xs=>obtain⟨_,_,_,_,e⟩:=x;exact⟨_,e⟩
 | tup xs=>obtain⟨_,_,_,ob,e,_⟩:=x;exact⟨_,e⟩
 | dK kvs=>obtain⟨_,_,_,_,o,_,_,e,_⟩:=x;exact⟨_,e⟩
 | dT kvs=>obtain⟨_,_,_,_,o,_,_,e,_⟩:=x;exact⟨_,e⟩
 | set S n=>obtain⟨o,_,_,_,e,_⟩:=x;exact⟨_,e⟩
 | ins C dx fs=>obtain⟨_,_,_,e,_⟩:=x;exact⟨_,e⟩
 | own y=>exact x
 | xd fs=>obtain⟨_,⟨_,_,_,e,_⟩,_⟩:=x;exact⟨_,e⟩
 | rng lo hi=>obtain⟨_,_,_,e⟩:=x;exact⟨_,e⟩
 | frz ob u=>obtain⟨e,_⟩:=x;exact⟨_,e⟩
 | tbl ps=>exact⟨_,x⟩
 | met f y=>exact⟨_,x⟩
 | ext φ=>obtain⟨_,e,_⟩:=x;exact e
structure JT (P:Program)(w:World)(dh:List Env)(H:Hp)(s:Shared)(a:Addr)(H':Hp)(B:Heap)(s':Shared):Prop where
 os:s'.os=s.os
 bare:AllBare s'.gens
 un:Un (BL dh) [] H H' s.heap s'.heap
 hok:HOk P w H' s'.heap
 funs:s'.heap.FunFrames B dh
 new:H' a=none
 fresh:s.heap.get? a=none
 k1:∀b o,s.heap.get? b=some o->H b=none->b∉BL dh->B.get? b=some o
 k2:∀c v,H' c≠none->s'.heap.get? c=some v->B.get? c=some v
 k3:∀b o,s.heap.get? b=some o->b∉BL dh->∃o',B.get? b=some o'
def CXe (P:Program)(w:World):Ef:=λdh H s E e s'=>∃(a C t:Addr) (H':Hp) (B:Heap),e=.ref a/\JT P w dh H s a H' B s'/\Heap.FlyingW B dh a (.ref C) (.ref t) s'.heap/\E e (some C) H'
def Wj (I:Inv X dg σ H s)(M:X.ex=[])(r:X.stack=env::dh)(x:X.dh=dh)(T:env.frame=some X.env.locals)
  (F:JT X.prog X.w X.stack H s a H' B s'){t:Addr}(h:Heap.FlyingW B dh a (.ref C) (.ref t) h')(G:s'.heap.UpToSlots h'):JT X.prog X.w dh X.H₀ X.s₀ a H' B { s' with heap:=h' }:=by
 subst x
 have i:∀b,b∈X.fs->b∈BL X.stack:=λb d=>by rw[r];unfold BL;rw[FO,T];exact Bc _ d
 have m:∀b,b∈BL X.stack->b=X.env.locals\/b∈X.fs:=λb d=>by rw[r]at d;unfold BL at d;rw[FO,T]at d;exact Ar.mp d
 have p:∀b o,X.s₀.heap.get? b=some o->b≠X.env.locals:=λb o e z=>by have R:=AH e;rw[z]at R;exact absurd (Cp R I.ok.above) (CM _)
 have f:∀b:Addr,b∉X.ex:=λb z=>by rw[M]at z;cases z
 have g:∀b o,X.s₀.heap.get? b=some o->b∉X.fs->b∉BL X.stack:=λb o e d z=>by
  rcases m b z with q | q
  ·exact p b o e q
  exact d q
 have k1:=λb o e n d=>F.k1 b o (I.base.keep b o e n d (f b)) (I.base.free b o e n (f b)) (g b o e d)
 have D:=λb u e=>(F.hok b u e).stay (λc v y q=>h.1 c v (F.k2 c v (by
  rcases y with z | z
  ·rw[z,e];intro z;cases z
  rw[z];intro z;cases z) q)) (λ_ q=>q) λ_ _ q=>q
 have j:∀b o,X.s₀.heap.get? b=some o->X.H₀ b=none->b∈X.fs->∃A,h'.get? b=some { o with slots:=A }:=λb o e n d=>by obtain⟨A,e1⟩:=I.base.slot b o e n d (f b);obtain⟨a0,e2⟩:=F.un.slot b _ e1 (I.base.free b o e n (f b)) (i b d) Θ;obtain⟨_,o',l,hd⟩:=F.funs.mem (i b d);rw[e2]at l;cases l;obtain⟨L,e3⟩:=G b _ e2 hd;exact⟨L,e3⟩
 have free:∀b o,X.s₀.heap.get? b=some o->X.H₀ b=none->H' b=none:=λb o e n=>by obtain⟨A,e1⟩:=I.base.any e n (f b);exact F.un.free b _ e1 (I.base.free b o e n (f b)) Θ
 have there:∀b o,X.s₀.heap.get? b=some o->∃o',h'.get? b=some o':=λb o e=>by
  by_cases d:b∈X.fs
  ·have n:=I.ok.frf b d;obtain⟨A,q⟩:=j b o e n d;exact⟨_,q⟩
  obtain⟨E,e1⟩:=I.base.there b o e (f b);obtain⟨Q,e2⟩:=F.k3 b E e1 (g b o e d);exact⟨Q,h.1 b Q e2⟩
 refine⟨F.os.trans I.os,F.bare,⟨λb o e n d _=>h.1 b o (k1 b o e n d),λb o e n d _=>j b o e n d,λb o e n _=>free b o e n,λb o e _=>there b o e,λb xs q=>F.un.tups b xs (I.base.tups b xs q),λb o u q=>F.un.frzs b o u (I.base.frzs b o u q),λb ps q=>?_⟩,D,h.2.2.1,F.new,?_,k1,λc v y q=>?_,λb o e d=>?_⟩
 ·obtain⟨m1,q1⟩:=I.base.tbls b ps q;obtain⟨m2,q2⟩:=F.un.tbls b _ q1;exact⟨m1++m2,by rw[q2,SY]⟩
 ·cases z:X.s₀.heap.get? a with
  | none=>rfl
  | some o=>obtain⟨o',e'⟩:=I.base.there a o z (f a);rw[F.fresh]at e';cases e'
 ·cases hu:H' c with
  | none=>exact absurd hu y
  | some u=>obtain⟨S,K⟩:=(F.hok c u hu).there;have W:=F.k2 c S y K;have N:=q;rw[h.1 c S W]at N;cases N;exact W
 obtain⟨E,e1⟩:=I.base.there b o e (f b)
 exact F.k3 b E e1 (g b o e d)
def Vi {P:Program}{w:World}{K:W.Frag}{mg:Str->Option Value}{base:Heap}{N:List Str}{g:Str}{c:Scope}{f:Addr}{o:Value}{A:Around}{d:List Env}{m:Shared}{n:Hp}{E:XK} :
  Em (CXe P w) (C9 (CXe P w) P w K mg base N g c f o A d m n E) E:=by
 intro l p H s e s' I h
 obtain⟨a,C,t,H',B,rfl,F,j,q⟩:=h
 exact wpAny_leaves_onW I.ok.frames U j λh' b i=>⟨a,C,t,H',B,U,Wj I U U U U F b i,b,q⟩
def Pe (h:Heap)(C:Addr)(bmB:List Value)(newId:String)(bm:List Value):Prop:=
 ∃(N:Addr) (nm qn:Str) (bs:List Value) (hdct:Bool) (sn:List Str) (sub:List Value) (ab:Bool) (col:Option Bool) (dd:Option Addr) (k0 k1 k2 k3 k5:Option Value) (mN:Str->Option Value),
  h.get? C=some (excClassObj nm qn C N bs bm hdct sn sub ab col dd k0 k1 k2 k3 k5 newId)/\h.Ns N mN/\mN "__init__" = none/\OwnTail h bmB bm
def NX {K:Frag}{h:Heap}{C:Addr}{i:List Value}{a:String}(X:K.In h)(g:excIn K C i a=true):∃bm,Pe h C i a bm:=by
 unfold excIn at g;split at g
 ·rename_i e j l o;split at g
  ·rename_i m d z M I D r Q f c;have p:=g;simp[Co,E7,not_eq_true']at p;obtain⟨⟨⟨⟨⟨A,E⟩,r3⟩,v⟩,q⟩,N⟩:=p;subst A E;obtain⟨L,F,R,H,u,x,s,B,G,n,y⟩:=j;subst f r3;have b:=OP.mp c;subst b;exact⟨d,H,L,u,F,x,s,B,G,n,e,z,M,I,D,Q,_,X _ _ o,.of_isNs (isNs_of_in X q),nsMap_none_of_in X q N,tail_of_in X v⟩
  cases g
 cases g
abbrev E3:List Value:=[.type "ValueError",.type "Exception",.type "BaseException",.type "object"]
def Yj (t:TA)(E:XK)(C:Addr):TS:=λ_ σ H=>t σ H λvs H1=>vs.length<=1000/\∀a,H1 a=none->E (.ref a) (some C) H1
def U5 {P:Program}{w:World}{K:W.Frag}{mg:Str->Option Value}{base:Heap}{N:List Str}{d:Str}{a:Scope}{f:Addr}{l:Value}{A:Around}{i:List Env}{j:Shared}{S:Hp}{E:XK}{C:Addr}{x:Str}{np g pos:Pos}{h:Expr}{n:List Expr}{t:TA}
  (ow:excIn K C E3 "ValueError.__new__" = true)(hg:Gl (C9 (CXe P w) P w K mg base N d a f l A i j S E) x)(R:mg x=some (.ref C))(ha:PA (C9 (CXe P w) P w K mg base N d a f l A i j S E) (h::n) t)
  (he:starEach (h::n) (envOfC d a j.heap.objs.size f l)=(false,eval h (envOfC d a j.heap.objs.size f l))::starEach n (envOfC d a j.heap.objs.size f l):=by rfl)
  (a1:(backTo g (starEach n (envOfC d a j.heap.objs.size f l))).any (·.1)=false:=by rfl)(a0:(x == ("__debug__" : Str))=false:=by decide) :
  PS (C9 (CXe P w) P w K mg base N d a f l A i j S E) (.Raise (some (.Call (.Name x np) (h::n) [] g)) none pos) (Yj t E C):=by
 intro L s σ H D I hw
 obtain⟨bm,NN,nm,qn,bs,hdct,sn,sub,ab,col,dd,k0,k1,k2,k3,k5,mN,hC,hN,a2,TL⟩:=NX I.ok.mod.kin ow
 refine wpAny_Raise_call_subT (nm:=nm) (q:=qn) (N:=NN) (bs:=bs) (bm:=bm) (hdct:=hdct) (sn:=sn) (sub:=sub) (ab:=ab) (col:=col) (dd:=dd) (k0:=k0) (k1:=k1) (k2:=k2) (k3:=k3) (k5:=k5)
  Td (mN:=mN) (TL.hasType Td.hasBase) (I.ok.hd U) ?_ a2 (LM I hg R ⟨U,?_⟩ a0)
 ·show(backTo g (starEach (h::n) (envOfC d a j.heap.objs.size f l))).any (·.1)=false;rw[he];show(false || (backTo g (starEach n (envOfC d a j.heap.objs.size f l))).any (·.1))=false;rw[a1];rfl
 have h0:=ha g L s σ H _ I hw
 show wpAny (model P w) _ (evalArgs (.ref C) true (backTo g (starEach (h::n) (envOfC d a j.heap.objs.size f l))) []) _ _ s
 have h1:wpAny (model P w) (A.deeper (envOfC d a j.heap.objs.size f l)) (spliced (backTo g (starEach (h::n) (envOfC d a j.heap.objs.size f l)))) _ _ s:=h0
 rw[he]at h1 ⊢
 refine OS (CD h1 (λus s2 T=>?_) λ_ _ y=>y)
 obtain⟨vs,Q,m,r,hz,q⟩:=T
 have a7:=r.length
 have a4:=AB
 refine⟨U,Ψ,m.bk _ _ hC,hN.keeps m.bk,TL.keeps m.bk,λh' e G=>?_⟩
 have funs:=funFrames_hide m.stack (λenv R b p=>mem_filterMap.mpr ⟨env,R,p⟩)
 have B:Q e=none:=by
  cases z:Q e with
  | none=>rfl
  | some u=>obtain⟨ob,q⟩:=(m.hok e u z).there;rw[G.new]at q;cases q
 refine wpAny_leaves_madeW m.ok.frames U (λb o q=>of_hideAll _ q) funs G λa5 t' M a3 a6 X=>?_
 refine⟨e,C,t',Q,_,U,Wj m U U U U ⟨U,m.bare,Un.kept G.keeps,m.hok.kept G.keeps,funs.of_keeps (λb o p _=>⟨o,G.keeps b o p,U⟩),B,G.new,λb o q _ p=>Mb _ q p,λc v hc q=>?_,λb o q p=>⟨o,Mb _ q p⟩⟩ M X,M,q e B⟩
 cases z:Q c with
 | none=>exact absurd z hc
 | some u=>obtain⟨ob,q2⟩:=(m.hok c u z).there;have q3:=q;rw[G.keeps c ob q2]at q3;cases q3;exact Mb _ q2 λp=>by have:=m.stkFree c p;rw[z]at this;cases this
end
abbrev Cx.at' (X:Cx)(pn:List (Addr×Obj))(xe:Value->Shared->Prop):Cx:={ X with pn:=pn,xe:=xe }
abbrev Cx.held (X:Cx)(a:Addr)(xe:Value->Shared->Prop):Cx:={ X with A:=X.A.mark (some (.ref a)),calm:=false,xe:=xe }
section
variable {X:Cx}{dg:List (Addr×Obj)}{σ:St}{H:Hp}{s:Shared}
def Inv.at' (I:Inv X dg σ H s)(xe:Value->Shared->Prop):Inv (X.at' (X.pn++dg) xe) [] σ H s:=
 ⟨⟨I.ok.mod,I.ok.kind,I.ok.glob,I.ok.blt,I.ok.above,I.ok.inj,I.ok.has,I.ok.cab,I.ok.hd,I.ok.frames,I.ok.stk,I.ok.exf,I.ok.bs,I.ok.bsz,I.ok.noex,I.ok.exfs,I.ok.funs,I.ok.frf⟩,I.os,I.bare,I.base,I.loc,I.cell,I.free,I.freeC,λp a=>I.pin p (by rw[BC]at a;exact a),I.hok,I.len⟩
def Inv.unat (ok:X.Ok)(I:Inv (X.at' (X.pn++dg) xe) pins' σ H s):Inv X dg σ H s:=
 ⟨ok,I.os,I.bare,I.base,I.loc,I.cell,I.free,I.freeC,λp a=>I.pin p (Hw _ a),I.hok,I.len⟩
def Inv.held (I:Inv X dg σ H s)(a:Addr)(xe:Value->Shared->Prop):Inv (X.held a xe) dg σ H s:=
 ⟨⟨I.ok.mod,I.ok.kind,I.ok.glob,I.ok.blt,I.ok.above,I.ok.inj,I.ok.has,I.ok.cab,(λz=>nomatch z),I.ok.frames,I.ok.stk,I.ok.exf,I.ok.bs,I.ok.bsz,I.ok.noex,I.ok.exfs,I.ok.funs,I.ok.frf⟩,I.os,I.bare,I.base,I.loc,I.cell,I.free,I.freeC,I.pin,I.hok,I.len⟩
def Inv.unheld (ok:X.Ok)(I:Inv (X.held a xe) dg σ H s):Inv X dg σ H s:=
 ⟨ok,I.os,I.bare,I.base,I.loc,I.cell,I.free,I.freeC,I.pin,I.hok,I.len⟩
def MF (I:Inv X dg σ H s)(hN:X.N.Nodup)(F:X.N[i]? = some x)(P:X.env.kindOf x=some .local)
  (h:∀s',Inv X dg (σ.set i none) H s'->Q () s'):wpAny M A (do bindName X.env x .none;unbindBehindTheSuite X.env x pos) Q E s:=by
 obtain⟨m,K,W⟩:=id I.loc
 have g:(X.env.scope.kind == .class || (X.env.scope.kind == .module && X.env.locals != X.env.globals))=false:=by rw[I.ok.kind];rfl
 have l:i<σ.length:=by rw[I.len];exact(AW.mp F).1
 have cne:=I.cne
 refine wpAny_nameGoes_keeps P K g λh' v B f=>?_
 obtain⟨oL,_,_,a0,_⟩:=id K
 have old:∀b o,X.s₀.heap.get? b=some o->b≠X.env.locals:=λb o e=>Bd (Cp (AH e) I.ok.above)
 have w:=λb ob e=>(I.hok b ob e).stay (λc G u q=>(f.2 c (λz=>by
  subst z;have a:=I.free;rcases u with rfl | u
  ·rw[a]at e;cases e
  rw[a]at u;cases u)).trans q) (λ_ q=>q) λ_ _ q=>q
 refine h { s with heap:=h',toks:=s.toks+1 } ⟨I.ok,I.os,I.bare,⟨λb o e n C r=>(f.2 b (old b o e)).trans (I.base.keep b o e n C r),λb o e n C r=>?_,I.base.free,λb o e r=>?_,I.base.tups,I.base.frzs,I.base.tbls⟩,⟨_,B,λj y R e1 e2 e3=>?_⟩,λy c e=>?_,I.free,I.freeC,λp T=>?_,w,by simpa using I.len⟩
 ·obtain⟨sl,e1⟩:=I.base.slot b o e n C r;exact⟨sl,(f.2 b (old b o e)).trans e1⟩
 ·obtain⟨L,e1⟩:=I.base.there b o e r;exact⟨L,(f.2 b (old b o e)).trans e1⟩
 ·by_cases D:j=i
  ·subst D;rw[Tg l]at e2;cases e2
  rw[S5 (Ec D)]at e2;obtain⟨u',S,q⟩:=W j y R e1 e2 e3;refine⟨u',S,?_⟩;rcases q with⟨k,e⟩ | ⟨k,c,e,z⟩
  ·refine .inl ⟨k,?_⟩;have ne:y≠x:=λe=>D (RG hN e1 (e ▸ F));simp[ne,e]
  exact .inr ⟨k,c,e,z.sameBut f (cne y c e)⟩
 ·obtain⟨G,z⟩:=I.cell y c e;exact⟨G,z.sameBut f (cne y c e)⟩
 obtain⟨e,n,ne,N,d⟩:=I.pin p T
 exact⟨(f.2 p.1 ne).trans e,n,ne,N,d⟩
end
section
variable {A:Around}{M:Model}{E:Value->Shared->Prop}
def mW {h:Heap}{g:Array GenState}{d:Drawn}{t:Nat}{v:OsState}{e C G:Addr}{s:Obj}{l b a:List Value}{S D:String}{Q:Bool->Shared->Prop}(o:Pe h C l S b)(m:Pe h G l D a)
  (w:h.get? e=some s)(i:s.cls=.ref C)(c:a.contains (.type "BaseException")=true)(j:b.contains (.ref G)=true)(W:Q true ⟨h,g,d,t,v⟩):wpAny M A (excMatches (.ref e) (.ref G)) Q E ⟨h,g,d,t,v⟩:=by
 obtain⟨N,nm,X,bs,hdct,sn,sub,ab,col,dd,k0,k1,k2,k3,k5,mN,o,_,_,_⟩:=o
 obtain⟨N',x,y,R,q,B,r,z,u,L,T,K,P,I,F,H,m,_,_,_⟩:=m
 have n:(Value.ref G::a).contains (.type "BaseException")=true:=by rw[SR,c,OD]
 have p:(Value.ref C::b).contains (.ref G)=true:=by rw[SR,j,OD]
 have f:=tc_notTuple
 repeat (first | (with_reducible apply wpAny_loadPart_at w;rw[i]) | with_reducible refine wpAny_loadPart_at m ?_ | (with_reducible apply S1 m;rw[n]) | (with_reducible apply S1 o;rw[p]) | wp_step)
 exact W
end
def Hd (a C:Addr):HO:=.ext λh=>∃o,h.get? a=some o/\o.cls=.ref C
section
variable {X:Cx}{dg:List (Addr×Obj)}{σ:St}{H:Hp}{s:Shared}
def Inv.track (I:Inv X dg σ H s)(l:H a=none)(w:X.s₀.heap.get? a=none)(y:a≠X.env.locals)(v:∀x c,X.env.cells.lookup x=some c->a≠c)(E:∀p∈X.pn++dg,a≠p.1)(D:∃o,s.heap.get? a=some o/\o.cls=.ref C) :
  Inv X dg σ (upd H a (Hd a C)) s:=by
 have ne:∀{b:Addr}{u:HO},H b=some u->b≠a:=λe=>A1 e l
 refine⟨I.ok,I.os,I.bare,⟨I.base.keep,I.base.slot,λb o e n r=>?_,I.base.there,λb xs q=>?_,λb o u q=>?_,λb ps q=>?_⟩,I.loc,I.cell,by rw[Ao y.symm];exact I.free,λx c e=>by rw[Ao (v x c e).symm];exact I.freeC x c e,λp f=>?_,λb u e=>?_,I.len⟩
 ·rw[Ao (λz=>by rw[z,w]at e;cases e)];exact I.base.free b o e n r
 ·have:=I.base.tups b xs q;rw[Ao (ne this)];exact this
 ·have:=I.base.frzs b o u q;rw[Ao (ne this)];exact this
 ·obtain⟨m,g⟩:=I.base.tbls b ps q;exact⟨m,(Ao (ne g))▸g⟩
 ·obtain⟨e,n,h,A,d⟩:=I.pin p f;exact⟨e,(Ao (E p f).symm)▸n,h,A,d⟩
 by_cases i:b=a
 ·subst i;rw[Af]at e;cases e;obtain⟨o,e1,e2⟩:=D;refine⟨⟨o,e1,e2⟩,⟨o,e1⟩,λh1 h2 ⟨j,B,g⟩ k=>⟨j,k _ B,g⟩⟩
 rw[Ao i]at e
 exact(I.hok b u e).stay (λ_ _ _ q=>q) (λc q=>by rw[Ao (ne q)];exact q) λc xs q=>by rw[Ao (ne q)];exact q
end
def rE (F:JT P w dh H s a H' B s')(g:∀b∈BL dh,H b=none)(k:B.StaysIn h')(i:s'.heap.UpToSlots h') :
  Un (BL dh) [] H H' s.heap h'/\HOk P w H' h':=by
 have f:∀b o,s.heap.get? b=some o->H b=none->b∈BL dh->∃m,h'.get? b=some { o with slots:=m }:=λb o e n d=>by obtain⟨r,e2⟩:=F.un.slot b _ e n d Θ;obtain⟨_,y,h,x⟩:=F.funs.mem d;rw[e2]at h;cases h;obtain⟨j,e3⟩:=i b _ e2 x;exact⟨j,e3⟩
 refine⟨⟨λb o e n d _=>k b o (F.k1 b o e n d),λb o e n d _=>f b o e n d,F.un.free,λb o e _=>?_,F.un.tups,F.un.frzs,F.un.tbls⟩,λb u e=>(F.hok b u e).stay (λc v p q=>k c v (F.k2 c v (by
  rcases p with z | z
  ·rw[z,e];intro z;cases z
  rw[z];intro z;cases z) q)) (λ_ q=>q) λ_ _ q=>q⟩
 by_cases d:b∈BL dh
 ·obtain⟨m,q⟩:=f b o e (g b d) d;exact⟨_,q⟩
 obtain⟨l,e2⟩:=F.k3 b o e d
 exact⟨l,k b l e2⟩
def mroIn (K:Frag)(C G:Addr):Bool:=match K.lookup C with
 | some ⟨_,_,.cls cd,_⟩=>(cd.mro.drop 1).contains (.ref G)
 | _=>false
def cI {K:Frag}{h:Heap}{C G:Addr}{b:List Value}{a:String}(X:K.In h)(e:excIn K C b a=true)(m:mroIn K C G=true):∃bm,Pe h C b a bm/\bm.contains (.ref G)=true:=by
 obtain⟨bm,x⟩:=NX X e;refine⟨bm,x,?_⟩;obtain⟨N,nm,f,bs,hdct,sn,sub,ab,col,dd,k0,k1,k2,k3,k5,mN,d,j,g,i⟩:=x;unfold mroIn at m;split at m
 ·rename_i c;have:=X _ _ c;rw[d]at this;cases this;exact m
 cases m
def Yh (len j:Nat)(K:Frag)(G:Addr)(tb:XK->TS)(th:TS):TS:=λD σ H=>tb (λe c H'=>∃a C nC,e=.ref a/\c=some C/\excIn K C E3 nC=true/\mroIn K C G=true /\ (H' a=none->th { nx:=λσ' H2=>D.nx (σ'.set j none) H2,rt:=D.rt,bk:=λσ' H2=>D.bk (σ'.set j none) H2,ct:=λσ' H2=>D.ct (σ'.set j none) H2 } ((replicate len none).set j (some (.ref a))) (upd H' a (Hd a C)))) D σ H
def bC (am:X.ex=[])(a4:X.stack=X.env::X.dh)(al:X.env.frame=some X.env.locals)
  (aa:excIn X.K G E3 nG=true)(hg:Gl X x)(hm:X.mg x=some (.ref G))(hN:X.N.Nodup)(hi:X.N[j]? = some n)(hk:X.env.scope.names.lookup n=some .local)
  (hb:∀pn xe E',Em (CXe X.prog X.w) (X.at' pn xe) E'->PSs (X.at' pn xe) body (tb E'))(hs:∀a,PSs (X.held a λ_ _=>False) (a1::suite) th)(af:(x == ("__debug__" : Str))=false:=by decide) :
  PS X (.Try body [.ExceptHandler (some (.Name x np)) (some n) (a1::suite) hpos] [] [] pos) (Yh X.N.length j X.K G tb th):=by
 intro g s σ H D I hw
 refine wpAny_Try_except (CD (hb (X.pn++g) (λe s'=>∃E H1 m,Inv X g E H1 m/\CXe X.prog X.w X.stack H1 m _ e s') _ (λak E H1 m e s' L h=>⟨E,H1,m,L.unat I.ok,h⟩) [] s σ H D (I.at' _) hw) (λf m h1=>?_) (λe m h1=>?_))
 ·cases f with
  | next=>obtain⟨d,H',R,q⟩:=h1;exact AX g m d H' D (R.unat I.ok) q
  | brk=>obtain⟨d,H',R,q⟩:=h1;exact⟨d,H',R.unat I.ok,q⟩
  | cont=>obtain⟨d,H',R,q⟩:=h1;exact⟨d,H',R.unat I.ok,q⟩
  | ret u=>obtain⟨v,d,H',R,r,q⟩:=h1;exact⟨v,d,H',R.unat I.ok,r,q⟩
 obtain⟨E,H1,s0,L,a,C,t,H',B,rfl,F,a9,a',C',nC,e1,e2,oc,sub,q⟩:=h1
 cases e1
 cases e2
 have S:=L.stkFree
 have w:X.A.frames=some (X.env::X.dh):=by rw[<- a4];exact L.ok.frames
 rw[a4]at a9
 have Q:∀b o,s0.heap.get? b=some o->a≠b:=λb o e z=>by rw[<- z,F.fresh]at e;cases e
 refine wpAny_looks_onW w al a9 λh4 a0 a5=>?_
 refine wpAny_landsW a0 λh5 A a3=>?_
 have K:m.heap.UpToSlots h5:=a5.trans a3
 have N:∀(h':Heap),B.StaysIn h'->m.heap.UpToSlots h'->Inv X g (replicate X.N.length none) H' { m with heap:=h' }:=λh' k ae=>by obtain⟨u,ab⟩:=rE F S k ae;have I2:Inv X g E H' { m with heap:=h' }:=L.call' (s':={ m with heap:=h' }) (ch:=[]) F.os u ab F.bare (λb z=>nomatch z);exact I2.weak (by rw[Jz];exact L.len.symm) λi v e=>by rw[SW]at e;split at e <;> cases e
 have I5:=N h5 A.1 K
 obtain⟨ao,ad,a2⟩:=cI I5.kIn oc sub
 obtain⟨ah,a8⟩:=NX I5.kIn aa
 have M:ah.contains (.type "BaseException")=true:=by obtain⟨_,_,_,_,_,_,_,_,_,_,_,_,_,_,_,_,_,_,_,tl⟩:=a8;exact tl.hasType Td.hasBase
 obtain⟨oe,ag,ai⟩:=A.there
 refine wpAny_handleBy_cons (codeAny_handlers_test (LM (X:=X.held a λ_ _=>False) (I5.held a _) hg hm ?_ af)) (by intro q;cases q)
 refine mW ad a8 ag ai M a2 (codeAny_handlers_suite_as ?_)
 refine lands_againW A λh6 P a7=>?_
 obtain⟨m0,ac,_⟩:=L.loc
 obtain⟨oL,_,_,aj,_⟩:=ac
 have I7:=(N h6 P.1 (K.trans a7)).track F.new (by
  cases z:X.s₀.heap.get? a with
  | none=>rfl
  | some o=>
   obtain⟨o',e'⟩:=L.base.there a o z (by rw[am];simp);rw[F.fresh]at e';cases e') (Q _ _ aj) (λy c e=>by
   obtain⟨v,ap,a6,_⟩:=L.cell y c e;exact Q _ _ a6) (λp hp=>Q _ _ (L.pin p hp).1) P.there
 have an:j<(replicate X.N.length (none:Option V)).length:=by rw[Jz];exact(AW.mp hi).1
 refine Pv (X:=X.held a λ_ _=>False) (i:=j) (v:=.ref a) (I7.held a _) hN hi (.inl hk) U (λs7 I8=>?_) (.inr hk)
 refine CD (hs a g s7 _ _ _ I8 (q F.new)) (λf s8 h8=>?_) (λ_ _ z=>z.elim)
 cases f with
 | next=>obtain⟨d,H2,T,W⟩:=h8;exact MF (X:=X) (T.unheld I.ok) hN hi hk λs9 l=>⟨_,H2,l,W⟩
 | brk=>obtain⟨d,H2,T,W⟩:=h8;exact MF (X:=X) (T.unheld I.ok) hN hi hk λs9 l=>⟨_,H2,l,W⟩
 | cont=>obtain⟨d,H2,T,W⟩:=h8;exact MF (T.unheld I.ok) hN hi hk λs9 l=>⟨_,H2,l,W⟩
 | ret u=>obtain⟨v,d,H2,T,r,W⟩:=h8;exact MF (T.unheld I.ok) hN hi hk λs9 l=>⟨v,_,H2,l,r,W⟩
section
variable {X:Cx}
def Vg (i:PE X e te)(E:a.length<=1000) :
  PE X (.JoinedStr [.Constant (.str a) j p,.FormattedValue e 114 none p2] pos) (λf H Q=>te f H λv d=>∃x,v=.str x/\(reprText x).length<=100000/\Q (.str (a++reprText x)) d):=by
 intro b s f H Q I h
 have B:=AB
 refine JoinedStr_many (joinParts_cons (thn (AC b s f H (λv d=>v=.str a/\d=H) I ⟨U,U⟩) λu o c=>?_))
 obtain⟨v,d,y,m,e1,e2⟩:=c
 subst e1 e2
 obtain⟨t,rfl⟩:=m
 have l:(Str.empty++a).length<=sizeLine:=by rw[Wy];lia
 refine⟨l,joinParts_cons (wpAny_FormattedValue_repr (thn (i b o f d _ y h) λA s2 c=>?_))⟩
 obtain⟨z,w,r,n,x,e3,D,q⟩:=c
 subst e3
 obtain⟨F,rfl⟩:=n
 have C:(a++reprText x).length=a.length+(reprText x).length:=by show(a.cps++(reprText x).cps).size=_;rw[Array.size_append];rfl
 refine wpAny_pyReprObj_str ?_ Ψ
 refine formatField_str (λt' tk=>?_) Ψ
 have g:Str.empty++a++reprText x=a++reprText x:=by rw[Wy]
 refine⟨by rw[g];lia,joinParts_nil ⟨.str (a++reprText x),w,(r.tok _),⟨_,by rw[g]⟩,q⟩ (by rw[g];lia)⟩
def uB:Ce X (.builtin "isinstance") (λxs H Q=>∃a C,xs=[.ref a,.ref C]/\H a=some (Hd a C)/\Q (.bl true) H):=by rintro b s j H xs us Q I r⟨a,C,rfl,e,q⟩;obtain⟨h,i,rfl,f,c⟩:=HW r;cases f;cases c;obtain⟨⟨o,g,d⟩,_⟩:=I.hok a _ e;refine call_isinstance_of ?_ nofun;(unfold Builtin.«isinstance.nested»);refine Ab (ON g ?_);rw[d];rw[As (Hy _)];(repeat (first | refine Ae ?_ | refine Ee ?_ | apply Ab));exact⟨.bl true,H,I,U,q⟩
def tZ (n:excIn X.K C E3 nC=true)(c:typeOf (.type "ValueError")=pure (.type "type")):Ce X (.builtin "isinstance") (λxs H Q=>∃a,xs=[.ref a,.ty "ValueError"]/\H a=some (Hd a C)/\Q (.bl true) H):=by
 rintro f s F H xs us Q I r⟨a,rfl,u,q⟩;obtain⟨w,A,rfl,i,l⟩:=HW r;cases i;cases l;obtain⟨⟨o,h,e⟩,_⟩:=I.hok a _ u;obtain⟨bm,x⟩:=NX I.kIn n;obtain⟨N,nm,y,bs,hdct,sn,sub,ab,col,dd,k0,k1,k2,k3,k5,mN,v,D,B,p⟩:=x;have j:bm.contains (.type "ValueError")=true:=p.hasType Φ;have b:(Value.ref C::bm).contains (.type "ValueError")=true:=by rw[SR,j,OD]
 refine call_isinstance_of ?_ nofun;(unfold Builtin.«isinstance.nested»);refine Ab (ON h ?_);rw[e];rw[Ag (by intro z;exact absurd (Gj z) nofun)];refine Ab (Gk c ?_);(show wpAny _ _ (if (Value.type "type" == Value.type "type")=true then _ else _) _ _ s);rw[As Ξ];refine Ab (Ab (m:=isType (.type "ValueError")) (Ae (a:=true) (Ab (m:=isInstance (.ref a) (.type "ValueError")) ?_)));refine Ab (ON h ?_);rw[e];(obtain⟨G,g,d,tk,E⟩:=s);apply S1 v;rw[b];exact Ae (Ae ⟨.bl true,H,I,U,q⟩)
def Fun.okE {P:Program}{w:World}{K:W.Frag}{mg:Str->Option Value}{base:Heap}{x b:Str}{st:Stmt}{f:Addr}{h:FuncData}{N ps:List Str}{k:Nat}{sp:Sp}(F:Fun K x b st f h)(S:Aw N ps (Ak st))(len:∀vs H Q E,sp vs H Q E->vs.length=ps.length)
  (d:∀(c:Value) (A:Around) (a:List Env) (s:Shared) (H:Hp) (vs:List V) (Q:VK) (E:XK),Room k (A.deeper (envOfC b (Ak st) s.heap.objs.size f c))->sp vs H Q E -> ∃t,PSs (C9 (CXe P w) P w K mg base N b (Ak st) f c A a s H E) (CB st) t/\t { nx:=λ_ H'=>Q .non H',rt:=Q } (start N vs) H):Aj P w K mg base (CXe P w) (k+1) f h ps sp:=by
 obtain⟨p,o,kV,m,q,n,c,ct,j,rfl,i,g⟩:=F.ex
 exact R4 i g S len λA a s H vs Q E l e=>d c A a s H vs Q E l e
end
end L2
namespace L2
open PySem PySem.Spec PyProof.Rows
section
variable {X:Cx}
def RI:Ff X "list.index" (λx xs H Q=>∃(l:Addr) (ys:List Str) (y:Str) (j:Nat),x=.ref l/\xs=[.str y]/\H l=some (.lst (ys.map V.str))/\ys[j]? = some y/\(∀m,m<j->ys[m]?≠some y)/\Q (.int (j:Int)) H):=by
 rintro p s N H x xs v us Q I D G⟨l,ys,y,j,rfl,rfl,B,A,i,q⟩;cases D;obtain⟨u,rfl,E⟩:=G.one;obtain⟨z,a,n,r,C,e⟩:=I.lstM B;rw[Ah]at C z;have M:=AB
 have c:∀(m:Nat) (o:Str) (g:m<a.toArray.size),ys[m]? = some o->CL (.str y) a.toArray[m]=(o == y):=λm o g e1=>by
  obtain⟨u',e2,F⟩:=r.get (by rw[AU,e1];rfl);have e3:a.toArray[m]=u':=by obtain⟨_,h⟩:=AW.mp e2;simpa using h
  rw[e3,On F rfl];rfl
 have L:=(AW.mp A).1;refine Hl JI ⟨_,e,U⟩ PySem.F.entry_list_index (Xk _ _) (PySem.SeqAt.list_indexAt l a.toArray n none #[] u (CL (.str y)) j (by rw[Bx];lia) Ψ ?_ ?_) ⟨e,λw K=>G7 E U r (Rk.flat_strs ys) w (by simpa using K),?_⟩
 ·rw[c j y _ A];exact Hy y
 ·intro m g f;have b:m<ys.length:=by lia
  rw[c m ys[m] g (Ay b)];have d:=i m f;rw[Ay b]at d;exact FD.mpr λz=>d (by rw[z])
 exact⟨.int (j:Int),H,I.tok _,⟨_,U⟩,q⟩
def vA {a:Type}{xs:List a}{v:a}(h:xs.getLast? = some v):atI xs (-1)=some v:=by obtain⟨ys,rfl⟩:=Xj.mp h;exact vD ys v
def Fs {A B:Prop}{x y:Str}(h:x=y)(a:A):if decide (V.str x=V.str y)=true then A else B:=by rw[AV (by rw[h])];exact a
def EZ {A B:Prop}{x y:Str}(h:¬x=y)(b:B):if decide (V.str x=V.str y)=true then A else B:=by rw[Bi (λz=>h (V.str.inj z))];exact b
def Os (x y:Str):decide (V.str x=V.str y)=decide (x=y):=by
 by_cases h:x=y
 ·rw[AV h,AV (by rw[h])]
 rw[Bi h,Bi (λz=>h (V.str.inj z))]
end
section
variable {X:Cx}
def LB (K:W.Frag)(h:X.K=K):Bu X (compareOp .In) (Kv K false):=by subst h;exact Ez
def cM (K:W.Frag)(h:X.K=K):Bu X (compareOp .NotIn) (Kv K true):=by subst h;exact cN
def Oa {Q:Hp->Prop}{H:Hp}{l:Addr}(ys:List Str)(xs:List V)(b:xs=ys.map V.str)(a:H l=none)(h:∀H',Same H H'->H' l=some (.lst (ys.map V.str))->Q H'):Q (upd H l (.lst xs)):=by subst b;exact h _ (Same.new a) Af
end
def KD (P:Program)(w:World)(K:W.Frag)(a:Addr)(kvs:List (Key×V)):Prop:=
 (a == sysModules)=false/\∀h:Heap,K.In h->∃vs,KV kvs vs/\h.DictOf (B2 P w) a vs
section
variable {X:Cx}{dg:List (Addr×Obj)}{σ:St}{H:Hp}{s:Shared}{a:Addr}{kvs:List (Key×V)}{k:Key}{u:Value}{A:Around}{E:Value->Shared->Prop}
def oZ (I:Inv X dg σ H s)(g:KD X.prog X.w X.K a kvs)(c:RelV (kV k) u)(h:∀s',Inv X dg σ H s'->Q (.bool (Bj kvs k).isSome) s') :
  wpAny (model X.prog X.w) A (compareOp .In u (.ref a)) Q E s:=by
 obtain⟨vs,b,dd⟩:=g.2 _ I.kIn
 apply wpAny_in_of (Fq c) g.1 dd.mapOf
 rw[<- (b.val k).isSome_eq]
 exact h _ (I.tok _)
def pB (I:Inv X dg σ H s)(g:KD X.prog X.w X.K a kvs)(d:RelV (kV k) u)(h:∀c s',Inv X dg σ H s'->RelV ((Bj kvs k).getD .non) c->Q c s') :
  wpAny (model X.prog X.w) A (call (.builtin "dict.get") [.ref a,u]) Q E s:=by
 obtain⟨vs,b,dd⟩:=g.2 _ I.kIn
 refine Gn Mt dd.typeIs Te (PySem.F.args_dict_get_2 _ _) (meets_dict_get (B2 X.prog X.w) a (Fq d) g.1) ⟨_,dd.mapOf,h _ _ (I.tok _) ?_⟩
 exact(b.val k).getD U
end
def Yw (P:Program)(w:World)(K:W.Frag)(ty td:TE):TE:=λσ H Q=>ty σ H λy H1=>td σ H1 λx H2=>∃a kvs k,x=.ref a/\KD P w K a kvs/\y=kV k/\Q (.bl (Bj kvs k).isSome) H2
def Yx (P:Program)(w:World)(K:W.Frag)(td ty:TE):TE:=λσ H Q=>td σ H λx H1=>∃a kvs,x=.ref a/\KD P w K a kvs/\ty σ H1 λy H2=>∃k,y=kV k/\Q ((Bj kvs k).getD .non) H2
section
variable {X:Cx}{o i e:Expr}{pos apos cpos:Pos}{td ty:TE}
def cD (m:PE X i ty)(r:PE X o td):PC X .In i o (Yw X.prog X.w X.K ty td):=by intro b s c H Q I h;refine thn (m b s c H _ I h) ?_;rintro iv f⟨y,d,A,q,n⟩;refine thn (r b f c d _ A n) ?_;rintro u s2⟨x,l,j,w,a,kvs,k,ex,g,z,p⟩;subst ex z;obtain rfl:u=Value.ref a:=w;exact oZ j g q λs3 v=>⟨.bl (Bj kvs k).isSome,l,v,U,p⟩
def bY (D:PE X o td)(v:PE X e ty)(m:M1 X o "get" apos e cpos):PE X (.Call (.Attribute o "get" apos) [e] [] cpos) (Yx X.prog X.w X.K td ty):=by
 intro c s p H Q I h;refine wpAny_Call_method m.base m.few m.line Jn Mt PySem.F.type_dict_get (thn (D c s p H _ I h) λu E d=>?_);obtain⟨x,w,r,B,a,kvs,ex,g,L⟩:=d;subst ex;obtain rfl:u=Value.ref a:=B;obtain⟨vs,z,dd⟩:=g.2 _ r.kIn;obtain⟨n,N,ep,l,j,R⟩:=dd;refine⟨⟨n,l,j.1⟩,λb q=>?_,?_⟩
 ·cases q;exact⟨n,l,j.2.1⟩
 rw[m.trees];refine JG U (OS (HL (thn (v c E p w _ r L) λiv s2 d=>?_)));obtain⟨y,K,G,A,k,M,F⟩:=d;apply JB;subst M;exact pB G g A λP s3 C f=>⟨_,K,C,f,F⟩
end
def Oh:Value->Option Key
 | .int i _=>some (.inl i)
 | .str x _=>some (.inr x)
 | _=>none
def E2:List DictEntry->Option (List (Key×V))
 | []=>some []
 | e::r=>match Oh e.key,Dt e.val,E2 r with
  | some k,some v,some kvs=>some ((k,v)::kvs)
  | _,_,_=>none
def VR {k:Key}(h:Oh v=some k):DT k v=true:=by
 cases v with
 | int i t=>cases h;exact VT i t
 | str x t=>cases h;exact VS x t
 | _=>cases h
def WR (h:E2 (e::r)=some l):∃k v kvs,Oh e.key=some k/\Dt e.val=some v/\E2 r=some kvs/\l=(k,v)::kvs:=by
 unfold E2 at h;cases e1:Oh e.key with
 | none=>rw[e1]at h;cases h
 | some k=>
  cases e2:Dt e.val with
  | none=>rw[e1,e2]at h;cases h
  | some v=>
   cases e3:E2 r with
   | none=>rw[e1,e2,e3]at h;cases h
   | some kvs=>rw[e1,e2,e3]at h;cases h;exact⟨k,v,kvs,U,U,U,U⟩
theorem WO :∀{d:List DictEntry}{kvs:List (Key×V)},E2 d=some kvs->∃vs,KV kvs vs/\Pairs (B2 P w) d vs/\vs.map (·.1)=kvs.map (·.1)
 | [],_,h=>by cases h;exact⟨[],.nil,.nil,U⟩
 | e::r,l,h=>by obtain⟨k,v,kvs,g,i,f,rfl⟩:=WR h;obtain⟨vs,a,b,c⟩:=WO f;exact⟨(k,e.val)::vs,.cons ⟨U,EV i⟩ a,.cons (VR g) U b,by rw[Bg,Bg,c]⟩
theorem WQ :∀{c:List DictEntry}{kvs:List (Key×V)},E2 c=some kvs->c.map (·.hash)=kvs.map (λi=>LO w i.1)->∀e∈c,∃k,(B2 P w).is k e.key=true/\e.hash=(B2 P w).hash k
 | [],_,_,_=>λe a=>nomatch a
 | e::r,l,h,hh=>λj a=>by
  obtain⟨k,v,kvs,g,m,f,rfl⟩:=WR h;rw[Bg,Bg]at hh;obtain⟨b,d⟩:=Fb hh;rcases(Ar.mp a)with z | z
  ·subst z;exact⟨k,VR g,b⟩
  exact WQ f d j z
def VU {P:Program}{w:World}{K:W.Frag}{a:Addr}{b:Array DictEntry}{ep:Nat}{kvs:List (Key×V)}(l:K.lookup a=some ⟨.type "dict",none,.dict b ep,#[]⟩)(p:(a == sysModules)=false)(c:E2 b.toList=some kvs)
  (f:b.toList.map (·.hash)=kvs.map (λi=>LO w i.1))(j:(kvs.map (·.1)).Nodup):KD P w K a kvs:=by
 refine⟨p,λh o=>?_⟩
 obtain⟨vs,g,m,n⟩:=WO c
 refine⟨vs,g,_,b,ep,o _ _ l,⟨U,U,U⟩,U,λe d=>WQ c f e (by simpa using d),m,n▸j⟩
end L2
namespace SK
end SK
namespace L2
open PySem
def UB {ps:List Str}(h:ps.Nodup):(SK.dd (B8 (ps.map (Sum.inr:Str->Key))) (ps.map (Sum.inr:Str->Key)).length).length=ps.length:=by
 have c:(ps.map (Sum.inr:Str->Key)).length=ps.length:=Ah ..;rw[SK.dd_full (n:=ps.length) (λi j f d e=>?_) _ Ψ,c];have a:B8 (ps.map (Sum.inr:Str->Key)) i=Sum.inr ps[i]:=by simp[B8,List.getD,f]
 have b:B8 (ps.map (Sum.inr:Str->Key)) j=Sum.inr ps[j]:=by simp[B8,List.getD,d]
 rw[a,b]at e;exact(Ho h).mp (DY e)
def Sj (d:H a=some (.tup xs))(c:H b=some (.tup ys))(hz:xs.length+ys.length<=sizeLine)(h:∀(t:Addr) (H':Hp),Same H H'->H' t=some (.tup (xs++ys))->Q (.ref t) H'):UX K (.ref a) (.ref b) H Q:=by
 refine⟨a,b,xs,ys,U,U,SqT.of d,SqT.of c,hz,λe=>?_,λ_ e=>?_,λ_ _ p f=>?_⟩
 ·subst e;exact h b H (Same.refl _) c
 ·subst e;exact h a H (Same.refl _) (by rw[BC];exact d)
 exact h p _ (Same.new f) Af
end L2
namespace HT
open PySem PySem.Spec PyProof.Rows
section
variable {prog:Program}{w:World}{A:Around}{E:Value->Shared->Prop}{s:Shared}
def getItem_tuple_same {t:Addr} {lo:Option Int} (a:IsTup s.heap t items)(f:s.heap.IsSliceOf sl vl vu .none)(i:IsPart vl lo)(l:IsPart vu hi)
  (e:sIx items.size 0 lo=0/\sIx items.size items.size hi=items.size)(h:Q (.ref t) s):wpAny (model prog w) A (getItem (.ref t) (.ref sl)) Q E s:=by
 obtain⟨j,d,c,g⟩:=id f
 unfold getItem
 try with_reducible apply B9
 first | refine Ab (Ae ?_) | skip
 refine Ab (wpAny_sequenceKey a.typeIs Ξ ?_)
 refine Ab (Eb a.typeIs Hj (Ct Hj a.typeIs entry_tuple_getitem ?_ (args_tuple_getitem _ _)))
 show wpAny _ _ (Builtin.Tuple.tupleItemsOf (.ref t) >>= _) _ _ s
 refine Ab (tupleItemsOf_ a ?_)
 refine Ab (E9 ⟨j,d,c⟩ ?_)
 rw[As Ξ]
 refine Ab (Uw f i l ?_)
 have b:(((sIx items.size 0 lo:Nat):Int) == 0 && (1:Int) == 1 && (sIx items.size items.size hi-sIx items.size 0 lo) == items.size)=true:=by rw[e.1,e.2];simp
 show wpAny _ _ (if (((sIx items.size 0 lo:Nat):Int) == 0 && (1:Int) == 1 && (sIx items.size items.size hi-sIx items.size 0 lo) == items.size)=true then _ else _) _ _ s
 rw[As b]
 refine Ab (Ab (E9 a.typeIs (Ae ?_)))
 rw[As Ξ]
 exact Ab (Ee (Ae ⟨_,U,Ae h⟩))
end
end HT
namespace L2
open PySem PySem.Spec PyProof.Rows
section
variable {X:Cx}
def UT (K:W.Frag):V->Option Int->Option Int->Hp->VK->Prop:=λx lo hi H Q=>∃a xs,x=.ref a/\SqT K H a xs /\
 ((HT.sIx xs.length 0 lo=0/\HT.sIx xs.length xs.length hi=xs.length)->Q (.ref a) H)/\(¬(HT.sIx xs.length 0 lo=0/\HT.sIx xs.length xs.length hi=xs.length)->∀p,H p=none->Q (.ref p) (upd H p (.tup (BE xs lo hi))))
def Ux:JL X (UT X.K):=by
 rintro c s o H x v u n lo i w Q I l m j g⟨a,xs,rfl,f,q,p⟩;by_cases d:HT.sIx xs.length 0 lo=0/\HT.sIx xs.length xs.length i=xs.length
 ·cases l;obtain⟨e,r,h,hz⟩:=I.tuple f;have b:e.toArray.size=xs.length:=by rw[Bx];exact r.length.symm
  refine⟨"tuple",_,Hj.lookup,h.typeIs,?_⟩;exact HT.getItem_tuple_same h m j g (b▸d) ⟨.ref a,H,I,U,q d⟩
 exact M6 c s o H _ v u n lo i w Q I l m j g ⟨a,xs,U,f,d,p d⟩
def Y5 (K:W.Frag)(h:X.K=K):JL X (UT K):=by subst h;exact Ux
def Vr (g:X.A.units+64<cLine):Bu X (compareOp .Eq) (λx y H Q=>∃(a b:Addr) (xs ys:List Str),x=.ref a/\y=.ref b/\H a=some (.lst (xs.map V.str))/\H b=some (.lst (ys.map V.str))/\PySem.SeqAt.shaped (.list (xs.map PyData.str))=true /\
  PySem.SeqAt.shaped (.list (ys.map PyData.str))=true/\Q (.bl (PyData.eqv (.list (xs.map PyData.str)) (.list (ys.map PyData.str)))) H):=by
 intro c s p H x y v u Q I n m h
 obtain⟨a,b,xs,ys,rfl,rfl,j,i,d,f,q⟩:=h
 cases n
 cases m
 obtain⟨o,l⟩:=NP I.hok j
 obtain⟨bs,e⟩:=NP I.hok i
 exact Tu l e d f g ⟨.bl _,H,I,U,q⟩
def Ri (ok:HOk P w H h) (e:H a=some (.lst us))(r:RdVs H us ds):∃as,Reads h (.ref a) (.list ds) as:=by obtain⟨z,c,n,d,f⟩:=ok a _ e;obtain⟨as,b⟩:=RdVs.reads ok r d;exact⟨_,.list f U U (by simpa using b)⟩
def UV (neg:Bool):R2:=λx y H Q=>∃(a:Addr) (us:List V) (d:PyData) (ds:List PyData),y=.ref a/\H a=some (.lst us)/\RdVs H us ds/\RdV H x d/\PySem.SeqAt.shaped d=true/\PySem.SeqAt.shaped (PyData.list ds)=true/\Q (.bl (neg ^^ (ds.any λe=>PyData.eqv e d))) H
def cQ (g:X.A.units+65<cLine):Bu X (compareOp .In) (UV false):=by rintro c s n H x y v u Q I l j⟨a,us,d,ds,rfl,h,rs,rd,b,f,q⟩;cases j;obtain⟨m,i⟩:=Ri I.hok h rs;obtain⟨bs,e⟩:=rd.reads I.hok l;refine PySem.SeqAt.in_list_reads i e (Mu f) (Mu b) (room_in_shaped b g) ⟨.bl _,H,I,U,?_⟩;simpa using q
def So (B:X.calm=true):Ce X (.builtin "any") (λxs H Q=>∃(p:Addr) (bs:List Bool),xs=[.ref p]/\Y X.K H p (bs.map V.bl)/\Q (.bl (bs.any λb=>b)) H):=by
 rintro y s N H xs us Q I r⟨p,bs,rfl,G,q⟩;obtain⟨u,rfl,w⟩:=Cm r;cases w;obtain⟨f,A,m,hz⟩:=I.list G;have c:=A.length;rw[Ah]at c;have l:p<s.heap.objs.size:=by obtain⟨o,n,e,_⟩:=m;exact AH e
 refine call_any_walk (HG m.isList ⟨s.heap.objs.size,_,_,_,_,_,λi=>bs.getD i false,U,L5 (show X.A.in1.handled=none from I.ok.hd B) _ p (Bd l) f.toArray,⟨⟨_,A4 _ U,U,U⟩,m.isList.push _⟩,λi v s2 M K F D=>?_,λh' tk E=>?_⟩)
 ·have d:f[i]? = some v:=by simpa using F
  have h:i<bs.length:=by have:=(AW.mp d).1;lia
  obtain⟨L,j,w⟩:=A.get (i:=i) (x:=.bl bs[i]) (by simp[h]);rw[d]at j;cases j;cases w;apply EK;have e:bs.getD i false=bs[i]:=by simp[List.getD,h]
  rw[<- e];exact D
 refine⟨.bl _,H,I.kept (λb o e=>E b o ?_ (Ax _ e)),U,?_⟩
 ·intro z;rw[AF]at z;exact absurd (AH e) (z▸CM _)
 have e:(List.range f.toArray.size).any (λi=>bs.getD i false)=bs.any λb=>b:=by
  rw[Bx,<- c];(rw[EI,Hn,Hn]);constructor
  ·rintro⟨i,d,a⟩;(have g:=Dz.mp d);exact⟨bs[i],Cb g,by simpa [List.getD,g] using a⟩
  rintro⟨b,C,a⟩;(obtain⟨i,d,rfl⟩:=List.getElem_of_mem C);exact⟨i,Dz.mpr d,by simpa [List.getD,d] using a⟩
 rw[e];exact q
def Su:bootBuiltins "any" = some (.builtin "any"):=by decide +kernel
end
end L2
namespace ZT
open PySem PyProof.Rows
section
variable {prog:Program}{w:World}{A:Around}{E:Value->Shared->Prop}{s:Shared}
def step_endY {k:Nat} (H:A.handled=none)(D:Apart z p q i j)
  (hz:IsZip s.heap z p q .none)(hp:IsPair s.heap p (.ref i) (.ref j))(hq:IsPair s.heap q x0 y0)(M:s.heap.IsTupleIter i a k)(hj:s.heap.IsTupleIter j b k)
  (ha:s.heap.IsTuple a xs)(L:s.heap.IsTuple b ys)(K:a≠z/\a≠q/\a≠i/\a≠j)(r:b≠z/\b≠q/\b≠i/\b≠j)(W:xs[k]? = some x)(I:ys[k]? = none)
  (m:∀h' e,(∀c o,c≠z->c≠q->c≠i->c≠j->s.heap.get? c=some o->h'.get? c=some o)->(∃o,h'.get? e=some o/\o.cls=.type "StopIteration")->E (.ref e) { s with heap:=h' }) :
  (wpAny (model prog w) A (Builtin.«zip.__next__» ⟨[.ref z],[]⟩) Q E s):=by
 (show wpAny _ _ (field (.ref z) 2 >>= _) _ _ _)
 (refine Ab (Cw hz U U ?_))
 (show wpAny _ _ (field (.ref z) 3 >>= _) _ _ _)
 refine Ab (Cw hz U U (Ab (EH hp U ?_)))
 (show wpAny _ _ (Builtin.SmallTypes.ownedTupleIsFree (.ref z) >>= _) _ _ _)
 apply Ab
 (unfold Builtin.SmallTypes.ownedTupleIsFree)
 (refine Ab (Cw hz U U (Ae ?_)))
 simp only[Dx]
 refine Ab (Ee (Ab (Cw hz U (x:=.ref q) U (Ab (CP hz Θ λS n f=>?_)))))
 replace n:IsZip S z p q .ellipsis:=n
 refine Ab ?_
 (simp only[List.zipIdx_cons,List.zipIdx_nil,SH,List.forIn_nil])
 (refine Ab (Ab (wpAny_onRaise ?_)))
 refine Ab (next_item (M.extBut f.extBut D.iz) (ha.extBut f.extBut K.1) W λh2 i2 h=>Ae ?_)
 have B:=h.extBut _ _ D.qi (f.extBut _ _ D.qz hq)
 refine Ab (EH B U (Ab (wpAny_updateSeq_pair B λh3 F l=>?_)))
 replace F:IsPair h3 q x y0:=F
 refine Ab (L7 (Ae (Ab (Ab (wpAny_onRaise ?_)))))
 refine Ab (next_end H (((hj.extBut f.extBut D.jz).extBut h.extBut D.ij.symm).extBut l.extBut D.qj.symm) (((L.extBut f.extBut r.1).extBut h.extBut r.2.2.1).extBut l.extBut r.2.1) I λh4 e v G=>?_)
 obtain⟨N,d,g⟩:=G
 have u:=v _ _ D.jz.symm (l.extBut _ _ D.qz.symm (h.extBut _ _ D.iz.symm n))
 have ez:e≠z:=λw=>by subst w;rw[u]at d;cases d;simp at g
 exact CP u Θ λP _ y=>m P e (λc o C T R X w=>y.extBut _ _ C (v _ _ X (l.extBut _ _ T (h.extBut _ _ R (f.extBut _ _ C w))))) ⟨N,y.extBut _ _ ez d,g⟩
end
end ZT
namespace F17
open PySem
def zip_no_len:typeLookup (.type "zip") "__len__" = pure none:=by rw[Gs,Gh];kernel_rfl
def zip_no_hint:typeLookup (.type "zip") "__length_hint__" = pure none:=by rw[Gs,Gh];kernel_rfl
end F17
namespace L2
open PySem PySem.Spec PyProof.Rows
section
variable {X:Cx}{dg:List (Addr×Obj)}{σ:St}{H:Hp}{s:Shared}
def Inv.trackF (I:Inv X dg σ H s)(a:FpOk X dg H S)(new:ObjOk X.prog X.w (upd H S ob) s.heap S ob):Inv X dg σ (upd H S ob) s:=by
 refine I.step (ch:=[S]) (λb d=>?_) (λb o _ _ _ e _=>e) (λb o _ _ _ e _=>⟨o.slots,e⟩) (λb o f _ n=>?_) (λb o _ e=>⟨o,e⟩)
  (λb xs e=>by rw[Ao (A1 e a.1)];exact e) (λb o xs e=>by rw[Ao (A1 e a.1)];exact e) (λb ps e=>⟨#[],by rw[Ao (A1 e a.1),e];simp⟩) (λm g=>g) (λb u e=>?_) I.bare
 ·rw[AF]at d;subst d;exact⟨a.2.2.2.1,a.2.1,a.2.2.2.2.1,a.2.2.2.2.2⟩
 ·rw[Ao (λz=>f (AF.mpr z))];exact n
 by_cases d:b=S
 ·subst d;rw[Af]at e;cases e;exact new
 rw[Ao d]at e;exact(I.hok b u e).stay (λc v _ q=>q) (λc q=>by rw[Ao (A1 q a.1)];exact q) λc xs q=>by rw[Ao (A1 q a.1)];exact q
def Na (h:H r=none):Same H (upd H r o):=λb u e=>by rw[Ao (A1 e h)];exact e
structure Z0 (z p q i j a b:Addr)(h:Heap):Prop where
 hz:IsZip h z p q .none
 hp:IsPair h p (.ref i) (.ref j)
 hq:∃x y,IsPair h q x y
 hi:h.IsTupleIter i a 0
 hj:h.IsTupleIter j b 0
def Z0.keep (st:Z0 z p q i j a b h)(d:∀c∈[z,p,q,i,j],∀o,h.get? c=some o->h'.get? c=some o):Z0 z p q i j a b h':=by obtain⟨f,u,⟨x,y,e⟩,⟨m,n,g⟩,l,v,r⟩:=st;exact⟨d z Θ _ f,d p Θ _ u,⟨x,y,d q Θ _ e⟩,⟨m,d i Θ _ n,g⟩,l,d j Θ _ v,r⟩
def XI (K:A.handled=none) (D:ZT.Apart z p q i j)(I:Inv X dg σ H s)(hf:∀c∈[z,p,q,i,j],FpOk X dg H c)
  (st:Z0 z p q i j a b s.heap)(m:SqT X.K H a xs)(h:SqT X.K H b [])
  (r:∀h',Inv X dg σ H { s with heap:=h' }->(∀c o,c∉[z,p,q,i,j]->s.heap.get? c=some o->h'.get? c=some o)->Q none { s with heap:=h' }) :
  wpAny (model X.prog X.w) A (pyNext (.ref z)) Q E s:=by
 obtain⟨w,L,⟨x0,y0,h3⟩,G,R⟩:=st
 obtain⟨l,rv,pa,_⟩:=I.tuple m
 obtain⟨B,v,W,_⟩:=I.tuple h
 have y:=rv.length
 have ly:=v.length
 have off:∀(t:Addr) (N:List V),SqT X.K H t N->∀c∈[z,p,q,i,j],t≠c:=λt N ht c d e=>I.fpT ht (e ▸ hf c d)
 have M:a≠z/\a≠q/\a≠i/\a≠j:=⟨off a _ m z Θ,off a _ m q Θ,off a _ m i Θ,off a _ m j Θ⟩
 have S:b≠z/\b≠q/\b≠i/\b≠j:=⟨off b _ h z Θ,off b _ h q Θ,off b _ h i Θ,off b _ h j Θ⟩
 have f:∀h':Heap,(∀c o,c≠z->c≠q->c≠i->c≠j->s.heap.get? c=some o->h'.get? c=some o)->Q none { s with heap:=h' }:=λh' u=>by
  have g:∀c o,c∉[z,p,q,i,j]->s.heap.get? c=some o->h'.get? c=some o:=λc o d e=>by simp[Ar,AS,AQ,E6]at d;exact u c o d.1 d.2.2.1 d.2.2.2.1 d.2.2.2.2 e
  exact r h' (I.stepL hf g) g
 have C:B.toArray[0]? = none:=by simp at ly;simp[<- ly]
 cases xs with
 | cons x xs=>
  have n:l.toArray[0]? = some (l[0]'(by simp at y;lia)):=by simp
  have P:s.TypeIs (.ref z) "zip" := ⟨_,w,U⟩;unfold pyNext;refine Ab (EG (Eb P OL (Ct OL P F.entry_zip_next ?_ (F.args_zip_next_1 _))));refine ZT.step_endY K D w L h3 G R pa W M S n C ?_;rintro h' e f1⟨o,ho,d⟩;exact Ab (Gv (T := "StopIteration") ⟨o,ho,d⟩ Mg (Ae (f _ f1)))
 | nil=>exact ZT.py_end K D w L h3 G R pa W M S (by simp at y;simp[<- y]) λh' u=>f h' u
def XJ (hh:A.handled=none) (D:ZT.Apart z p q i j)(I:Inv X dg σ H s)(hf:∀c∈[z,p,q,i,j],FpOk X dg H c)
  (st:Z0 z p q i j a b s.heap)(qa:SqT X.K H a xs)(qb:SqT X.K H b []) (qq:∀l H',Same H H'->H l=none->H' l=some (.lst [])->Q (.ref l) H') :
  wpAny (model X.prog X.w) A (call (.type "list") [.ref z]) (EP X dg σ Q) E s:=by
 have G:∀c∈[z,p,q,i,j],c<s.heap.objs.size:=λc h=>by
  obtain⟨K,P,⟨x,y,W⟩,⟨o4,e4,_⟩,o5,e5,_⟩:=id st;simp only[Ar,AS,AQ]at h;rcases h with h | h | h | h | h
  ·rw[h];exact AH K
  ·rw[h];exact AH P
  ·rw[h];exact AH W
  ·rw[h];exact AH e4
  rw[h];exact AH e5
 have g:s.heap.objs.size∉[z,p,q,i,j]:=λh=>CM _ (G _ h)
 have L:s.heap.objs.size≠z:=λe=>g (by rw[e];simp)
 have fr:H s.heap.objs.size=none:=I.hok.fresh (An _)
 have fS:FpOk X dg H s.heap.objs.size:=I.fpOk (An _) fr
 refine callType_codes (Q₁:=λob sA=>ob=.ref s.heap.objs.size/\sA={ s with heap:=s.heap.push { cls:=.type "list",data:=.seq #[] } }) F.called_list (F.typeCall_list_1 _) F.entry_list_init
  (code_list_new _ ⟨U,U⟩) λob sA hA=>?_
 obtain⟨rfl,rfl⟩:=hA
 (have v:(s.heap.push { cls:=.type "list",data:=.seq #[] }).get? s.heap.objs.size=some { cls:=.type "list",data:=.seq #[] }:=A4 _ U)
 have I1:Inv X dg σ H { s with heap:=s.heap.push { cls:=.type "list",data:=.seq #[] } }:=I.kept (t':=s.toks) λb o e=>Ax _ e
 have u:=st.keep (h':=s.heap.push { cls:=.type "list",data:=.seq #[] }) λc _ o e=>Ax _ e
 refine⟨⟨_,v,U⟩,F.args_list_init_2 _ _,?_⟩
 generalize hs1:({ s with heap:=s.heap.push { cls:=.type "list",data:=.seq #[] } }:Shared)=s1 at *
 have e1:s1.heap=s.heap.push { cls:=.type "list",data:=.seq #[] }:=by rw[<- hs1]
 rw[<- e1]at v u
 generalize s.heap.objs.size=S at *
 show wpAny _ A.in1.in1 (do let old <- Builtin.List.listItems (.ref S);Builtin.List.listUpdate (.ref S) (λ_=>#[]);letGo old.toList.reverse;Builtin.List.listExtendWith (.ref S) (.ref z) .none) _ _ s1
 refine Ab ?_
 (refine Ab (EH v U (Ae ?_)))
 (refine Ab (Jx v U ?_))
 have B:=E5 (Obj.mapSeq (λ_=>(#[]:Array Value))) v U
 have C:∀(h:Heap) (f:Array Value->Array Value) c o,c≠S->h.get? c=some o->(h.update S (Obj.mapSeq f)).get? c=some o:=λh f c o d e=>(JF _ _ (Ec d)).trans e
 have n:∀(h:Heap) (f:Array Value->Array Value),Inv X dg σ H { s1 with heap:=h }->Inv X dg σ H { s1 with heap:=h.update S (Obj.mapSeq f) }:=λh f I=>Inv.stepL (s:={ s1 with heap:=h }) I
  (λc d=>by rw[AF]at d;rw[d];exact fS) λc o d e=>C h f c o (λw=>d (AF.mpr w)) e
 refine Ab (L7 ?_)
 (unfold Builtin.List.listExtendWith)
 have m:=u.keep (h':=s1.heap.update S (Obj.mapSeq (λ_=>(#[]:Array Value)))) λc d o e=>C _ _ c o (λw=>g (w ▸ d)) e
 have I2:=n s1.heap (λ_=>#[]) I1
 have R:Shared.TypeIs { s1 with heap:=s1.heap.update S (Obj.mapSeq (λ_=>(#[]:Array Value))) } (.ref z) "zip" := ⟨_,m.hz,U⟩
 refine Ab (E9 R ?_)
 have K:Builtin.List.listSameRef (.ref S) (.ref z)=false:=by simp[Builtin.List.listSameRef,L]
 have P:(Value.type "zip" == Value.type "list")=false:=by decide
 have W:(Value.type "zip" == Value.type "tuple")=false:=by decide
 (simp only[K,P,W,OG,DZ,De])
 refine Ab (wpAny_pyIter_zip m.hz ?_)
 (refine Ab (B9 ?_))
 (unfold Builtin.List.listLengthHint)
 refine Ab (EJ R F17.zip_no_len ?_)
 refine Ab (EJ R F17.zip_no_hint ?_)
 apply Ae
 refine Ab (Ee ?_)
 apply Ab
 refine Ab (Jx B U ?_)
 have r:=E5 (Obj.mapSeq (·.push Value.none)) B U
 have T:=m.keep (h':=(s1.heap.update S (Obj.mapSeq (λ_=>(#[]:Array Value)))).update S (Obj.mapSeq (·.push Value.none))) λc d o e=>C _ _ c o (λw=>g (w ▸ d)) e
 have I3:=n _ (·.push Value.none) I2
 refine Jx (hz:=by seq_fits) r U ?_
 have M:=E5 (Obj.mapSeq (·.pop)) r U
 have N:=T.keep (h':=((s1.heap.update S (Obj.mapSeq (λ_=>(#[]:Array Value)))).update S (Obj.mapSeq (·.push Value.none))).update S (Obj.mapSeq (·.pop))) λc d o e=>C _ _ c o (λw=>g (w ▸ d)) e
 have I4:=n _ (·.pop) I3
 refine Ae ⟨Fc Mr _,Ea F.entry_extend_loop ?_⟩
 (rw[E4 Mr _])
 show wpAny _ A.in1.in1 (pyNext (.ref z) >>= _) _ _ _
 refine Ab (XI (A:=A.in1.in1) (show A.in1.in1.handled=none from hh) D I4 hf N qa qb λh' I' kk=>Ae ?_)
 have I5:Inv X dg σ (upd H S (.lst [])) { s1 with heap:=h' }:=I'.trackF fS ⟨Bt _,[],_,.nil,kk S _ g M⟩
 exact⟨U,.ref S,_,I5,U,qq S _ (Na fr) fr Af⟩
end
def Yt (K:W.Frag)(ta:TA):TE:=λσ H Q=>ta σ H λvs H1=>∃a b xs,vs=[.ref a,.ref b]/\SqT K H1 a xs/\SqT K H1 b []/\∀l H',Same H1 H'->H1 l=none->H' l=some (.lst [])->Q (.ref l) H'
def bV (p:X.calm=true) (C:Gl X "list")(z:X.mg "list" = none)(r:bootBuiltins "list" = some (.type "list"))(hg:Gl X "zip")(M:X.mg "zip" = none)(R:bootBuiltins "zip" = some (.type "zip"))(ha:PA X [a,b] ta)
  (S:starEach [a,b] X.env=[(false,eval a X.env),(false,eval b X.env)]:=by rfl)(l:starEach [b] X.env=[(false,eval b X.env)]:=by rfl)
  (j:starEach [.Call (.Name "zip" p2) [a,b] [] pos2] X.env=[(false,eval (.Call (.Name "zip" p2) [a,b] [] pos2) X.env)]:=by rfl) :
  PE X (.Call (.Name "list" p1) [.Call (.Name "zip" p2) [a,b] [] pos2] [] pos1) (Yt X.K ta):=by
 intro f s G H Q I h
 refine HK (EB I C z r ?_)
 refine FE ?_ (by rw[j];rfl) U
 rw[j]
 show wpAny _ _ (spliced ((false,eval (.Call (.Name "zip" p2) [a,b] [] pos2) X.env)::backTo pos1 [])) _ _ s
 refine HL ?_
 refine Call_ (EB I hg M R (FE (thn (ha pos2 f s G H _ I h) λus d w=>?_) (by rw[S,l]) (by rw[l];rfl)))
 obtain⟨vs,L,g,P,q1⟩:=w
 obtain⟨x,y,xs,rfl,K,D,q⟩:=q1
 obtain⟨u,v,rfl,T,W⟩:=HW P
 cases T
 cases W
 obtain⟨i,r2,pa,_⟩:=g.tuple K
 obtain⟨n,r3,pb,_⟩:=g.tuple D
 refine callType_new F.called_zip Ξ (F.typeCall_zip_2 _ _) (F.newCall_zip_2 _ _) (λB=>F.args_object_init_3 B _ _) F.entry_zip_new (ZT.make x y i.toArray n.toArray) ⟨show d.heap.IsTuple x i.toArray from pa,show d.heap.IsTuple y n.toArray from pb,?_⟩
 have e1:(d.heap.push (ZT.zI x)).objs.size=d.heap.objs.size+1:=C1 ..
 have e2:((d.heap.push (ZT.zI x)).push (ZT.zI y)).objs.size=d.heap.objs.size+2:=by rw[C1,e1]
 have e3:(((d.heap.push (ZT.zI x)).push (ZT.zI y)).push (ZT.zP d.heap.objs.size (d.heap.push (ZT.zI x)).objs.size)).objs.size=d.heap.objs.size+3:=by rw[C1,e2]
 have e4:((((d.heap.push (ZT.zI x)).push (ZT.zI y)).push (ZT.zP d.heap.objs.size (d.heap.push (ZT.zI x)).objs.size)).push ZT.zQ).objs.size=d.heap.objs.size+4:=by rw[C1,e3]
 have E:(ZT.zH d.heap x y).get? ((((d.heap.push (ZT.zI x)).push (ZT.zI y)).push (ZT.zP d.heap.objs.size (d.heap.push (ZT.zI x)).objs.size)).push ZT.zQ).objs.size=some _:=A4 _ U
 have g4:(ZT.zH d.heap x y).get? (((d.heap.push (ZT.zI x)).push (ZT.zI y)).push (ZT.zP d.heap.objs.size (d.heap.push (ZT.zI x)).objs.size)).objs.size=some _:=Ax _ (A4 _ U)
 refine⟨⟨_,E,U⟩,JB ?_⟩
 have N:Inv X f G L { d with heap:=ZT.zH d.heap x y }:=g.kept (t':=d.toks) (λc o e=>Ax _ (Ax _ (Ax _ (Ax _ (Ax _ e)))))
 refine XJ (A:=X.A) (g.ok.hd p) ?_ N ?_ ⟨E,Ax _ (Ax _ (A4 _ U)),⟨_,_,g4⟩,⟨_,Ax _ (Ax _ (Ax _ (Ax _ (A4 _ U)))),U,U⟩,_,Ax _ (Ax _ (Ax _ (A4 _ U))),U,U⟩ K D q
 ·constructor <;> (lia)
 intro c p
 have m:d.heap.objs.size<=c:=by simp[Ar,AS,AQ]at p;rcases p with e | e | e | e | e <;> (rw[e];lia)
 exact g.fpOk m (g.hok.fresh m)
end L2
namespace SG
open PySem
def Rs (xs:Array Nat):Prop:=∀(i j:Nat) (a b:Nat),i<j->xs[i]? = some a->xs[j]? = some b->a<b
def Zd (r:Rs xs)(v:Nat):∀(f lo hi:Nat),hi-lo<=f->lo<=hi->hi<=xs.size->(∀(i a:Nat),i<lo->xs[i]? = some a->a<v)->(∀(i a:Nat),hi<=i->xs[i]? = some a->v<=a) ->
  SetTable.below.go xs v f lo hi<=xs.size/\(∀(i a:Nat),i<SetTable.below.go xs v f lo hi->xs[i]? = some a->a<v)/\(∀(i a:Nat),SetTable.below.go xs v f lo hi<=i->xs[i]? = some a->v<=a):=by
 intro f
 induction f with
 | zero=>
  intro lo hi j m b l u;have e:lo=hi:=by lia
  subst e;exact⟨b,l,u⟩
 | succ f ih=>
  intro lo hi j m b l u;unfold SetTable.below.go;split
  ·rename_i lt;have h:(lo+hi) / 2<xs.size:=by lia
   have n:xs.getD ((lo+hi) / 2) v=xs[(lo+hi) / 2]:=by simp[Array.getD,h]
   have e2:=DM h;dsimp only;rw[n];split
   ·rename_i c;refine ih _ _ Ψ Ψ b (λi a d e=>?_) u;rcases lt_or_ge i ((lo+hi) / 2)with z | z
    ·exact Jp (r i _ a _ z e e2) c
    have g:i=(lo+hi) / 2:=by lia
    subst g;rw[e2]at e;cases e;exact c
   rename_i c;refine ih _ _ Ψ Ψ Ψ l (λi a d e=>?_);rcases lt_or_ge ((lo+hi) / 2) i with z | z
   ·exact FH (lt_of_le_of_lt (le_of_not_lt c) (r _ i _ a z e2 e))
   have g:i=(lo+hi) / 2:=by lia
   subst g;rw[e2]at e;cases e;exact le_of_not_lt c
  rename_i c;have e:lo=hi:=by lia
  subst e;exact⟨b,l,u⟩
def place (r:Rs xs)(v:Nat):SetTable.below xs v<=xs.size/\(∀(i a:Nat),i<SetTable.below xs v->xs[i]? = some a->a<v)/\(∀(i a:Nat),SetTable.below xs v<=i->xs[i]? = some a->v<=a):=
 Zd r v xs.size 0 xs.size Ψ (Bt _) (An _) (λi a h=>by lia) (λi a h e=>by have:=(O0.mp e).1;lia)
def bK (r:Rs xs){k:Nat}(j:k<=xs.size)(l:∀(i a:Nat),i<k->xs[i]? = some a->a<v)(u:∀(i a:Nat),k<=i->xs[i]? = some a->v<=a):SetTable.below xs v=k:=by
 obtain⟨h,g,c⟩:=place r v;rcases SO (SetTable.below xs v) k with z | z | z
 ·have b:SetTable.below xs v<xs.size:=by lia
  have e:=DM b;have d:=l _ _ z e;have f:=c _ _ (An _) e;lia
 ·exact z
 have b:k<xs.size:=by lia
 have e:=DM b;have d:=g _ _ z e;have f:=u _ _ (An _) e;lia
def LS {b:Type}(xs:Array b){p:Nat}(f:p<=xs.size)(x:b)(i:Nat):(SetTable.insertAt xs p x)[i]? = if i<p then xs[i]? else if i=p then some x else xs[i-1]?:=by
 have h:(SetTable.insertAt xs p x).toList=xs.toList.take p++x::xs.toList.drop p:=by rw[SetTable.toList_insertAt]
 rw[<- EL,h,<- EL,<- EL];have e:(xs.toList.take p).length=p:=by rw[Bm,Dw];lia
 split
 ·rename_i c;rw[CQ Ψ,List.getElem?_take,As c]
 rename_i c;rw[DK Ψ,e];split
 ·rename_i a;subst a;simp
 rename_i a;obtain⟨d,rfl⟩:∃d,i=p+(d+1):=⟨i-p-1,Ψ⟩;rw[show p+(d+1)-p=d+1 by lia,List.getElem?_cons_succ,List.getElem?_drop];congr 1
def Z8 (r:Rs xs) (g:¬xs[SetTable.below xs v]? = some v):Rs (SetTable.insertAt xs (SetTable.below xs v) v):=by
 obtain⟨n,p,h⟩:=place r v
 have o:∀i a,SetTable.below xs v<=i->xs[i]? = some a->v<a:=by
  intro i a l e;rcases lt_or_ge v a with z | z
  ·exact z
  have e2:=h i a l e;have e3:a=v:=by lia
  subst e3;rcases Nat.eq_or_lt_of_le l with q | q
  ·rw[q]at g;exact absurd e g
  have s:SetTable.below xs a<xs.size:=by have:=(O0.mp e).1;lia
  have m:=DM s;have x:=r _ _ _ _ q m e;have w:=h _ _ (An _) m;lia
 intro i j a b f d c;rw[LS _ n]at d c;split at d
 ·rename_i u;split at c
  ·exact r i j a b f d c
  split at c
  ·cases c;exact p i a u d
  exact r i (j-1) a b Ψ d c
 split at d
 ·cases d;split at c
  ·lia
  split at c
  ·lia
  exact o (j-1) b Ψ c
 split at c
 ·lia
 split at c
 ·lia
 exact r (i-1) (j-1) a b Ψ d c
def UI {l:List Nat}(h:l.Pairwise (· < ·)):Rs l.toArray:=by intro i j a b c e d;rw[SJ]at e d;obtain⟨f,rfl⟩:=AW.mp e;obtain⟨g,rfl⟩:=AW.mp d;exact pairwise_iff_getElem.mp h i j f g c
def UH (n:Nat):Rs (Array.range n):=by
 have:Array.range n=(List.range n).toArray:=by simp
 rw[this];exact UI pairwise_lt_range
def Z7:Rs #[]:=λi j a b _ e=>by simp at e
structure Tk (t t':SetTable):Prop where
 rs:Rs t'.place
 led:t'.led=t.led
def Px (t:SetTable)(n:Nat):Tk t (t.standIn n):=⟨UH n,U⟩
def qM {t:SetTable} :∀(n:Nat) (p:SetTable.Probe) (j:Nat) (d:Option Nat),(∀v,p.dummy=some v->¬t.place[SetTable.below t.place v]? = some v)->SetTable.probe.go t f h n p=some (.empty j d) ->
  ¬t.place[SetTable.below t.place (d.getD j)]? = some (d.getD j):=by
 intro n
 induction n with
 | zero=>intro p j d _ e;cases e
 | succ n ih=>
  intro p j d c e;unfold SetTable.probe.go at e;split at e
  ·rename_i b;cases e;cases hpd:p.dummy with
   | some v=>exact c v hpd
   | none=>show ¬t.place[SetTable.below t.place p.j]? = some p.j;intro z;unfold SetTable.slot at b;simp[z]at b
  ·rename_i b;refine ih _ j d (λv a=>?_) e;have e3:v=p.j:=by unfold SetTable.advance at a;split at a <;> simp at a <;> exact a.symm
   subst e3;intro z;unfold SetTable.slot at b;simp[z]at b
  split at e
  ·cases e
  refine ih _ j d (λv a=>c v ?_) e;unfold SetTable.advance at a;split at a <;> simpa using a
def oB {t:SetTable}(r:Rs t.place)(f:Array (Int×Value))(h:Int)(x:Value):Tk t (layNew t f h x).2.1:=by
 unfold layNew;split
 ·rename_i b wd a;unfold SetTable.freeSlot at a;split at a
  ·rename_i j d e;cases a;show Tk t ((t.put (d.getD j)).1.orStandIn _);unfold SetTable.orStandIn;split
   ·exact⟨Z8 r (qM _ _ j d (λv c=>by unfold SetTable.probeStart at c;simp at c) e),U⟩
   exact⟨UH _,U⟩
  cases a
 exact Px t _
def aA {t:SetTable}(d:Array (Int×Value))(m:Nat):Tk t (relayAll t d m).2.1:=by
 unfold relayAll;split
 ·rename_i t' c e;unfold SetTable.relaid SetTable.laid at e;cases ho:SetTable.layClean (SetTable.sizeAbove m-1) (d.map (·.1))with
  | none=>rw[ho]at e;cases e
  | some owner=>
   rw[ho]at e;have e2:=e;cases e2;dsimp only;split
   ·refine⟨?_,U⟩;apply UI
    have b:∀l:List Nat,(List.map (λx=>x.1) (l.filterMap λj=>(owner.getD j none).map (j,·))).Sublist l:=by
     intro l;induction l with
     | nil=>exact List.Sublist.slnil
     | cons a r ih=>
      rw[FO];cases hh:owner.getD a none with
      | none=>exact List.Sublist.cons _ ih
      | some v=>exact List.Sublist.cons₂ _ ih
    exact List.Pairwise.sublist (b _) pairwise_lt_range
   exact Px t _
 exact Px t _
theorem perm_of {b:Type}[DecidableEq b]:∀{l m:List b},l.Nodup->(∀x∈l,x∈m)->m.length<=l.length->m.Perm l
 | [],m,_,_,h=>by
  cases m with
  | nil=>exact Gr _
  | cons a r=>simp at h
 | a::l,m,nd,sub,h=>by (obtain⟨f,g⟩:=Du.mp nd);have d:=List.perm_cons_erase (sub a Bb);exact d.trans ((perm_of g (λx c=>(List.mem_erase_of_ne (λ(e:x=a)=>f (e ▸ c))).mpr (sub x (Bc _ c))) (by have:=d.length_eq;rw[BU]at this h;lia)).cons a)
structure Gd (w:World)(t:SetTable):Prop where
 rs:Rs t.place
 led:t.led=!w.params.followText "set-order"
def Gd.tk {t:SetTable}(g:Gd w t)(k:Tk t r):Gd w r:=⟨k.rs,k.led.trans g.led⟩
abbrev Eg (es:Array (Int×Value))(ep:Nat)(t:SetTable):Obj:={ cls:=.type "set",dict:=none,data:=.set es ep t,slots:=#[] }
section
variable {prog:Program}{w:World}{κ:Type} [DecidableEq κ] (knd:KeyKind prog w κ)
structure TN (S:κ->Bool)(n:Nat)(es:Array (Int×Value))(t:SetTable):Prop where
 el:ElemsOf knd es.toList
 me:∀k,S k=true↔∃e∈es.toList,knd.is k e.2=true
 bd:es.size<scanBound
 ft:t.fits es.size=true
 sz:es.size=n
 gd:Gd w t
def SetG (h:Heap)(b:Addr)(S:κ->Bool)(n:Nat):Prop:=∃es ep t,h.get? b=some (Eg es ep t)/\TN knd S n es t
variable {knd}{A:Around}{E:Value->Shared->Prop}{s:Shared}
def U3 {h:Heap}{b:Addr}{a us:Array (Int×Value)}{ep:Nat}{t r:SetTable}(c:h.get? b=some (Eg a ep t)):(h.update b (Obj.putSet us r)).get? b=some (Eg us (ep+1) r):=
 E5 (Obj.putSet us r) c U
def after {g:Bool->Sem Unit}(p:∀(c:Bool) (z:Shared) (F:Unit->Shared->Prop),F () z->wpAny (model prog w) A (g c) F E z){b:Addr}{o us:Array (Int×Value)}{ep:Nat}{t r:SetTable}
  (m:s.heap.get? b=some (Eg o ep t)){S:κ->Bool}(q:TN knd S us.size us r){wd:Bool}{l:Option Bool->Shared->Prop}
  (d:∀h',Heap.SameBut b s.heap h'->SetG knd h' b S us.size->l (some true) { s with heap:=h' }) :
  wpAny (model prog w) A (do
   storeSet b us r
   if (!wd && r.tooFull)=true then do
     g (relayAll r us (SetTable.grown us.size)).2.2
     storeSet b (relayAll r us (SetTable.grown us.size)).1 (relayAll r us (SetTable.grown us.size)).2.1
     pure (some true)
    else pure (some true)) l E s:=by
 refine Ab (wpAny_storeSet_of m U ?_ (fits_of_scanBound q.bd))
 have i:=U3 (us:=us) (r:=r) m
 have j:=FC s.heap b (Obj.putSet us r)
 split
 ·have f:=relayAll_perm r us (SetTable.grown us.size);have fr:=relayAll_fits r us (SetTable.grown us.size);have tk:=aA (t:=r) us (SetTable.grown us.size);generalize relayAll r us (SetTable.grown us.size)=Z at f fr tk ⊢;obtain⟨ys,n,u⟩:=Z;have hz:ys.size=us.size:=by rw[<- Dw,f.length_eq,Dw]
  have a:ys.size<scanBound:=by rw[hz];exact q.bd
  refine Ab (p _ _ _ (Ab (wpAny_storeSet_of i U (Ae (d _ (j.trans (FC _ b _)) ⟨ys,_,n,U3 i,q.el.perm f,λk=>(q.me k).trans ⟨?_,?_⟩,a,fr,hz,q.gd.tk tk⟩)) (fits_of_scanBound a))))
  ·rintro⟨e,h,z⟩;exact⟨e,f.mem_iff.mpr h,z⟩
  rintro⟨e,h,z⟩;exact⟨e,f.mem_iff.mp h,z⟩
 exact Ae (d _ j ⟨us,_,r,i,q⟩)
def vM {k:κ} (h:knd.is k x=true)(sc:x.scannable=true)(g:SetG knd s.heap b S n)(B:n+1<scanBound)
  (p:∀h',Heap.SameBut b s.heap h'->SetG knd h' b (λy=>S y || decide (y=k)) (if S k then n else n+1)->Q (!S k) { s with heap:=h' }) :
  wpAny (model prog w) A (setAddHashed b x (knd.hash k)) Q E s:=by
 obtain⟨l,ep,t,q,i⟩:=g
 (unfold setAddHashed setAddHashedIn)
 refine B9 (Ab (Mo q U i.ft ?_))
 dsimp only
 rw[byScan_of sc i.bd i.el]
 simp only[↓reduceIte]
 unfold setAddByScan
 refine Ab (Ab (Ee (Ab (wpAny_setScan_of h q U i.ft i.el ?_))))
 cases hfi:List.findIdx? (λe=>knd.is k e.2) l.toList with
 | some j=>
  obtain⟨L,G,_⟩:=List.findIdx?_eq_some_iff_getElem.mp hfi;have d:=(i.me k).mpr ⟨_,Cb L,G⟩;have z:=p s.heap (Heap.SameBut.refl b s.heap) ⟨l,ep,t,q,i.el,λy=>?_,i.bd,i.ft,by rw[d];exact i.sz,i.gd⟩
  ·rw[d]at z;(exact Ae (Ae z))
  rw[<- i.me y,OK,Ej];exact⟨λc=>c.elim id λe=>e ▸ d,.inl⟩
 | none=>
  dsimp only;have H:S k=false:=by refine Bool.eq_false_iff.mpr λc=>?_;obtain⟨e,C,K⟩:=(i.me k).mp c;exact Bool.noConfusion ((List.findIdx?_eq_none_iff.mp hfi e C).symm.trans K)
  have quiet:∀(c:Bool) (z:Shared) (F:Unit->Shared->Prop),F () z->wpAny (model prog w) A (match c with | true=>rule "set.scan.the-table-gave-way" | false=>pure ()) F E z:=λc z F f=>by
   cases c
   ·exact Ae f
   exact Ee f
  have o:=layNew_perm t l (knd.hash k) x;have fr:=layNew_fits t l (knd.hash k) x;have tk:=oB i.gd.rs l (knd.hash k) x;generalize layNew t l (knd.hash k) x=Z at o fr tk ⊢;obtain⟨us,N,wd,M⟩:=Z;dsimp only at o fr tk ⊢;rw[Array.toList_push]at o;have hz:us.size=n+1:=by rw[<- Dw,o.length_eq,AM,Dw,i.sz];rfl
  refine Ab (quiet _ _ _ ?_);have v:∀r:SetTable,r.fits us.size=true->Gd w r->TN knd (λy=>S y || decide (y=k)) us.size us r:=λr I D=>⟨(i.el.push h sc).perm o,mem_push_iff h i.me o,Ψ,I,U,D⟩;have a:∀h',Heap.SameBut b s.heap h'->SetG knd h' b (λy=>S y || decide (y=k)) us.size->Q true { s with heap:=h' }:=λh' u m=>by have z:=p h' u;rw[H]at z;rw[hz]at m;exact z m
  split
  ·apply Ab;rw[hashByValue_scannable 8 sc];refine Ae (after quiet q (v _ ?_ ?_) λh' u m=>Ae (a h' u m))
   ·split
    ·exact fr
    exact SetTable.fits_plain_off fr
   split
   ·exact i.gd.tk tk
   exact⟨tk.rs,tk.led.trans i.gd.led⟩
  refine Ab (Ae (?_:_));simp only[↓reduceIte];exact after (knd:=knd) quiet q (v _ fr (i.gd.tk tk)) λh' u m=>Ae (a h' u m)
end
end SG
namespace SG
open PySem
open Sem (wp)
def sl_next:Slot "set_iterator" "__next__" "set_iterator.__next__" := .of (owner := "set_iterator") (n := "__next__") (by rw[Gs,Gh];kernel_rfl)
 Δ Δ Δ (by first | exact .inl Δ | exact .inr Δ)
 (by rw[OI];kernel_rfl)
def Ww:entryFor table "set_iterator.__next__" = some Builtin.«set_iterator.__next__»:=entryFor_of_fast (by kernel_rfl)
def Xf (v:Value):argsOk "set_iterator.__next__" ⟨[v],[]⟩:=by kernel_rfl
def rT:entryFor table "set.__iter__" = some Builtin.«frozenset.__iter__»:=entryFor_alias (id' := "frozenset.__iter__") (by kernel_rfl) U Δ (by kernel_rfl)
section
variable {prog:Program}{w:World}{A:Around}{E:Value->Shared->Prop}{s:Shared}
def XO (a:n≠0)(q:∀i d,i<n->Q i { s with drawn:=d }):wpAny M A (choose src n) Q E s:=λb p _=>by show wp M b (.choose src n .pure) _ _ p s;rw[Sem.wp_choose];exact⟨a,q _ _ (mod_lt _ (Nat.pos_of_ne_zero a))⟩
theorem R7 {b:Type}:∀{l:List b}{i:Nat}(h:i<l.length),(l[i]::l.eraseIdx i).Perm l
 | [],i,h=>nomatch h
 | a::r,0,_=>Gr _
 | a::r,i+1,h=>((List.Perm.swap a _ _).symm.symm).trans ((R7 (Nat.lt_of_succ_lt_succ h)).cons a)
theorem Wz {M:Model}{b:Type}:∀(n:Nat) (xs:List b),xs.length=n->∀(s:Shared) (Q:List b->Shared->Prop),(∀ys d,ys.Perm xs->Q ys { s with drawn:=d })->wpAny M A (drawOrder n xs) Q E s
 | 0,xs,h,s,Q,q=>by obtain rfl:=Mp.mp h;exact Ae (q [] s.drawn (Gr _))
 | n+1,[],h,_,_,_=>by cases h
 | n+1,x::xs,h,s,Q,q=>by refine Ab (XO Θ λi d a=>?_);rw[(Ay a)];refine Ab (Wz n _ (by rw[Xm a,h];rfl) _ _ λys c p=>Ae (q _ c ((p.cons _).trans ?_)));exact R7 a
abbrev I0 (f:Value)(i:Nat)(b:Addr)(n ep:Nat):Obj:={ cls:=.type "set_iterator",dict:=none,data:=.fields #[f,.int i 0,.ref b,.int n 0,.int ep 0],slots:=#[] }
abbrev N3 (ps:List Nat):Obj:={ cls:=.type "tuple",dict:=none,data:=.seq (ps.map λ(i:Nat)=>rawInt i).toArray 0,slots:=#[] }
def GF (t:SetTable):Nat->Nat
 | 0=>0
 | k+1=>t.place.getD k 0+1
theorem U9 {c:Type}(f:Nat->Nat):∀(n k:Nat) (xs:List c) (a:Array c),xs.length=n->(pickOrder.go f n k xs a).toList.Perm (a.toList++xs)
 | 0,k,xs,a,h=>by obtain rfl:=Mp.mp h;rw[BC];exact Gr _
 | n+1,k,xs,a,h=>by have b:f k % xs.length<xs.length:=mod_lt _ Ψ;unfold pickOrder.go;rw[Ay b];refine(U9 f n (k+1) _ _ (by rw[Xm b,h];rfl)).trans ?_;rw[Array.toList_push,B4];exact(R7 b).append_left _
def U8 {a:Type}(f:Nat->Nat)(xs:Array a):(pickOrder f xs).toList.Perm xs.toList:=by have:=U9 f xs.size 0 xs.toList #[] Θ;rw[Jy]at this;exact this
inductive Way (w:World)(b:Addr)(es:Array (Int×Value))(ep:Nat)(t:SetTable):(Nat->Value)->List (Addr×Obj)->List Value->Prop
 | text:w.params.followText "set-order" = true->Way w b es ep t (λ_=>.int 0 0) [] ((pickOrder (w.params.setOrder b ep) es).toList.map (·.2))
 | slots:w.params.followText "set-order" = false->(!t.plain && decide (es.size > 1))=false->Way w b es ep t (λi=>.int (GF t i) 0) [] (es.toList.map (·.2))
 | drawn (T:Addr) (ps:List Nat):w.params.followText "set-order" = false->ps.Perm (List.range es.size)->Way w b es ep t (λ_=>.ref T) [(T,N3 ps)] (ps.map λi=>((es[i]?).map (·.2)).getD .none)
def Way.perm {t:SetTable} (y:Way w b es ep t f nw ys):ys.Perm (es.toList.map (·.2)):=by
 cases y with
 | text _=>exact(U8 _ es).map _
 | slots _ _=>exact Gr _
 | drawn T ps _ h=>refine(h.map _).trans (List.Perm.of_eq ?_);refine ext_getElem Θ λi a c=>?_;rw[Ah,Dv]at a;simp[a]
def MM {t:SetTable} (f:s.heap.get? b=some (Eg es ep t))(d:t.fits es.size=true) :
  (w.params.followText "set-order" = true->Q (((pickOrder (w.params.setOrder b ep) es)[i]?).map λe=>(e.2,slot)) s) ->
  (w.params.followText "set-order" = false->(!t.plain && decide (es.size > 1))=false/\t.led=true/\Q (match es[SetTable.below t.place slot]?,t.place[SetTable.below t.place slot]? with | some (_,x),some j=>some (x,j+1) | _,_=>none) s) ->
  wpAny (model prog w) A (setNext b slot i ep) Q E s:=by
 intro g m
 refine Ab (Mo f U d ?_)
 unfold setsByText
 (refine Ab (Ab (Mn (Ae ?_))))
 cases hb:w.params.followText "set-order" with
 | true=>have e:(model prog w).w.params.followText "set-order" = true:=hb;simp only[e,↓reduceIte];(simp only[SN,DZ,↓reduceIte]);apply Ab;refine Ab (Mo f U d ?_);(refine Ab (Ab (Mn (Ae ?_))));simp[e,↓reduceIte];exact Ab (Mn (Ae (Ae (g hb))))
 | false=>
  have e:(model prog w).w.params.followText "set-order" = false:=hb;obtain⟨h,l,n⟩:=m hb;simp only[e,DZ,↓reduceIte];split
  ·rename_i c;have a:(!t.plain && decide (es.size > 1))=true:=c;rw[h]at a;cases a
  refine Ab ?_;show wpAny _ _ (if (!t.led && !es.isEmpty)=true then unsupported "set:maker-not-led" else pure PUnit.unit) _ _ _;rw[l];exact Ae (Ae n)
def Uu {t:SetTable}(r:Rs t.place) (h:i<=t.place.size):SetTable.below t.place (GF t i)=i:=by
 refine bK r h (λj a c e=>?_) (λj a c e=>?_)
 ·cases i with
  | zero=>lia
  | succ k=>
   have b:k<t.place.size:=h;have d:=DM b;have e3:GF t (k+1)=t.place[k]+1:=by show t.place.getD k 0+1=_;simp[Array.getD,b]
   rw[e3];rcases lt_or_ge j k with z | z
   ·exact FL (r j k _ _ z e d)
   obtain rfl:j=k:=by lia
   rw[d]at e;cases e;exact FK _
 cases i with
 | zero=>exact Bt _
 | succ k=>
  have b:k<t.place.size:=h;have e3:GF t (k+1)=t.place[k]+1:=by show t.place.getD k 0+1=_;simp[Array.getD,b]
  rw[e3];exact r k j _ _ c (DM b) e
def YS {α:Type}{Q:α->Shared->Prop}(hh:A.handled=none)(q:∀h' e,(∀b o,s.heap.get? b=some o->h'.get? b=some o)->(∃o,h'.get? e=some o/\o.cls=.type "StopIteration")->E (.ref e) { s with heap:=h' }) :
  wpAny (model prog w) A (newExc (.type "StopIteration") [] >>= λe=>(raiseNew e:Sem α)) Q E s:=by
 apply Ab
 simp[newExc,newTuple]
 (refine Ab (C3 ?_ (by size_fits)))
 (refine Ab (Gk (by first | rfl | (simp[firstArgMember];rfl)) ?_))
 (refine C3 ?_ (by size_fits))
 simp only[raiseNew]
 (refine Ab (OE ?_))
 rw[hh]
 (refine Ab (Ae (L8 ?_)))
 exact q _ _ (λb o e=>Ax _ (Ax _ e)) ⟨_,A4 _ U,U⟩
def YT {t:SetTable} (y:Way w b es ep t f nw ys)(g:Gd w t)(a:t.fits es.size=true)
  (l:s.heap.get? I=some (I0 (f i) i b es.size ep))(u:s.heap.get? b=some (Eg es ep t))(G:∀p∈nw,s.heap.get? p.1=some p.2)(d:ys[i]? = some v)
  (q:∀h',h'.get? I=some (I0 (f (i+1)) (i+1) b es.size ep)->Heap.SameBut I s.heap h'->Q (some v) { s with heap:=h' }):wpAny (model prog w) A (pyNext (.ref I)) Q E s:=by
 have F:s.TypeIs (.ref I) "set_iterator" := ⟨_,l,U⟩
 unfold pyNext
 refine Ab (EG (Eb F sl_next (Ct sl_next F Ww ?_ (Xf _))))
 refine Ab (Ae ?_)
 refine Ab (Jv l U ?_)
 refine Ab (S0 u U a ?_)
 rw[Ag Θ]
 have H:t.place.size=es.size:=by unfold SetTable.fits at a;simp only[Co,E7]at a;exact a.1
 cases y with
 | text B=>simp[CO];rw[AU,EL]at d;obtain⟨e,o,rfl⟩:=Mj.mp d;refine Ab (MM u a (λ_=>?_) (λc=>by rw[B]at c;cases c));rw[o];refine Ab (CP l Θ λx j h=>Ab (CP j Θ λr C D=>Ae ⟨e.2,U,Ae (q r C (h.trans D))⟩))
 | slots c hd=>
  simp[CO];rw[AU,EL]at d;obtain⟨e,o,rfl⟩:=Mj.mp d;have K:=(O0.mp o).1;refine Ab (MM u a (λB=>by rw[B]at c;cases c) (λ_=>⟨hd,by rw[g.led,c];rfl,?_⟩));rw[Uu g.rs Ψ,o,(DM Ψ)];refine Ab (CP l Θ λx j h=>Ab (CP j Θ λr C D=>Ae ⟨e.2,U,Ae (q r ?_ (h.trans D))⟩));have e3:GF t (i+1)=t.place[i]+1:=by show t.place.getD i 0+1=_;simp[Array.getD,show i<t.place.size by lia]
  show r.get? I=some (I0 (.int ((GF t (i+1):Nat):Int) 0) (i+1) b es.size ep);rw[e3];exact C
 | drawn T ps c hp=>
  simp only[CO];rw[AU]at d;obtain⟨p,n,rfl⟩:=Mj.mp d;refine Ab (EH (G (T,N3 ps) (AF.mpr U)) U ?_);dsimp only;have e1:(ps.map λ(i:Nat)=>rawInt i).toArray[i]? = some (Value.int p 0):=by rw[SJ,AU,n];rfl
  rw[e1];dsimp only;have e2:=DM (Dz.mp (hp.mem_iff.mp (Cc n)));apply Ab (m:=setNextDrawn b _ _);refine Ab (Mo u U a ?_);simp[CO,SN,DZ,↓reduceIte,e2];refine Ae (Ab (CP l Θ λx j h=>Ae ⟨_,U,Ae ?_⟩));have z:=q x j h;rw[e2]at z;exact z
def YV {t:SetTable} (hh:A.handled=none)(y:Way w b es ep t f nw ys)(g:Gd w t)(ft:t.fits es.size=true)
  (hI:s.heap.get? I=some (I0 (f es.size) es.size b es.size ep))(hb:s.heap.get? b=some (Eg es ep t))(hn:∀p∈nw,s.heap.get? p.1=some p.2)
  (q:∀h',(∀c o,c≠I->s.heap.get? c=some o->h'.get? c=some o)->Q none { s with heap:=h' }):wpAny (model prog w) A (pyNext (.ref I)) Q E s:=by
 have ty:s.TypeIs (.ref I) "set_iterator" := ⟨_,hI,U⟩
 unfold pyNext
 refine Ab (EG (Eb (name:=Str.ofString "__next__") ty sl_next (Ct sl_next ty Ww ?_ (Xf _))))
 refine Ab (Ae ?_)
 refine Ab (Jv hI U ?_)
 dsimp only
 refine Ab (S0 hb U ft ?_)
 rw[Ag Θ]
 have hps:t.place.size=es.size:=by unfold SetTable.fits at ft;simp[Co,E7]at ft;exact ft.1
 have fin:∀(h1:Heap) (F:Fin->Shared->Prop),Heap.SameBut I s.heap h1->wpAny (model prog w) A.in1 (newExc (.type "StopIteration") [] >>= λe=>(raiseNew e:Sem Fin)) F (λe s'=>wpAny (model prog w) A (do
    let c <- isInstance e (Value.type "StopIteration")
    if c=true then pure none else throw e) Q E s') { s with heap:=h1 }:=by
  intro h1 F b1
  refine YS hh λh2 e k2 z=>?_
  obtain⟨o,ho,hc⟩:=z
  exact Ab (Gv (T := "StopIteration") ⟨o,ho,hc⟩ Mg (Ae (q _ λc o c1 e=>k2 _ _ (b1.extBut _ _ c1 e))))
 cases y with
 | text ht=>
  simp only[CO];have he:(pickOrder (w.params.setOrder b ep) es)[es.size]? = none:=by refine Hh ?_;have:=(U8 (w.params.setOrder b ep) es).length_eq;simp[Dw]at this;lia
  refine Ab (MM hb ft (λ_=>?_) (λhf=>by rw[ht]at hf;cases hf));rw[he];exact Ab (CP hI Θ λh1 o1 b1=>fin h1 _ b1)
 | slots hf hd=>simp[CO];refine Ab (MM hb ft (λht=>by rw[ht]at hf;cases hf) (λ_=>⟨hd,by rw[g.led,hf];rfl,?_⟩));rw[Uu g.rs Ψ,Hh (An _)];exact Ab (CP hI Θ λh1 o1 b1=>fin h1 _ b1)
 | drawn T ps hf hp=>
  simp only[CO];refine Ab (EH (hn (T,N3 ps) (AF.mpr U)) U ?_);dsimp only;have e1:(ps.map λ(i:Nat)=>rawInt i).toArray[es.size]? = none:=by refine Hh ?_;have:=hp.length_eq;simp at this ⊢;lia
  rw[e1];dsimp only;exact Ab (CP hI Θ λh1 o1 b1=>Ab (CP o1 Θ λh2 o2 b2=>fin h2 _ (b1.trans b2)))
end
def Uz:Slot "set_iterator" "__iter__" "set_iterator.__iter__" := .of (owner := "set_iterator") (n := "__iter__") (by rw[Gs,Gh];kernel_rfl)
 Δ Δ Δ (by first | exact .inl Δ | exact .inr Δ)
 (by rw[OI];kernel_rfl)
def rS:entryFor table "set_iterator.__iter__" = some Builtin.«dict_keyiterator.__iter__»:=entryFor_alias (id' := "dict_keyiterator.__iter__") (by kernel_rfl) U Δ (by kernel_rfl)
def vE (v:Value):argsOk "set_iterator.__iter__" ⟨[v],[]⟩:=by kernel_rfl
def nM:typeLookup (.type "set") "__len__" = pure (some (.builtin "set.__len__")):=by rw[Gs,Gh];kernel_rfl
section
variable {prog:Program}{w:World}{A:Around}{E:Value->Shared->Prop}{s:Shared}
theorem TU {t:SetTable} (n:A.handled=none)(y:Way w b es ep t f nw ys)(g:Gd w t)(m:t.fits es.size=true)(D:ys.length=es.size)(B:b≠I)(r:∀p∈nw,p.1≠I) :
  WalksS prog w A I (I::b::nw.map (·.1)) [I] (λx z=>x=z) es.size (λi v=>ys[i]? = some v)
   (λi s=>s.heap.get? I=some (I0 (f i) i b es.size ep)/\s.heap.get? b=some (Eg es ep t)/\∀p∈nw,s.heap.get? p.1=some p.2) where
 sub:=λc d=>by rw[AF.mp d];exact Bb
 grefl:=λ_=>rfl
 gtrans:=λ_ _ _ a b=>a.trans b
 frame:=λi s h' tk st _ k=>⟨k I Bb _ st.1,k b (Bc _ Bb) _ st.2.1,λp h=>k p.1 (Bc _ (Bc _ (HM h))) _ (st.2.2 p h)⟩
 item:=λi s Q E C st q=>by refine YT (v:=ys[i]'Ψ) y g m st.1 st.2.1 st.2.2 (Ay _) λh' u l=>?_;refine q _ _ (Ay _) ⟨u,l.extBut _ _ B st.2.1,λp h=>l.extBut _ _ (r p h) (st.2.2 p h)⟩ ⟨λc o d e=>l.extBut _ _ (λz=>d (z▸AF.mpr U)) e,U,U,U,An _⟩
 done:=λs Q E st q=>YV n y g m st.1 st.2.1 st.2.2 λh' k=>q _ ⟨λc o d e=>k c o (λz=>d (z▸AF.mpr U)) e,U,U,U,An _⟩
 self:=λi s Q E st q=>by have j:s.TypeIs (.ref I) "set_iterator" := ⟨_,st.1,U⟩;refine JA j Uz (Ct Uz j rS ?_ (vE _));exact Ae ⟨_,U, "set_iterator",_,j,sl_next.lookup,q⟩
def pL {t:SetTable} (g:Gd w t)(B:t.fits es.size=true)(hz:es.size<=1000)(n:s.heap.get? b=some (Eg es ep t))
  (q:∀(h':Heap) (d:Drawn) (I:Addr) (f:Nat->Value) (h:List (Addr×Obj)) (ys:List Value),Way w b es ep t f h ys->s.heap.objs.size<=I->(∀p∈h,s.heap.objs.size<=p.1/\p.1≠I/\h'.get? p.1=some p.2)->h'.get? I=some (I0 (f 0) 0 b es.size ep) -> (∀c o,s.heap.get? c=some o->h'.get? c=some o)->Q (.ref I) { s with heap:=h',drawn:=d }):wpAny (model prog w) A (pyIter (.ref b)) Q E s:=by
 have G:s.TypeIs (.ref b) "set" := ⟨_,n,U⟩
 refine JA G F.slot_set_iter (Ct F.slot_set_iter G rT ?_ (F.args_set_iter_1 _))
 refine Ab (Ae ?_)
 refine Ab (Ab (S0 n U B (Ae ?_)))
 have made:∀(f:Nat->Value) (h:List (Addr×Obj)) (ys:List Value) (j:Heap) (d:Drawn),Way w b es ep t f h ys->(∀p∈h,s.heap.objs.size<=p.1/\j.get? p.1=some p.2)->(∀c o,s.heap.get? c=some o->j.get? c=some o)->s.heap.objs.size<=j.objs.size ->
   wpAny (model prog w) A.in1 (do
    let z <- setEpoch b
    let u <- newFields "set_iterator" [f 0,rawInt 0,.ref b,rawInt es.size,rawInt z]
    ret u) (λx s'=>∃v,x=Fin.done (Flow.ret v)/\∃D r,s'.TypeIs v D/\typeLookup (.type D) "__next__" = pure (some r)/\Q v s') E { s with heap:=j,drawn:=d }:=by
  intro f h ys j d y C k L
  refine Ab (wpAny_setEpoch_of (k _ _ n) U B ?_)
  refine Ab (C3 (Ae ⟨_,U, "set_iterator",_,⟨_,A4 _ U,U⟩,sl_next.lookup,?_⟩))
  exact q _ d _ f h ys y L (λp a=>⟨(C p a).1,Bd (AH (C p a).2),Ax _ (C p a).2⟩) (A4 _ U) λc o e=>Ax _ (k c o e)
 apply Ab (m:=setDrawn b)
 refine Ab (Mo n U B ?_)
 refine Ab (Ab (Mn (Ae (Ae ?_))))
 split
 ·rename_i c;have l:(!w.params.followText "set-order" && (!t.plain && decide (es.size > 1)))=true:=c
  have M:w.params.followText "set-order" = false:=by
   cases hq:w.params.followText "set-order" with
   | false=>rfl
   | true=>rw[hq]at l;cases l
  refine Ab (Wz es.size (List.range es.size) Dv _ _ λps d H=>?_);have K:(ps.map λ(i:Nat)=>rawInt i).length<=sizeLine:=by have j:=H.length_eq;have N:=AB;rw[Dv]at j;rw[Ah];lia
  refine Ab (wpAny_newTuple ?_ K);refine made (λ_=>.ref s.heap.objs.size) [(s.heap.objs.size,N3 ps)] _ _ d (.drawn _ ps M H) (λp a=>?_) (λc o e=>Ax _ e) (by rw[C1];exact Dm _);rw[AF.mp a];exact⟨An _,A4 _ U⟩
 rename_i c
 refine Ab (Ae ?_)
 cases hq:w.params.followText "set-order" with
 | true=>exact made (λ_=>.int 0 0) [] _ s.heap s.drawn (.text hq) (λp a=>nomatch a) (λ_ _ e=>e) (An _)
 | false=>have l:¬(!w.params.followText "set-order" && (!t.plain && decide (es.size > 1)))=true:=c;rw[hq]at l;exact made (λi=>.int (GF t i) 0) [] _ s.heap s.drawn (.slots hq (Bool.eq_false_iff.mpr l)) (λp a=>nomatch a) (λ_ _ e=>e) (An _)
def qD (a:s.TypeIs (.ref b) "set") (h:Q false s):wpAny (model prog w) A (Builtin.List.listLengthHint (.ref b)) Q E s:=by
 (unfold Builtin.List.listLengthHint);refine Ab (EJ a nM ?_);generalize hid:("set.__len__" : String)=id0;wp_delta;rw[show splitId id0=some ("set", "__len__") from by subst hid;decide +kernel];subst hid;refine Ab (Gv (T := "set") (b:=true) a (by rw[OI];kernel_rfl) ?_);rw[Ag Ξ];split
 ·exact Ab (E9 a (Ae h))
 rename_i c;exact absurd Δ c
def tK {t:SetTable} (hh:A.handled=none)(g:Gd w t)(S:t.fits es.size=true)(hz:es.size<=1000)(B:s.heap.get? b=some (Eg es ep t))
  (q:∀(h':Heap) (d:Drawn) (tk:Nat) (ys:List Value),ys.Perm (es.toList.map (·.2))->s.heap.objs.size<=h'.objs.size->(∀c o,s.heap.get? c=some o->h'.get? c=some o)->R ys { s with heap:=h',drawn:=d,toks:=tk }):wpAny (model prog w) A (collect (.ref b)) R E s:=by
 have l:=AH B
 (refine Ab (wpAny_runValue (Ea F.entry_proto_collect ?_)))
 (rw[E4 F.plain_proto_collect _])
 refine Ab (C3 (Ae ⟨Fc F.plain_list_iadd _,Ea F.entry_list_iadd ?_⟩))
 (rw[E4 F.plain_list_iadd _])
 show wpAny _ A.in1 (Builtin.List.listExtendWith (.ref s.heap.objs.size) (.ref b) (.ref s.heap.objs.size)) _ _ _
 have n:(s.heap.push { cls:=.type "list",data:=.seq ([]:List Value).toArray }).get? b=some (Eg es ep t):=Ax _ B
 have ty:Shared.TypeIs { s with heap:=s.heap.push { cls:=.type "list",data:=.seq ([]:List Value).toArray } } (.ref b) "set" := ⟨_,n,U⟩
 (unfold Builtin.List.listExtendWith)
 refine Ab (E9 ty ?_)
 have e1:Builtin.List.listSameRef (.ref s.heap.objs.size) (.ref b)=false:=by simp[Builtin.List.listSameRef,Dy l]
 have e2:(Value.type "set" == Value.type "list")=false:=by decide
 have e3:(Value.type "set" == Value.type "tuple")=false:=by decide
 simp[e1,e2,e3,OG,DZ,De]
 refine Ab (pL g S hz n λh' d I f nw ys y C D oI k=>?_)
 rw[(C1 ..)]at C D
 refine Ab (B9 (qD ⟨_,k _ _ n,U⟩ ?_))
 have L:=k _ _ (A4 _ U)
 have W:ys.length=es.size:=by have:=y.perm.length_eq;simpa using this
 have Q:s.heap.objs.size∉I::b::nw.map (·.1):=by
  intro z;rcases(Ar.mp z)with z | z
  ·exact CM _ (Cp (FK _) (z ▸ C))
  rcases(Ar.mp z)with z | z
  ·exact CM _ (z ▸ l)
  obtain⟨p,x,z⟩:=AK.mp z;have:=(D p x).1;lia
 have run:∀(v:Heap) (c:Nat) (P:Result->Shared->Prop),(∀b o,b≠s.heap.objs.size->h'.get? b=some o->v.get? b=some o)->v.get? s.heap.objs.size=some { cls:=.type "list",data:=.seq ([]:List Value).toArray c } ->
   (∀(h:Heap) (tk j:Nat) (a:Array Value),h.get? s.heap.objs.size=some { cls:=.type "list",dict:=none,data:=.seq a j,slots:=#[] }->a.toList=ys->(∀c o,s.heap.get? c=some o->h.get? c=some o)->P (.ok (.ret (.ref s.heap.objs.size))) { s with heap:=h,drawn:=d,toks:=tk }) ->
   codeAny (model prog w) A (.builtin "list.extend.loop" ⟨[.ref s.heap.objs.size,.ref I,.ref s.heap.objs.size],[]⟩) P { s with heap:=v,drawn:=d }:=by
  intro v c P k2 m H
  refine codeAny_extend_loopS (TU (prog:=prog) (A:=A.in1) (I:=I) hh y g S W (λz=>CM _ (Cp (z ▸ l:I<s.heap.objs.size) (Nat.le_of_succ_le C))) (λp x=>(D p x).2.1)) (by rw[AB];lia) _ Q _ es.size 0 _ _ _ U (Bt _) ⟨k2 _ _ (Dy C) oI,k2 _ _ (Bd l) (k _ _ n),λp x=>k2 _ _ (Dy (D p x).1) (D p x).2.2⟩ m (ItemsOf.nil _) λs3 a j hm M T=>?_
  obtain⟨h,g3,d3,K,G⟩:=s3
  obtain⟨m1,m2,m3,m4,m5⟩:=hm
  have eg:s.gens=g3:=m2
  have ed:d3=d:=m3
  have N:G=s.os:=m4
  subst eg ed N
  refine H h K j a M ?_ λc o e=>m1 c o ?_ (k2 c o (Bd (AH e)) (k c o (Ax _ e)))
  ·refine ext_getElem (by rw[Dw,T.1,W]) λi h1 v=>?_
   have e:ys[i]? = some a.toList[i]:=T.2 i a.toList[i] (by rw[<- EL];exact Ay h1)
   rw[Ay v]at e
   exact(Bh e).symm
  have X:c<s.heap.objs.size:=AH e
  intro z
  rcases(Ar.mp z)with z | z
  ·exact CM _ (z ▸ X)
  exact CM _ (Jp X (Nat.lt_of_succ_le ((AF.mp z) ▸ C)))
 have r:∀(h:Heap) (tk j:Nat) (a:Array Value),h.get? s.heap.objs.size=some { cls:=.type "list",dict:=none,data:=.seq a j,slots:=#[] }->a.toList=ys->(∀c o,s.heap.get? c=some o->h.get? c=some o) ->
   R a.toList { s with heap:=h,drawn:=d,toks:=tk }:=λh tk j a u e k3=>by
  rw[e]
  exact q h d tk ys y.perm (FH (AH u)) k3
 split
 ·refine Ab (Ee (Ab ?_));(show wpAny _ A.in1 (updateSeq s.heap.objs.size (·.push .none) >>= λ_=>updateSeq s.heap.objs.size (·.pop)) _ _ _);(refine Ab (Jx L U ?_));have m:=E5 (Obj.mapSeq (·.push Value.none)) L U;apply Jx m U;refine Ae ⟨Fc Mr _,run _ _ _ (λb o B e=>(JF _ _ (Ec B)).trans ((JF _ _ (Ec B)).trans e)) (E5 (Obj.mapSeq (·.pop)) m U) λh tk j a u e k3=>?_⟩;(show wpAny _ A (load s.heap.objs.size >>= _) _ _ _);exact Ab (wpAny_load u (Ae (r h tk j a u e k3)))
 refine Ae ⟨Fc Mr _,run _ _ _ (λ_ _ _ e=>e) L λh tk j a u e k3=>?_⟩
 (show wpAny _ A (load s.heap.objs.size >>= _) _ _ _)
 exact Ab (wpAny_load u (Ae (r h tk j a u e k3)))
end
end SG
namespace SG
open PySem PyProof.Rows
section
variable {prog:Program}{w:World}{A:Around}{E:Value->Shared->Prop}{s:Shared}
def iv:Value->Int
 | .int i _=>i
 | _=>0
theorem V0:∀{vs:List Value},(∀v∈vs,∃t,v=.int (iv v) t)->IntsAre vs (vs.map iv)
 | [],_=>.nil
 | v::r,h=>by obtain⟨t,e⟩:=h v Bb;rw[e];exact .cons _ t (V0 λx a=>h x (Bc _ a))
def sorted_set {t:SetTable} (n:A.handled=none)(g:Gd w t)(r:t.fits es.size=true)(hz:es.size<64)(x:s.heap.get? b=some (Eg es ep t))(y:∀e∈es.toList,∃t,e.2=.int (iv e.2) t)
  (q:∀(h':Heap) (d:Drawn) (tk e D:Nat) (a:Array Value) (ns:List Int),IntsAre a.toList ns->ns.Perm (es.toList.map λe=>iv e.2)->ns.Pairwise (·<=·)->h'.get? D=some (seqObj "list" a e)->s.heap.objs.size<=D->(∀c o,s.heap.get? c=some o->h'.get? c=some o) -> Q (.ref D) { s with heap:=h',drawn:=d,toks:=tk }):wpAny (model prog w) A (call (.builtin "sorted") [.ref b]) Q E s:=by
 (apply Ts kind_sorted plain_sorted entry_sorted (args_sorted1 _))
 (refine Ab (Ae ?_))
 refine Ab (tK n g r Ψ x λj d tk ys h m k1=>?_)
 have H:ys.length=es.size:=by have:=h.length_eq;simpa using this
 (refine Ab (wpAny_newList ?_ (by rw[AB];lia)))
 have F:∀v∈ys,∃t,v=.int (iv v) t:=λv C=>by obtain⟨e,f,rfl⟩:=AK.mp (h.mem_iff.mp C);exact y e f
 have p:(ys.map iv).Perm (es.toList.map λe=>iv e.2):=by have:=h.map iv;rw[Bk]at this;exact this
 have i:(j.push { cls:=.type "list",data:=.seq ys.toArray }).get? j.objs.size=some (seqObj "list" ys.toArray 0):=A4 _ U
 refine Ab (B9 (Ct slot_list_sort ⟨_,i,U⟩ entry_list_sort (list_sort_tree i (V0 F) Ψ λa ns B u G=>⟨_,U,?_⟩) (args_list_sort _)))
 obtain⟨e,f⟩:=sortedHeap_at i
 refine Ae ⟨_,U,q _ d tk e _ a ns B (u.trans p) G f m λc o z=>?_⟩
 have l:=AH (k1 c o z)
 rw[sortedHeap_old (Bd l) (by rw[size_push'];exact FL l)]
 exact Ax _ (k1 c o z)
end
section
variable {prog:Program}{w:World}{κ:Type} [DecidableEq κ] {knd:KeyKind prog w κ}{A:Around}{R:Result->Shared->Prop}{I:Addr}{fp wr:List Addr}{G:Array GenState->Array GenState->Prop}{n:Nat}{P:Nat->Value->Prop}{St:Nat->Shared->Prop}
def kept (q:SetG knd h S f m)(e:∀o,h.get? S=some o->h'.get? S=some o):SetG knd h' S f m:=by obtain⟨a,ep,t,b,r⟩:=q;exact⟨a,ep,t,e _ b,r⟩
def Ot {k:Nat}(q:SetG knd h S f m)(e:∀x,f x=g x)(a:m=k):SetG knd h S g k:=by have:=funext e;subst this a;exact q
def R6 (W:WalksS prog w A.in1 I fp wr G n P St)(S:Addr)(D:S∉fp)(val:Nat->κ)(F:∀i v,P i v->knd.is (val i) v=true/\v.scannable=true)(l:n+1<scanBound) :
  ∀(k i:Nat) (s:Shared),n-i=k->i<=n->St i s->SetG knd s.heap S (λx=>decide (x∈SK.dd val i)) (SK.dd val i).length ->
   (∀s',Moved (S::wr) G s s'->SetG knd s'.heap S (λx=>decide (x∈SK.dd val n)) (SK.dd val n).length->R (.ok (.ret .none)) s') ->
   (codeAny (model prog w) A (.builtin "set.update.loop" ⟨[.ref S,.ref I],[]⟩) R s):=by
 have C:S∉wr:=λh=>D (W.sub _ h)
 have sub:∀b∈wr,b∈S::wr:=λb z=>Bc _ z
 intro k
 induction k with
 | zero=>
  intro i s K E st p a;obtain rfl:i=n:=by lia
  apply Ea OB;rw[E4 Jo _];exact Ab (m:=pyNext (.ref I)) (W.done s _ _ st λg c=>Ae (a g (c.mono sub) (kept p λo e=>c.heap S o C e)))
 | succ k ih=>
  intro i s K E st p a;have lt:i<n:=by lia
  apply Ea OB;rw[E4 Jo _];refine Ab (W.item i s _ _ lt st λv g L y c=>?_);obtain⟨j,sc⟩:=F i v L;refine Ab (B9 ?_);refine B9 (Ab (knd.pyHash j ?_));have f:(SK.dd val i).length+1<scanBound:=by have:=SK.dd_le (val:=val) i;lia
  refine vM (knd:=knd) j sc (kept p λo e=>c.heap S o C e) f λB H r=>?_;have d:∀b o,b≠S->g.heap.get? b=some o->B.get? b=some o:=λb o z e=>(H.2 b z).trans e;refine Ae ⟨Fc Jo _,ih (i+1) _ Ψ lt (W.frame _ g B (g.toks+1) y (Dm _) λb l o e=>d b o (λz=>D (z ▸ l)) e) (Ot r (λx=>(SK.dd_step i x).symm) (SK.dd_size i).symm) λs2 u q=>?_⟩;refine a s2 (Moved.trans W.gtrans ((c.mono sub).then_heap (Dm _) λb o l e=>d b o (λz=>l (z ▸ Bb)) e) u) q
end
section
variable {prog:Program}{w:World}{κ:Type} [DecidableEq κ] {knd:KeyKind prog w κ}{A:Around}{E:Value->Shared->Prop}{s:Shared}
abbrev VN (w:World):Bool:=!w.params.followText "set-order"
abbrev CJ (led:Bool):Obj:={ cls:=.type "set",dict:=none,data:=.set #[] 0 (.fresh 0 0 led) }
def tM (v:Value) (q:Q1 (.ref s.heap.objs.size) { s with heap:=s.heap.push (CJ (VN w)) }) :
  codeAny (model prog w) A (.call (.builtin "set.__new__") ⟨[.type "set",v],[]⟩) (wants Q1 E) s:=by
 apply codeAny_of_tree
 refine Ab (Gk (PySem.F.newCall_set_1 v) (Ae ⟨Fc PySem.F.plain_set_new _,Ea PySem.F.entry_set_new ?_⟩))
 rw[E4 PySem.F.plain_set_new _]
 (unfold Builtin.«set.__new__» Builtin.Frozenset.newClass)
 have a:=sub_set_self
 obtain⟨e,b,d,tk,c⟩:=s
 wp_walk
 (refine Mn (Ae ?_))
 simp[newObj]
 exact Ab (wpAny_alloc (Ae (Ae q)))
def make {val:Nat->κ} (hh:A.handled=none)(hl:s.heap.IsList l items)(hv:∀i v,items[i]? = some v->knd.is (val i) v=true/\v.scannable=true)(hb:items.size+1<scanBound)
  (q:∀(h':Heap) (tk:Nat),SetG knd h' s.heap.objs.size (λx=>decide (x∈SK.dd val items.size)) (SK.dd val items.size).length->(∀b o,s.heap.get? b=some o->h'.get? b=some o)->Q (.ref s.heap.objs.size) { s with heap:=h',toks:=tk }) :
  (wpAny (model prog w) A (call (.type "set") [.ref l]) Q E s):=by
 obtain⟨c,tl,M⟩:=Dk.mro
 have C:=Dk.made
 have L:=Dk.sub
 refine Jt (codeAny_of_tree (show wpAny _ _ (callAny (.type "set") _) _ _ _ from ?_))
 refine Ae ⟨SS _ Δ,Ea PySem.F.entry_type_call ?_⟩
 (rw[Around.under_plain (weight_type_call_type "set" [.ref l] []) rfl])
 have h1:=Dk.notType
 have h2:=Dk.canCreate
 have a4:=PySem.F.typeCall_set_1 (.ref l)
 (repeat (any_goals (first | assumption | wp_step)))
 refine FJ (tM (.ref l) (E:=E) (Q1:=λP I=>∃a:Bool,a=VN w/\P=.ref s.heap.objs.size/\I={ s with heap:=s.heap.push (CJ a) }) ⟨_,U,U,U⟩) λr I y=>?_
 cases r with
 | error e=>exact y
 | ok fl=>
  cases fl with
  | ret P=>
   obtain⟨a,m,rfl,rfl⟩:=y;have N:(s.heap.push (CJ a)).get? s.heap.objs.size=some (CJ a):=A4 _ U;have hT:Shared.TypeIs { s with heap:=s.heap.push (CJ a) } (.ref s.heap.objs.size) "set" := ⟨_,N,U⟩;have a0:=Dk.init.lookup;have a3:=Dk.init.bind (.ref s.heap.objs.size);(repeat (any_goals (first | assumption | wp_step)));refine FJ (OR (R:=wants (λr s2=>r=.none/\∃h' tk,s2={ s with heap:=h',toks:=tk }/\SetG knd h' s.heap.objs.size (λx=>decide (x∈SK.dd val items.size)) (SK.dd val items.size).length /\ (∀b o,s.heap.get? b=some o->h'.get? b=some o)) E) Dk.init.plain PySem.F.entry_set_init (check_set_init_1 hT ?_)) λr2 s2 g=>?_
   ·obtain⟨⟨H,f,F,d⟩,h,u,G,p⟩:=hl;simp only at u p;subst u p;have j:(s.heap.push (CJ a)).get? l=some { cls:=.type "list",dict:=f,data:=.seq items G,slots:=d }:=Ax _ h;have x1:=PySem.F.sub_list_set;have x2:=Xn;have x3:(Value.type "list" == Value.type "dict")=false:=by decide
    have n:(s.heap.push (CJ a)).IsList l items:=⟨_,j,U,G,U⟩;(unfold Builtin.«set.__init__» noKeywords Builtin.Frozenset.updateFrom);generalize hPI:pyIter=PI;wp_walk;subst hPI;(apply HG n);(refine Ab (wpAny_runValue ?_));have lt:=AH h;have sz:(s.heap.push (CJ a)).objs.size=s.heap.objs.size+1:=C1 ..;(have z:A.in1.in1.in1.handled=none:=by simp[hh]);have B:l≠(s.heap.push (CJ a)).objs.size:=by rw[sz];exact Bd (FL lt)
    have nS:s.heap.objs.size∉[(s.heap.push (CJ a)).objs.size,l]:=by rw[sz];simp only[Ar,AS,AQ,E6];exact⟨Bd (FK _),Dy lt⟩
    refine R6 ((L5 z _ l B items).toS) s.heap.objs.size nS val hv hb (items.size-0) 0 _ Ψ (Bt _) ⟨⟨_,A4 _ U,U,U⟩,n.push _⟩ ?_ λs3 X q3=>?_
    ·exact⟨_,_,_,Ax ({ cls:=.type "list_iterator",data:=.fields #[.ref l,.int 0 0] }:Obj) N,λe S=>by simp at S,λx=>by simp[SK.dd],Ξ,Φ,U,Z7,m⟩
    obtain⟨h3,g3,d3,D,T⟩:=s3;obtain⟨m1,m2,m3,m4,m5⟩:=X;have eg:=m2;have ed:=m3;have W:=m4;subst eg ed W;refine Ae (Ae ⟨U,h3,D,U,q3,λb o e=>m1 b o ?_ (Ax _ (Ax _ e))⟩);have K:=AH e;rw[sz];simp[Ar,AS,AQ,E6];exact⟨Bd K,Bd (FL K)⟩
   cases r2 with
   | error e=>exact g
   | ok fl2=>
    cases fl2 with
    | ret r=>obtain⟨rfl,h',tk,rfl,a1,a2⟩:=g;(repeat (any_goals (first | assumption | wp_step)));exact q _ _ a1 a2
    | _=>exact g.elim
  | _=>exact y.elim
end
end SG
namespace L2
open PySem PyProof.Rows
section
variable {X:Cx}
def Inv.dr (d:Drawn)(I:Inv X dg σ H s):Inv X dg σ H { s with drawn:=d }:=⟨I.ok,I.os,I.bare,I.base,I.loc,I.cell,I.free,I.freeC,I.pin,I.hok,I.len⟩
def VE {κ:Type}[DecidableEq κ](ks:List κ)(x:κ):Bool:=decide (x∈ks)
def memB_iff {a:Type}[DecidableEq a]{ks:List a}{x:a}:VE ks x=true↔x∈ks:=decide_eq_true_iff
def FW (P:Program)(w:World)(a:Addr)(ks:List Key):HO:=.ext λh=>SG.SetG (B2 P w) h a (VE ks) ks.length
def tX (z:X.calm=true):Ce X (.type "set") (λxs H Q=>∃p ks,xs=[.ref p]/\Y X.K H p (ks.map kV)/\ks.length<=1000/\∀a,H a=none->Q (.ref a) (upd H a (FW X.prog X.w a (SK.dd (B8 ks) ks.length)))):=by
 rintro n s L H xs us Q I r⟨p,ks,rfl,D,G,q⟩;obtain⟨u,rfl,c⟩:=Cm r;cases c;obtain⟨f,w,A,hz⟩:=I.list D;have b:=w.length;rw[Ah]at b;refine SG.make (knd:=B2 X.prog X.w) (val:=B8 ks) (I.ok.hd z) A.isList (λi v B=>?_) (by rw[Bx];unfold scanBound;lia) λh' tk h C=>?_
 ·have m:f[i]? = some v:=by simpa using B
  have d:i<ks.length:=by have:=(AW.mp m).1;lia
  obtain⟨K,g,c⟩:=w.get (i:=i) (x:=kV ks[i]) (by simp[d]);rw[m]at g;cases g;have e:B8 ks i=ks[i]:=by simp[B8,List.getD,d]
  rw[e];refine⟨Fq c,?_⟩;cases hkk:ks[i]with
  | inl j=>rw[hkk]at c;obtain⟨t,rfl⟩:=c;rfl
  | inr y=>rw[hkk]at c;obtain⟨t,rfl⟩:=c;rfl
 have l:f.toArray.size=ks.length:=by simp[b]
 rw[l]at h;refine⟨.ref _,_,I.laid (o:=FW X.prog X.w s.heap.objs.size (SK.dd (B8 ks) ks.length)) C (An _) ⟨h,?_,λF E f1 e=>SG.kept f1 e⟩,U,q _ (I.hok.fresh (An _))⟩;obtain⟨l,_,_,e,_⟩:=h;exact⟨_,e⟩
def T1:∀{ns:List Int}{us:List Value},IntsAre us ns->Vals (ns.map V.int) us:=Pk
def tW (G:X.calm=true):Ce X (.builtin "sorted") (λxs H Q=>∃(a:Addr) (ns:List Int),xs=[.ref a]/\H a=some (FW X.prog X.w a (ns.map Sum.inl))/\ns.Nodup/\ns.length<64/\∀(l:Addr) (f:List Int),H l=none->f.Perm ns->f.Pairwise (·<=·)->Q (.ref l) (upd H l (.lst (f.map V.int)))):=by
 rintro v s W H xs us Q I r⟨a,ns,rfl,R,S,hz,q⟩;obtain⟨u,rfl,A⟩:=Cm r;cases A;obtain⟨⟨p,ep,t,K,i⟩,_,_⟩:=I.hok a _ R;have sz:=i.sz;rw[Ah]at sz
 have m:∀e∈p.toList,∃n t,n∈ns/\e.2=.int n t:=λe b=>by
  obtain⟨⟨k,g,_⟩,_⟩:=i.el e b;obtain⟨n,C,rfl⟩:=AK.mp (memB_iff.mp ((i.me k).mpr ⟨e,b,g⟩));rcases Dp (show DT (.inl n) e.2=true from g)with⟨j,t,e1,e2⟩ | ⟨y,t,e1,e2⟩
  ·cases e1;exact⟨n,t,C,e2⟩
  cases e1
 have P:(p.toList.map λe=>SG.iv e.2).Perm ns:=by
  refine SG.perm_of S (λx M=>?_) (by rw[Ah,Dw];lia);obtain⟨e,b,g⟩:=(i.me (.inl x)).mp (memB_iff.mpr (HM M));rcases Dp (show DT (.inl x) e.2=true from g)with⟨j,t,e1,e2⟩ | ⟨y,t,e1,e2⟩
  ·cases e1;exact AK.mpr ⟨e,b,by rw[e2];rfl⟩
  cases e1
 refine SG.sorted_set (I.ok.hd G) i.gd i.ft Ψ K (λe b=>?_) λh' d tk c D h f F N L E z B=>?_
 ·obtain⟨n,t,_,e2⟩:=m e b;exact⟨t,by rw[e2];rfl⟩
 have w:=N.trans P;have hl:=w.length_eq;have T:=AB;refine⟨.ref _,_,(I.laid (o:=.lst (f.map V.int)) B z ⟨by rw[Ah];lia,h.toList,c,T1 F,by simpa using E⟩).dr d,U,q _ _ (I.hok.fresh z) w L⟩
theorem U6:∀(ns:List Int) (n:Nat),n<=ns.length->preSum (λi=>ns.getD i 0) n=(ns.take n).sum
 | ns,0,_=>by simp[preSum]
 | ns,n+1,h=>by have a:n<ns.length:=h;show preSum (λi=>ns.getD i 0) n+ns.getD n 0=_;rw[U6 ns n Ψ,BN a,List.sum_append];simp[List.getD,a]
def tS (A:X.calm=true):Ce X (.builtin "sum") (λxs H Q=>∃(p:Addr) (ns:List Int),xs=[.ref p]/\Y X.K H p (ns.map V.int)/\Q (.int ns.sum) H):=by
 rintro w s F H xs us Q I r⟨p,ns,rfl,D,q⟩;obtain⟨u,rfl,j⟩:=Cm r;cases j;obtain⟨c,y,h,hz⟩:=I.list D;have a:=y.length;rw[Ah]at a;have d:p<s.heap.objs.size:=by obtain⟨o,n,e,_⟩:=h;exact AH e
 refine call_sum_walkAnyS (HG h.isList ⟨s.heap.objs.size,_,_,_,_,_,_,λi=>ns.getD i 0,U,(L5 (show X.A.in1.handled=none from I.ok.hd A) _ p (Bd d) c.toArray).toS,⟨⟨_,A4 _ U,U,U⟩,h.isList.push _⟩,λb B=>?_,λi v C=>?_,λs' t' l=>?_⟩)
 ·rw[C1];rcases(Ar.mp B)with e | e
  ·rw[e];exact FK _
  rw[AF.mp e];exact FL d
 ·have m:c[i]? = some v:=by simpa using C
  have f:i<ns.length:=by have:=(AW.mp m).1;lia
  obtain⟨E,g,j⟩:=y.get (i:=i) (x:=.int ns[i]) (by simp[f]);rw[m]at g;cases g;obtain⟨t,rfl⟩:=j;exact⟨t,by simp[List.getD,f]⟩
 have e1:preSum (λi=>ns.getD i 0) c.toArray.size=ns.sum:=by rw[Bx,<- a,U6 ns _ (An _),BQ]
 rw[e1,Moved.eq_with l];refine⟨.int _,H,I.kept (λb o e=>l.heap b o ?_ (Ax _ e)),⟨_,U⟩,q⟩;intro z;rw[AF]at z;exact absurd (AH e) (z▸CM _)
def cO (i:X.A.units+64<cLine):Bu X (compareOp .NotEq) (λx y H Q=>∃(a b:Addr) (us vs:List V) (ds c:List PyData),x=.ref a/\y=.ref b/\H a=some (.lst us)/\H b=some (.lst vs)/\RdVs H us ds/\RdVs H vs c /\
  PySem.SeqAt.shaped (.list ds)=true/\PySem.SeqAt.shaped (.list c)=true/\Q (.bl (!PyData.eqv (.list ds) (.list c))) H):=by
 intro d s w H x y v u Q I o n h
 obtain⟨a,b,us,vs,ds,c,rfl,rfl,l,j,rd,p,e,g,q⟩:=h
 cases o
 cases n
 obtain⟨r,m⟩:=Ri I.hok l rd
 obtain⟨bs,f⟩:=Ri I.hok j p
 exact Xp m f e g i ⟨.bl _,H,I,U,q⟩
def uF:bootBuiltins "sum" = some (.builtin "sum"):=by decide +kernel
end
section
variable {X:Cx}
def BO (v a:Addr):HO:=.ext λh=>h.IsItemsView v a
def mM:Ff X "dict.items" (λx xs H Q=>∃a kvs,x=.ref a/\xs=[]/\H a=some (.dK kvs)/\∀v,H v=none->Q (.ref v) (upd H v (BO v a))):=by rintro d s u H x xs v us Q I l h⟨a,kvs,rfl,rfl,j,q⟩;cases l;cases h;obtain⟨hz,i,vs,g,c⟩:=Gc I.hok j;refine Gn JH c.typeIs To (Tr _) (meets_dict_items (B2 X.prog X.w) a i) ⟨⟨vs,c⟩,.ref s.heap.objs.size,_,I.laid (t':=s.toks) (o:=BO s.heap.objs.size a) (λb o e=>Ax _ e) (An _) ⟨⟨_,A4 _ U,U,U⟩,⟨_,A4 _ U⟩,λn p f e=>?_⟩,U,q _ (I.hok.fresh (An _))⟩;obtain⟨o,m,r⟩:=f;exact⟨o,e o m,r⟩
def JQ (a:Addr)(o:Obj)(kvs:List (Key×V)):It:=
 ⟨λi H=>i<kvs.length/\H a=some (.frz o (.dK kvs)),λi H x H'=>∃p k v,x=.ref p/\H p=none/\H'=upd H p (.tup [kV k,v])/\kvs[i]? = some (k,v),λi H=>kvs.length<=i/\H a=some (.frz o (.dK kvs))⟩
theorem T8 {P:Program}{w:World}{K:W.Frag}{n:List Expr}{x1}{tp:Pos}(it a:Addr)(o:Obj)(kvs:List (Key×V))(es:Array DictEntry)(ep:Nat)(T:o.data=.dict es ep) :
  El P w K (.Tuple n x1 tp) (JQ a o kvs) [it] it (λi h=>∃ok l,IsItemIter h it a i kvs.length ep ok l) where
 mem:=by simp
 obj:=λi h st b hb=>by
  have e:b=it:=by simpa using hb
  subst e;obtain⟨_,_,st⟩:=st;exact⟨_,st,λv z=>nomatch z⟩
 keep:=λi h h' st k=>by obtain⟨ok,l,st⟩:=st;exact⟨ok,l,k it Θ _ st⟩
 item:=by
  intro X L D C f i p s σ H E I B st F;subst L D C;obtain⟨N,G⟩:=F;obtain⟨ok,l,st⟩:=st;obtain⟨vs,d,g⟩:=Oo I G T;have A:=d.length;have R:=Ay N;obtain⟨u,hu,ru⟩:=KV.get2 d R;rw[A]at st;have S:=Dy (AH st);refine wpAny_pyNext_items_item (knd:=B2 X.prog X.w) st g hu λkey h' hk q ht hsz kk=>?_;refine⟨_,U,wpAny_letOwnedTupleGo_items (s:={ s with heap:=h' }) q λm M Q=>?_⟩
  have rk:RelV (kV kvs[i].1) key:=by
   rcases Dp (show DT kvs[i].1 key=true from hk)with⟨j,t,e1,e2⟩ | ⟨y,t,e1,e2⟩
   ·rw[e1,e2];exact⟨t,U⟩
   rw[e1,e2];exact⟨t,U⟩
  have x:∀c o,c∉[it]->s.heap.get? c=some o->m.get? c=some o:=λc o f e=>by have r:c≠it:=λz=>f (by rw[z];exact AF.mpr U);exact Q.extBut _ _ r (kk c o r e)
  have new:ObjOk X.prog X.w (upd H s.heap.objs.size (.tup [kV kvs[i].1,kvs[i].2])) m s.heap.objs.size (.tup [kV kvs[i].1,kvs[i].2]):=
   ⟨by show 2<=sizeLine;decide,[key,u],.cons rk (.cons ru .nil),_,Q.extBut _ _ S ht,U,0,U⟩
  have fr:H s.heap.objs.size=none:=I.hok.fresh (An _);rw[<- A]at M;refine⟨.ref s.heap.objs.size,_,I.stepN B x new,U,⟨_,_,_,U,fr,U,R⟩,⟨_,_,M⟩,λc f=>?_⟩;have e:c=it:=by simpa using f
  rw[Ao (e▸S.symm)];exact(B c f).1
 done:=by intro X L D C f i p s σ H E I B st F;subst L D C;obtain⟨N,G⟩:=F;obtain⟨ok,l,st⟩:=st;obtain⟨vs,d,g⟩:=Oo I G T;have A:=d.length;rw[A]at st;exact wpAny_pyNext_items_end (knd:=B2 X.prog X.w) (I.ok.hd f) st g (OO Ψ) λh' eb=>⟨U,I.stepL B λc o f e=>eb c o (λz=>f (z▸AF.mpr U)) e⟩
 self:=λ_ _ _ _ _ st h=>by obtain⟨ok,l,st⟩:=st;refine JA ⟨_,st,U⟩ OA (Ct OA ⟨_,st,U⟩ PySem.W.kcp_entry ?_ (Xr _));exact Ae ⟨_,U, "dict_itemiterator",_,⟨_,st,U⟩,Hk.lookup,h⟩
end
end L2
namespace EN
open PySem PyProof.Rows
theorem draws (p:A.handled=none)(b l:Addr)(e:l≠b)(items:Array Value) :
  Draws prog w A b [b,l] items.size (λi v=>items[i]? = some v) (λi h=>h.IsTupleIter b l i/\h.IsTuple l items) where
 live:=λ_ _ st=>by obtain⟨⟨o,f,_⟩,_⟩:=st;exact⟨o,f⟩
 frame:=λ_ _ _ st g=>by obtain⟨⟨o,f,r⟩,m,d,n⟩:=st;exact⟨⟨o,g b Θ o f,r⟩,m,g l Θ m d,n⟩
 item:=λi s Q E j st q=>by refine ZT.next_item st.1 st.2 (v:=items[i]) (by simp[j]) λh' c a=>?_;exact q _ h' s.toks (by simp[j]) ⟨c,st.2.extBut a.extBut e⟩ a
 done:=λs Q E st u=>ZT.next_end p st.1 st.2 Θ u
abbrev oE (it:Addr):Obj:={ cls:=.type "enumerate",data:=.fields #[.none,.bool false,.ref it,rawInt 0,.none,.none] }
def make (l:Addr)(items:Array Value) :
  Meets (Builtin.«enumerate.__new__» ⟨[.type "enumerate",.ref l],[]⟩) (λ_ R s=>s.heap.IsTuple l items /\ R (.ok (.ret (.ref (s.heap.push (ZT.zI l)).objs.size))) { s with heap:=(s.heap.push (ZT.zI l)).push (oE s.heap.objs.size) }):=
 .of_wp λprog w A R s h=>by
  (obtain⟨r,g,d,tk,p⟩:=s);obtain⟨j,h⟩:=h;have i:=sub_enumerate;have b:=j;obtain⟨⟨c,m,o,q⟩,a,e,n,f⟩:=id j;replace e:c=.type "tuple" := e;replace f:o=.seq items n:=(f);subst e f;wp_walk using OZ a;(refine wpAny_stack_any λst=>Ae ?_);split
  ·rename_i c _ _ _ _ _;cases ((c == Value.type "enumerate"))
   ·wp_walk using OZ a,JE b;exact⟨_,U,h⟩
   wp_walk using OZ a,JE b;exact⟨_,U,h⟩
  wp_walk using OZ a,JE b;exact⟨_,U,h⟩
end EN
namespace L2
open PySem PyProof.Rows
section
variable {X:Cx}
def JR (K:W.Frag)(a:Addr):It:=
 ⟨λi H=>∃xs x,SqT K H a xs/\xs[i]? = some x,λi H v H'=>∃p x,v=.ref p/\H p=none/\H'=upd H p (.tup [.int (i:Nat),x])/\∀xs,SqT K H a xs->xs[i]? = some x,λi H=>∃xs,SqT K H a xs/\xs.length=i⟩
theorem X7 {P:Program}{w:World}{K:W.Frag}{r:List Expr}{x1}{tp:Pos}(e f a:Addr)(j:e≠f):El P w K (.Tuple r x1 tp) (JR K a) [e,f] e (λi h=>(∃old,IsEnum h e f (i:Nat) old)/\h.IsTupleIter f a i) where
 mem:=by simp
 obj:=λn h st c b=>by
  obtain⟨⟨old,g⟩,Q,L,_,d4⟩:=st;simp only[Ar,AS,AQ]at b;rcases b with rfl | rfl
  ·exact⟨_,g,λv e=>nomatch e⟩
  exact⟨_,L,λv e=>by rw[d4]at e;cases e⟩
 keep:=λn h h' st k=>by obtain⟨⟨old,g⟩,Q,L,r4⟩:=st;exact⟨⟨old,k e Θ _ g⟩,Q,k f Θ _ L,r4⟩
 item:=by
  intro X B hw N b n D s σ H E I m st hg;subst B hw N;obtain⟨xs,x,l,hx⟩:=hg;obtain⟨⟨old,g⟩,M⟩:=st;obtain⟨d,R,pa,_⟩:=I.tuple l;obtain⟨u,hu,ru⟩:=R.get hx;have off:∀c∈[e,f],a≠c:=λc b z=>I.fpT l (z ▸ m c b);have S:=off e Θ;have hl:n<d.toArray.size:=by have:=(AW.mp hu).1;simpa using this
  have tz:=Dy (AH g);refine wpAny_pyNext_enum_itemD (EN.draws (show X.A.in1.handled=none from I.ok.hd b) f a (off f Θ) d.toArray) g ⟨M,(show s.heap.IsTuple a d.toArray from pa)⟩ hl j (by simp only[Ar,AS,AQ,E6];exact⟨j,S.symm⟩) λy h' tk B F C ht hsz kk=>?_
  have hy:y=u:=by
   have h2:d[n]? = some y:=by simpa using B
   rw[hu]at h2;exact(Bh h2).symm
  subst hy;refine⟨_,U,wpAny_letOwnedTupleGo_enum (s:={ s with heap:=h',toks:=tk+1 }) F λp g6 sb=>?_⟩;have G:∀c o,c∉[e,f]->s.heap.get? c=some o->p.get? c=some o:=λc o b z=>by simp only[Ar,AS,AQ,E6]at b;exact sb.extBut _ _ b.1 (kk c o b.1 b.2 z)
  have new:ObjOk X.prog X.w (upd H s.heap.objs.size (.tup [.int (n:Nat),x])) p s.heap.objs.size (.tup [.int (n:Nat),x]):=
   ⟨by show 2<=sizeLine;decide,[.int n tk,y],.cons ⟨tk,U⟩ (.cons ru .nil),_,sb.extBut _ _ tz ht,U,0,U⟩
  have fr:H s.heap.objs.size=none:=I.hok.fresh (An _);obtain⟨oi,ei,ri⟩:=C.1;have T:f<s.heap.objs.size:=by obtain⟨Q,L,_⟩:=M;exact AH L
  refine⟨.ref s.heap.objs.size,_,I.stepN (t':=tk+1) m G new,U,⟨_,x,U,fr,U,λzs hz=>by rw[I.tuple_inj hz l];exact hx⟩,⟨⟨_,by simpa using g6⟩,oi,sb.extBut _ _ j.symm ei,ri⟩,λc b=>?_⟩
  have a0:c≠s.heap.objs.size:=by
   simp only[Ar,AS,AQ]at b;rcases b with rfl | rfl
   ·exact tz.symm
   exact Bd T
  rw[Ao a0];exact(m c b).1
 done:=by
  intro X B hw N b n D s σ H E I m st hg;subst B hw N;obtain⟨xs,l,hx⟩:=hg;obtain⟨⟨old,g⟩,M⟩:=st;obtain⟨d,R,pa,_⟩:=I.tuple l;have hl:=R.length;have hsz:d.toArray.size=n:=by simp;lia
  have off:∀c∈[e,f],a≠c:=λc b z=>I.fpT l (z ▸ m c b);refine wpAny_pyNext_enum_endD (EN.draws (A:=X.A.in1) (show X.A.in1.handled=none from I.ok.hd b) f a (off f Θ) d.toArray) g ⟨by rw[hsz];exact M,(show s.heap.IsTuple a d.toArray from pa)⟩ λh' eb=>⟨U,I.stepL (t':=s.toks) m λc o b z=>eb c o (λq=>b (by rw[q];simp)) z⟩
 self:=λ_ _ _ _ _ st h=>by obtain⟨⟨old,g⟩,_⟩:=st;exact wpAny_pyIter_enum g h
def qB (K:W.Frag)(ta:TA):TI:=λσ H R=>ta σ H λvs H1=>∃a,vs=[.ref a]/\(∃xs,SqT K H1 a xs)/\R (JR K a) H1
def Rq {x1}(A:Gl X "enumerate")(r:X.mg "enumerate" = none)(w:bootBuiltins "enumerate" = some (.type "enumerate"))(B:PA X [a] ta)
  (y:starEach [a] X.env=[(false,eval a X.env)]:=by rfl):PI X (.Tuple elts x1 tp) (.Call (.Name "enumerate" p) [a] [] pos) (qB X.K ta):=by
 intro f s E H R I h
 refine Call_ (EB I A r w (FE (thn (B pos f s E H _ I h) λus b j=>?_) (by rw[y];rfl) Φ))
 obtain⟨vs,n,i,v,C⟩:=j
 obtain⟨x,rfl,⟨xs,G⟩,q⟩:=C
 obtain⟨u,rfl,z⟩:=Cm v
 cases z
 obtain⟨d,K,D,_⟩:=i.tuple G
 refine callType_new F.called_enumerate Ξ (F.typeCall_enumerate_1 _) (F.newCall_enumerate_1 _) (λl=>F.args_object_init_2 l _) F.entry_enumerate_new (EN.make x d.toArray) ⟨show b.heap.IsTuple x d.toArray from D,?_⟩
 have g2:((b.heap.push (ZT.zI x)).push (EN.oE b.heap.objs.size)).get? (b.heap.push (ZT.zI x)).objs.size=some _:=A4 _ U
 refine⟨⟨_,g2,U⟩,wpAny_pyIter_enum g2 ⟨_,[_,_],_,_,n,U,i.kept (λc o e=>Ax _ (Ax _ e)),X7 _ b.heap.objs.size x (by rw[(C1 ..)];exact Dy (FK _)),⟨⟨_,g2⟩,_,Ax _ (A4 _ U),U,U⟩,λc m=>?_,q⟩⟩
 have g:b.heap.objs.size<=c:=by simp[Ar,AS,AQ]at m;rcases m with e | e <;> (rw[e];lia)
 exact i.fpOk g (i.hok.fresh g)
end
mutual
/-- what a value reads as,lists too -/
inductive RdW (H:Hp):V->PyData->Prop
 | flat {x:V}{d:PyData}:RdV H x d->RdW H x d
 | lst {a:Addr}{xs:List V}{ds:List PyData}:H a=some (.lst xs)->RdWs H xs ds->RdW H (.ref a) (.list ds)
inductive RdWs (H:Hp):List V->List PyData->Prop
 | nil:RdWs H [] []
 | cons {x:V}{d:PyData}{xs:List V}{ds:List PyData}:RdW H x d->RdWs H xs ds->RdWs H (x::xs) (d::ds)
end
mutual
theorem RdW.reads (ok:HOk P w H h):∀{x:V}{d:PyData}{u:Value},RdW H x d->RelV x u->∃b,Reads h u d b
 | _,_,_,.flat r,ru=>r.reads ok ru
 | _,_,u,.lst (a:=a) e r,ru=>by obtain rfl:u=Value.ref a:=ru;obtain⟨z,f,n,g,i⟩:=ok _ _ e;obtain⟨b,c⟩:=RdWs.reads ok r g;exact⟨_,.list i U U (by simpa using c)⟩
theorem RdWs.reads (ok:HOk P w H h):∀{xs:List V}{ds:List PyData}{us:List Value},RdWs H xs ds->Vals xs us->∃a,ReadsAll h us ds a
 | _,_,_,.nil,r=>by cases r;exact⟨_,.nil⟩
 | _,_,_,.cons r rs,v=>by
  cases v with
  | cons ru rv=>obtain⟨a,b⟩:=RdW.reads ok r ru;obtain⟨bs,c⟩:=RdWs.reads ok rs rv;exact⟨_,.cons b c⟩
end
theorem RdWs.of :∀{xs:List V}{ds:List PyData},RdVs H xs ds->RdWs H xs ds
 | _,_,.nil=>.nil
 | _,_,.cons r rs=>.cons (.flat r) (RdWs.of rs)
section
variable {X:Cx}
def aQ (neg:Bool):R2:=λx y H Q=>∃d e,RdW H x d/\RdW H y e/\PySem.SeqAt.shaped d=true/\PySem.SeqAt.shaped e=true/\Q (.bl (neg ^^ PyData.eqv d e)) H
def cR (g:X.A.units+64<cLine):Bu X (compareOp .Eq) (aQ false):=by rintro a s n H x y v u Q I j i⟨d,e,rd,l,b,f,q⟩;obtain⟨m,h⟩:=rd.reads I.hok j;obtain⟨bs,c⟩:=l.reads I.hok i;refine Tu h c b f g ⟨.bl _,H,I,U,?_⟩;rw[SF]at q;exact q
end
end L2
namespace DP
open PySem PyProof.Rows
def nR:typeLookup (.type "list") "keys" = pure none:=by rw[Gs,Gh];kernel_rfl
def Wx:entryFor table "dict.update.loop" = some Builtin.«dict.update.loop»:=entryFor_of_fast (by kernel_rfl)
def NS:plainId "dict.update.loop" = true:=by decide +kernel
section
variable {prog:Program}{w:World}{A:Around}{E:Value->Shared->Prop}{s:Shared}
def oQ (h:A.handled=none)(f:s.heap.get? a=some { cls:=.type "list",dict:=none,data:=.seq its n,slots:=#[] })
  (q:∀h' t',(∀b u,s.heap.get? b=some u->h'.get? b=some u)->Q none { s with heap:=h',toks:=t' }):wpAny (model prog w) A (getAttr? (.ref a) "keys") Q E s:=by
 (obtain⟨j,g,d,tk,i⟩:=s)
 have e:∀k,(⟨j,g,d,k,i⟩:Shared).TypeIs (.ref a) "list" := λ_=>⟨_,f,U⟩
 have f1:=sub_AttributeError
 (have f3:=Tn.lookup)
 (have f4:=Tn.bind (.ref a))
 (have f5:=am_list_getattr_none)
 (unfold getAttr? getAttrBy? getAttrBy)
 repeat (any_goals (first | assumption | exact e _ | ((with_reducible show wpAny _ _ (call (Value.builtin "list.__getattribute__") _ _) _ _ _);refine Hl Tn (e _) am_entry_list_getattribute (F.args_list_getattribute_2 _ _) (meets_getattribute_miss_list a its n #[] "keys" _ nR Δ (by rw[AB];decide +kernel)) ⟨f,h,λr v p c=>?_⟩) | wp_step))
 obtain⟨m,o,l⟩:=c.there
 have x:=c.of
 (show wpAny _ _ (getattributeRaised _ _ _ _ _ _ _) _ _ _)
 (repeat (any_goals (first | assumption | wp_step)))
 exact q _ _ c.keeps
end
section
variable {prog:Program}{w:World}{κ:Type} [DecidableEq κ] {knd:KeyKind prog w κ}{A:Around}{R:Result->Shared->Prop}
def put (kvs:List (κ×Value)):List (κ×Value):=kvs.foldl (λacc p=>stored acc p.1 p.2) []
def aX (kvs:List (κ×Value))(p:κ×Value):put (kvs++[p])=stored (put kvs) p.1 p.2:=by unfold put;rw[List.foldl_append];rfl
def YR (kvs:List (κ×Value))(k:κ)(v:Value):(stored kvs k v).length<=kvs.length+1:=by
 unfold stored;split
 ·rw[Ah];lia
 rw[AM];exact An _
def aY:∀kvs:List (κ×Value),(put kvs).length<=kvs.length:=by
 have b:∀(kvs a:List (κ×Value)),(kvs.foldl (λa p=>stored a p.1 p.2) a).length<=a.length+kvs.length:=by
  intro kvs;induction kvs with
  | nil=>exact λa=>An _
  | cons p r ih=>intro a;have c:=ih (stored a p.1 p.2);have d:=YR a p.1 p.2;(rw[Jr,BU]);lia
 intro kvs;have:=b kvs [];rw[length_nil,OC]at this;exact this
def loop {I l D:Addr}{items:Array Value}{kvs:List (κ×Value)}{G:Heap}(L:A.in1.handled=none)(n1:l≠I)(u:D≠I)(M:D≠l)(hz:kvs.length<=1000000)(S:items.size=kvs.length)
  (y:∀(i:Nat) (k:κ) (v:Value),kvs[i]? = some (k,v)->∃t f n o,items[i]? = some (.ref t)/\t≠D/\t≠I/\knd.is k f=true/\G.get? t=some o/\o.cls=.type "tuple" /\ o.data=.seq #[f,v] n) :
  ∀(m i:Nat) (s:Shared),kvs.length-i=m->i<=kvs.length->s.heap.IsListIter I l i->s.heap.IsList l items->s.heap.DictOf knd D (put (kvs.take i))->(∀b o,b≠D->b≠I->G.get? b=some o->s.heap.get? b=some o) ->
   (∀(h':Heap) (t':Nat),h'.DictOf knd D (put kvs)->(∀b o,b≠D->b≠I->s.heap.get? b=some o->h'.get? b=some o)->R (.ok (.ret .none)) { s with heap:=h',toks:=t' }) ->
   codeAny (model prog w) A (.builtin "dict.update.loop" ⟨[.ref D,.ref I,.int (i:Nat) 0,.none],[]⟩) R s:=by
 intro m
 induction m with
 | zero=>
  intro i s N Q st q r F c;obtain rfl:i=kvs.length:=by lia
  rw[BQ]at r;apply Ea Wx;rw[E4 NS _];refine Ab (wpAny_pyNext_list_end L st q (by simp[S]) λH e1=>?_);refine Ab (Ae (Ae (c H s.toks ?_ λb o g d e=>e1 b o d e)));exact r.extBut e1 u
 | succ m ih=>
  intro i s N Q st q r F c;have lt:i<kvs.length:=by lia
  obtain⟨t,f,n,o,z,W,K,hk,P,x,B⟩:=y i kvs[i].1 kvs[i].2 (Ay lt);apply Ea Wx;rw[E4 NS _];refine Ab (wpAny_pyNext_list_item st q z λH C p=>?_);have h:=p.extBut _ _ K (F t _ W K P);have e1:put (kvs.take (i+1))=stored (put (kvs.take i)) kvs[i].1 kvs[i].2:=by rw[BN lt,aX]
  have E:=aY (kvs.take i);rw[Bm]at E;refine Ab (B9 (Ab (wpAny_tryCatch ?_)));refine Ab (E9 (T := "tuple") ⟨_,h,x⟩ ?_);rw[As Ξ];refine Ab (EH h B (Ae ?_));refine B9 (wpAny_dictSet_pairs hk (r.sameBut p u) (λh2 j a=>?_) (by rw[AB];lia));rw[<- e1]at j;refine Ae ⟨Fc NS _,ih (i+1) _ Ψ lt (C.extBut a.extBut u.symm) ((q.extBut p.extBut n1).extBut a.extBut M.symm) j (λb o g d e=>a.extBut _ _ g (p.extBut _ _ d (F b o g d e))) λh3 X d3 k3=>c h3 X d3 λb o g d e=>k3 b o g d (a.extBut _ _ g (p.extBut _ _ d e))⟩
end
section
variable {prog:Program}{w:World}{κ:Type} [DecidableEq κ] {knd:KeyKind prog w κ}{A:Around}{E:Value->Shared->Prop}{s:Shared}
def make (y:A.handled=none)(z:s.heap.get? l=some { cls:=.type "list",dict:=none,data:=.seq items n,slots:=#[] })(hz:kvs.length<=1000000)(I:items.size=kvs.length)
  (p:∀(i:Nat) (k:κ) (v:Value),kvs[i]? = some (k,v)->∃t c n o,items[i]? = some (.ref t)/\knd.is k c=true/\s.heap.get? t=some o/\o.cls=.type "tuple" /\ o.data=.seq #[c,v] n)
  (q:∀(h':Heap) (tk:Nat),h'.DictOf knd s.heap.objs.size (put kvs)->(∀b o,s.heap.get? b=some o->h'.get? b=some o)->Q (.ref s.heap.objs.size) { s with heap:=h',toks:=tk }) :
  wpAny (model prog w) A (call (.type "dict") [.ref l]) Q E s:=by
 refine callType_codes (Q₁:=λh C=>h=.ref s.heap.objs.size/\C={ s with heap:=s.heap.push { cls:=.type "dict",data:=.dict #[] } }) F.kt_called_dict (F.kt_typeCall_dict_1 _) F.entry_dict_init (kt_code_dict_new _ ⟨U,U⟩) ?_
 rintro h C ⟨rfl,rfl⟩
 (have a:(s.heap.push { cls:=.type "dict",data:=.dict #[] }).DictOf knd s.heap.objs.size []:=Heap.DictOf.new s.heap)
 (refine⟨a.typeIs,F.args_dict_init_2 _ _,?_⟩)
 (unfold Builtin.«dict.__init__»)
 refine Ab ?_
 (unfold Builtin.Dict.selfAndRest)
 (refine Ab (S8 a.typeIs ?_))
 apply Ae
 show wpAny _ _ (Builtin.Dict.updateFrom "dict.__init__" s.heap.objs.size (.ref l) [] .none) _ _ _
 (unfold Builtin.Dict.updateFrom)
 have f:(s.heap.push { cls:=.type "dict",data:=.dict #[] }).get? l=some { cls:=.type "list",dict:=none,data:=.seq items n,slots:=#[] }:=Ax _ z
 refine Ab (E9 (T := "list") ⟨_,f,U⟩ ?_)
 rw[As Ξ]
 refine Ab (oQ (show A.in1.in1.handled=none from y) f λj W k2=>?_)
 rw[As (show(none:Option Value).isNone=true from U)]
 refine Ab (Ee ?_)
 have g:j.IsList l items:=⟨_,k2 _ _ f,U,n,U⟩
 refine Ab (HG g ?_)
 have m:s.heap.objs.size<j.objs.size:=by obtain⟨B,_,_,d,_⟩:=a;exact AH (k2 _ _ d)
 have D:l<s.heap.objs.size:=AH z
 have G:∀b o,s.heap.get? b=some o->(j.push { cls:=.type "list_iterator",data:=.fields #[.ref l,.int 0 0] }).get? b=some o:=λb o e=>Ax _ (k2 _ _ (Ax _ e))
 have u:(j.push { cls:=.type "list_iterator",data:=.fields #[.ref l,.int 0 0] }).DictOf knd s.heap.objs.size []:=by obtain⟨B,H,ep,d,r⟩:=a;exact⟨B,H,ep,Ax _ (k2 _ _ d),r⟩
 refine Ae ⟨Fc NS _,loop (knd:=knd) (items:=items) (show A.in1.in1.handled=none from y) (Bd (Jp D m)) (Bd m) (Dy D) hz I (λi k v e=>?_) (kvs.length-0) 0 _ U (Bt _) ⟨_,A4 _ U,U,U⟩ (g.push _) u (λb o _ _ e=>G b o e) λN K R k3=>⟨U,q N K R λb o e=>k3 b o (Bd (AH e)) (Bd (Jp (AH e) m)) (G b o e)⟩⟩
 obtain⟨t,c,n,o,P,M,x,L,S⟩:=p i k v e
 exact⟨t,c,n,o,P,Bd (AH x),Bd (Jp (AH x) m),M,x,L,S⟩
end
end DP
namespace L2
open PySem PyProof.Rows
section
variable {X:Cx}
def putAll (kvs:List (Key×V)):List (Key×V):=kvs.foldl (λacc p=>Cq acc p.1 p.2) []
def KV.putAll:∀{kvs:List (Key×V)}{vs:List (Key×Value)},KV kvs vs->KV (L2.putAll kvs) (DP.put vs):=by
 have f:∀{kvs:List (Key×V)}{vs:List (Key×Value)}{a:List (Key×V)}{b:List (Key×Value)},KV kvs vs->KV a b->KV (kvs.foldl (λc p=>Cq c p.1 p.2) a) (vs.foldl (λc p=>stored c p.1 p.2) b):=by
  intro kvs;induction kvs with
  | nil=>intro vs a b r d;cases r;exact d
  | cons p r ih=>
   intro vs a b e d;cases e with
   | cons h t=>rw[Jr,Jr,<- h.1];exact ih t (d.put _ h.2)
 intro kvs vs r;exact f r .nil
theorem TZ:∀{ts:List Addr}{us:List Value},Vals (ts.map V.ref) us->us=ts.map Value.ref
 | [],_,r=>by cases r;rfl
 | t::ts,_,r=>by
  cases r with
  | cons h q=>cases h;rw[TZ q];rfl
def aZ (kvs:List (Key×V)):(L2.putAll kvs).length<=kvs.length:=by
 have c:∀(kvs a:List (Key×V)),(kvs.foldl (λb p=>Cq b p.1 p.2) a).length<=a.length+kvs.length:=by
  intro kvs;induction kvs with
  | nil=>exact λa=>An _
  | cons p r ih=>intro a;have d:=ih (Cq a p.1 p.2);have e:=RJ a p.1 p.2;(rw[Jr,BU]);lia
 have:=c kvs [];rw[length_nil,OC]at this;exact this
theorem Vl (ok:HOk P w H h):∀(ts:List Addr) (kvs:List (Key×V)),ts.length=kvs.length->(∀(i:Nat) (t:Addr) (k:Key) (v:V),ts[i]? = some t->kvs[i]? = some (k,v)->H t=some (.tup [kV k,v])) ->
  ∃vs:List (Key×Value),KV kvs vs/\∀(i:Nat) (k:Key) (v:Value),vs[i]? = some (k,v)->∃t a n o,ts[i]? = some t/\(B2 P w).is k a=true/\h.get? t=some o/\o.cls=.type "tuple" /\ o.data=.seq #[a,v] n
 | [],[],_,_=>⟨[],.nil,λi k v e=>by simp at e⟩
 | [],_::_,hl,_=>by cases hl
 | _::_,[],hl,_=>by cases hl
 | t::ts,(k,v)::kvs,hl,hh=>by
  obtain⟨vs,r,q⟩:=Vl ok ts kvs (Nat.succ.inj hl) λi t' b c f p=>hh (i+1) t' b c (by simpa using f) (by simpa using p);obtain⟨z,y,g,o,D,m,n,A⟩:=ok t _ (hh 0 t k v U U);obtain⟨u,C,rfl,j,d⟩:=HW g;refine⟨(k,C)::vs,.cons ⟨U,d⟩ r,λi b c e=>?_⟩;cases i with
  | zero=>cases e;exact⟨t,u,n,o,U,Fq j,D,m,A⟩
  | succ i=>obtain⟨t',a,x,l,s,B⟩:=q i b c (by simpa using e);exact⟨t',a,x,l,by simpa using s,B⟩
def W5 (m:X.calm=true):Ce X (.type "dict") (λxs H Q=>∃(p:Addr) (ts:List Addr) (kvs:List (Key×V)),xs=[.ref p]/\H p=some (.lst (ts.map V.ref))/\ts.length=kvs.length/\kvs.length<=1000 /\
  (∀(i:Nat) (t:Addr) (k:Key) (v:V),ts[i]? = some t->kvs[i]? = some (k,v)->H t=some (.tup [kV k,v]))/\∀d,H d=none->Q (.ref d) (upd H d (.dK (putAll kvs)))):=by
 intro c s S H xs us Q I r h
 obtain⟨p,ts,kvs,rfl,P,x,hz,w,q⟩:=h
 obtain⟨u,rfl,C⟩:=Cm r
 cases C
 obtain⟨z,y,n,E,a,e⟩:=I.lstM P
 obtain⟨vs,f,at'⟩:=Vl I.hok ts kvs x w
 have g:=TZ E
 subst g
 have F:=f.length
 rw[Ah]at a
 refine DP.make (knd:=B2 X.prog X.w) (kvs:=vs) (I.ok.hd m) e Ψ (by rw[Bx,Ah];lia) (λi k v D=>?_) λh' tk M N=>?_
 ·obtain⟨t,b,L,o,G,B,j,l,A⟩:=at' i k v D;exact⟨t,b,L,o,by rw[SJ,AU,G];rfl,B,j,l,A⟩
 have K:=aZ kvs
 have R:=AB
 refine⟨.ref _,_,I.laid (o:=.dK (putAll kvs)) N (An _) ⟨Ψ,?_,_,KV.putAll f,M⟩,U,q _ (I.hok.fresh (An _))⟩
 exact FD.mpr (Dy I.big)
end
end L2
namespace LP
open PySem PyProof.Rows
end LP
namespace L2
open PySem PyProof.Rows
end L2
namespace SI
open PySem PySem.W PyProof.Rows
def run {α:Type}(f:Nat->Nat->Bool):KasT α->α
 | .ret a=>a
 | .ask i j k=>run f (k (f i j))
def BR {α:Type}(n:Nat):KasT α->Bool
 | .ret _=>true
 | .ask i j k=>(decide (i<n) && decide (j<n) && decide (i≠j)) && (BR n (k true) && BR n (k false))
def V8 {a:Type}{n:Nat}{k:Bool->KasT a}(h:(BR n (k true) && BR n (k false))=true)(b:Bool):BR n (k b)=true:=by
 rw[Co]at h;cases b with
 | true=>exact h.1
 | false=>exact h.2
theorem UG {c:Type}{n:Nat}{f:Nat->Nat->Bool}{a:Nat->Nat->(Bool->Shared->Prop)->Shared->Prop}{Q:c->Shared->Prop}{s:Shared}(b:∀i j (C:Bool->Shared->Prop),i<n->j<n->i≠j->C (f i j) s->a i j C s) :
  ∀t:KasT c,BR n t=true->Q (run f t) s->t.kasWp a Q s
 | .ret _,_,h=>h
 | .ask i j k,g,h=>by unfold BR at g;rw[Co,Co,Co]at g;have g2:=g.2;exact b i j _ (Bp g.1.1.1) (Bp g.1.1.2) (Bp g.1.2) (UG b (k (f i j)) (V8 g2 _) h)
theorem Rc {b:Type}{n:Nat}{f g:Nat->Nat->Bool}(a:∀i j,i<n->j<n->i≠j->f i j=g i j):∀t:KasT b,BR n t=true->run f t=run g t
 | .ret _,_=>rfl
 | .ask i j k,q=>by unfold BR at q;rw[Co,Co,Co]at q;have g2:=q.2;show run f (k (f i j))=run g (k (g i j));rw[a i j (Bp q.1.1.1) (Bp q.1.1.2) (Bp q.1.2)];exact Rc a _ (V8 g2 _)
def V9:BR 2 (kas_sort 2)=true:=by decide +kernel
def Fv:BR 3 (kas_sort 3)=true:=by decide +kernel
def f3 (a b c:Bool):Nat->Nat->Bool
 | 0,1=>a
 | 1,0=>!a
 | 0,2=>b
 | 2,0=>!b
 | 1,2=>c
 | 2,1=>!c
 | _,_=>false
def GD (f:Nat->Nat->Bool)(p:List Nat)(n:Nat):Bool:=decide (p.Perm (List.range n)) && (p.zip p.tail).all λq=>f q.1 q.2
def s2:∀a:Bool,GD (f3 a false false) (run (f3 a false false) (kas_sort 2)).toList 2=true:=by decide +kernel
def s3:∀a b c:Bool,(!(a && c && !b) && !(!a && !c && b))=true->GD (f3 a b c) (run (f3 a b c) (kas_sort 3)).toList 3=true:=by decide +kernel
section
variable {prog:Program}{w:World}{A:Around}{E:Value->Shared->Prop}{s:Shared}
def Y2 (D:s.heap.get? a=some (seqObj "list" vs.toArray n))(X:vs.length<=3)
  (F:2<=vs.length->∀h',(∀b o,b≠a->s.heap.get? b=some o->h'.get? b=some o)->wpAny (model prog w) A (keyKind' vs.toArray) (λM s'=>s'={ s with heap:=h' }/\∀i j (C:Bool->Shared->Prop),i<vs.length->j<vs.length->i≠j->C (f i j) s'->kas_ask prog w A M vs i j C s') (λ_ _=>False) { s with heap:=h' })
  (y:∀h' c (p:List Nat),p.length=vs.length->(2<=vs.length->p=(run f (kas_sort vs.length)).toList)->(vs.length<2->p=List.range vs.length)->(∀b o,b≠a->s.heap.get? b=some o->h'.get? b=some o)->h'.get? a=some (seqObj "list" (p.map λi=>vs.getD i Value.none).toArray c)->P (.done (.ret .none)) { s with heap:=h' }) :
  (wpAny (model prog w) A (Builtin.«list.sort» ⟨[.ref a],[]⟩) P E s):=by
 (have ha:=AH D)
 (obtain⟨e1,B⟩:∃e1,(s.heap.update a (Obj.mapSeq λ_=>(#[]:Array Value))).get? a=some (seqObj "list" #[] e1):=⟨_,get?_update_seq D λ_=>#[]⟩)
 rw[list_sort_plain]
 (refine Ab (listItems_at D U ?_))
 (refine Ab (listUpdate_at D U ?_ (by rw[Bx,AB];lia) (Bt _)))
 (refine Ab (seqEpoch_at B U ?_))
 (refine Ab (wpAny_newTuple ?_ (by rw[AB];lia)))
 (refine Ab (wpAny_newList ?_ (Bt _)))
 refine B9 ?_
 have keep:∀b o,b≠a->s.heap.get? b=some o->(((s.heap.update a (Obj.mapSeq λ_=>(#[]:Array Value))).push (seqObj "tuple" vs.toArray 0)).push (seqObj "list" #[] 0)).get? b=some o:=λb o q e=>Ax _ (Ax _ (((FC s.heap a (Obj.mapSeq λ_=>(#[]:Array Value))).2 b q).trans e))
 have d:(((s.heap.update a (Obj.mapSeq λ_=>(#[]:Array Value))).push (seqObj "tuple" vs.toArray 0)).push (seqObj "list" #[] 0)).get? a=some (seqObj "list" #[] e1):=Ax _ (Ax _ B)
 (show wpAny (model prog w) A _ P E { s with heap:=((s.heap.update a (Obj.mapSeq λ_=>(#[]:Array Value))).push (seqObj "tuple" vs.toArray 0)).push (seqObj "list" #[] 0) })
 generalize ((s.heap.update a (Obj.mapSeq λ_=>(#[]:Array Value))).push (seqObj "tuple" vs.toArray 0)).push (seqObj "list" #[] 0)=l at keep d ⊢
 dsimp only
 by_cases v:vs.length<2
 ·have h:vs.toArray.size<2:=by rw[Bx];exact v
  rw[As h,As h];refine Ab (Ae ?_);refine Ab (Gk (a:=((),SortSt.mk' general' (vs.toArray.zip vs.toArray) #[] 7 none)) U ?_);have g:(arrOf (SortSt.mk' general' (vs.toArray.zip vs.toArray) #[] 7 none)).map (·.2)=((List.range vs.length).map λi=>vs.getD i Value.none).toArray:=by apply OP.mp;rw[Array.toList_map,Array.toList_zip,SZ,List.map_snd_zip (An _)];refine ext_getElem Θ λk l v=>?_;simp[Cy,l]
  rw[g];have K:(List.range vs.length).length=vs.length:=Dv;have N:=FC l a (Obj.mapSeq λ_=>((List.range vs.length).map λi=>vs.getD i Value.none).toArray);obtain⟨u,r⟩:∃u,(l.update a (Obj.mapSeq λ_=>((List.range vs.length).map λi=>vs.getD i Value.none).toArray)).get? a=some (seqObj "list" ((List.range vs.length).map λi=>vs.getD i Value.none).toArray u):=⟨_,get?_update_seq d λ_=>((List.range vs.length).map λi=>vs.getD i Value.none).toArray⟩;refine Ab (seqEpoch_at d U ?_);refine Ab (listUpdate_at d U ?_ (Bt _) (by rw[Bx,Ah,AB];lia));show wpAny _ _ (if (e1 != e1)=true then _ else _) _ _ _;rw[Ag Θ];exact Ae (y _ u _ K (λz=>absurd v Ψ) (λ_=>U) (λb o q e=>(N.2 b q).trans (keep b o q e)) r)
 have h:¬vs.toArray.size<2:=by rw[Bx];exact v
 rw[Ag h,Ag h]
 refine Ab (CD (F Ψ l keep) (λM W I=>?_) λ_ _ x=>x.elim)
 obtain⟨rfl,I⟩:=I
 refine Ab (CD (kat_run (Q:=λm s'=>s'={ s with heap:=l }/\∃p:Array Nat,p.size=vs.length/\arrOf m=p.map (kas_item (vs.toArray.zip vs.toArray))/\failedOf m=none/\p=run f (kas_sort vs.length)) (G:=λp s'=>s'={ s with heap:=l }/\p=run f (kas_sort vs.length)) U Ψ Ψ (λp m s' R T S L=>⟨L.1,p,R,T,S,L.2⟩) (UG I _ ?_ ⟨U,U⟩)) ?_ λ_ _ e=>e)
 ·rcases(by lia:vs.length=2\/vs.length=3)with e | e
  ·rw[e];exact V9
  rw[e];exact Fv
 rintro⟨⟨⟩,m⟩ s' ⟨rfl,p,K,har,hf,hpe⟩
 dsimp only
 have g:=kat_snds U har
 have H:p.toList.length=vs.length:=by rw[Dw];exact K
 rw[g]
 obtain⟨u,r⟩:∃u,(l.update a (Obj.mapSeq λ_=>(p.toList.map λi=>vs.getD i Value.none).toArray)).get? a=some (seqObj "list" (p.toList.map λi=>vs.getD i Value.none).toArray u):=⟨_,get?_update_seq d λ_=>(p.toList.map λi=>vs.getD i Value.none).toArray⟩
 refine Ab (seqEpoch_at d U ?_)
 refine Ab (listUpdate_at d U ?_ (Bt _) (by rw[Bx,Ah,AB];lia))
 rw[hf]
 (simp[SN,DZ,De])
 exact Ae (y _ u _ H (λ_=>by rw[hpe]) (λz=>absurd z v) (λb o q e=>((FC l a (Obj.mapSeq λ_=>(p.toList.map λi=>vs.getD i Value.none).toArray)).2 b q).trans (keep b o q e)) r)
def O9 (h:Heap)(as:List Addr)(ks:List Str):Prop:=as.length=ks.length/\∀(i:Nat) a k,as[i]? = some a->ks[i]? = some k->∃t x,h.get? a=some { cls:=.type "tuple",data:=.seq #[.str k t,x] }
def lt (ks:List Str)(i j:Nat):Bool:=decide ((ks.getD i Str.empty).cps.toList<(ks.getD j Str.empty).cps.toList)
theorem T9 :∀{d:List Addr}{ks:List Str},O9 h d ks->∃fs:List Value,KatTups h (d.map Value.ref) fs/\fs.length=ks.length/\∀v∈fs,∃k t,v=.str k t
 | [],[],_=>⟨[],.nil,U,λv c=>nomatch c⟩
 | [],_::_,h=>by have:=h.1;simp at this
 | _::_,[],h=>by have:=h.1;simp at this
 | a::d,k::ks,hp=>by
  obtain⟨t,x,e⟩:=hp.2 0 a k U U;obtain⟨fs,f1,f2,f3⟩:=T9 ⟨by have:=hp.1;simpa using this,λi b l f g=>hp.2 (i+1) b l (by simpa using f) (by simpa using g)⟩;refine⟨.str k t::fs,.cons e U U U f1,by simp[f2],λv c=>?_⟩;rcases(Ar.mp c)with e | e
  ·exact⟨k,t,e⟩
  exact f3 v e
def X8 (a:O9 s.heap as ks)(l:ks.Nodup)(n:2<=as.length) :
  wpAny (model prog w) A (keyKind' (as.map Value.ref).toArray) (λg s'=>s'=s/\∀i j (C:Bool->Shared->Prop),i<(as.map Value.ref).length->j<(as.map Value.ref).length->i≠j->C (lt ks i j) s'->kas_ask prog w A g (as.map Value.ref) i j C s') E s:=by
 obtain⟨fs,f1,f2,f3⟩:=T9 a
 have p:=a.1
 refine kat_kind (T:=.type "str") f1 Ψ (λv h m r o s' _ q=>?_) Ξ ⟨U,λi j C d f e b=>?_⟩
 ·obtain⟨k,t,rfl⟩:=f3 v h;exact E9 (T := "str") U q
 rw[Ah]at d f
 obtain⟨t,x,e1⟩:=a.2 i as[i] (ks[i]'Ψ) (Ay d) (Ay Ψ)
 obtain⟨u,y,e2⟩:=a.2 j as[j] (ks[j]'Ψ) (Ay f) (Ay Ψ)
 unfold kas_ask
 have g1:(as.map Value.ref).getD i Value.none=.ref as[i]:=by simp[Cy,d]
 have g2:(as.map Value.ref).getD j Value.none=.ref as[j]:=by simp[Cy,f]
 rw[g1,g2]
 apply kat_lt e1 U e2 U
 refine kat_cons (wpAny_eqBool_str ?_)
 rw[Bi (λz=>e ((Ho l).mp z))]
 apply kat_no
 have c:C (decide ((ks[i]'Ψ).cps.toList<(ks[j]'Ψ).cps.toList)) s:=by unfold lt at b;rw[show ks.getD i Str.empty=ks[i]'Ψ by simp[Cy,(by lia:i<ks.length)],show ks.getD j Str.empty=ks[j]'Ψ by simp[Cy,(by lia:j<ks.length)]]at b;exact b
 exact oneLt_str c
end
def G8 (g:ks.Nodup)(l:i<ks.length)(h:j<ks.length)(f:i≠j):lt ks j i=!lt ks i j:=by
 have m:ks.getD i Str.empty=ks[i]:=by simp[Cy,l]
 have n:ks.getD j Str.empty=ks[j]:=by simp[Cy,h]
 have c:ks[i]≠ks[j]:=λz=>f ((Ho g).mp z);unfold lt;rw[m,n];generalize ks[i]=a at c;generalize ks[j]=b at c;by_cases e:a.cps.toList<b.cps.toList
 ·have d:=List.lt_asymm e;rw[AV e,Bi d];rfl
 have d:b.cps.toList<a.cps.toList:=by refine Decidable.byContradiction λd=>c ?_;have e2:=OP.mp (List.le_antisymm (not_lt.mp d) (not_lt.mp e));cases a;cases b;cases e2;rfl
 rw[Bi e,AV d];rfl
def VI {ks:List Str}{i j k:Nat}(a:lt ks i j=true)(b:lt ks j k=true):lt ks i k=true:=AV (List.lt_trans (Bp a) (Bp b))
def Y1 (d:ks.Nodup)(y:2<=ks.length)(A:ks.length<=3):GD (lt ks) (run (lt ks) (kas_sort ks.length)).toList ks.length=true:=by
 have b:∀(g:Nat->Nat->Bool) (n:Nat) (p:List Nat),(∀i j,i<n->j<n->i≠j->lt ks i j=g i j)->GD g p n=true->GD (lt ks) p n=true:=λg n p c f=>by
  unfold GD at f ⊢;rw[Co]at f ⊢;refine⟨f.1,?_⟩;have a:=Bp f.1;rw[E8]at f ⊢;intro q h;have m:=f.2 q h;have r:q.1≠q.2:=λe=>by obtain⟨k,o⟩:=Hu h;rw[List.getElem?_zip_eq_some,List.getElem?_tail]at o;obtain⟨z,e1⟩:=AW.mp o.1;obtain⟨x,e2⟩:=AW.mp o.2;have:=(Ho (a.nodup_iff.mpr List.nodup_range)).mp (e1.trans (e.trans e2.symm));lia
  rw[c q.1 q.2 (Dz.mp (a.mem_iff.mp ((L6 h).1))) (Dz.mp (a.mem_iff.mp (List.mem_of_mem_tail (L6 h).2))) r];exact m
 rcases(by lia:ks.length=2\/ks.length=3)with e | e
 ·rw[e]
  have c:∀i j,i<2->j<2->i≠j->lt ks i j=f3 (lt ks 0 1) false false i j:=λi j w v l=>by
   rcases(by lia:(i=0/\j=1)\/(i=1/\j=0))with⟨rfl,rfl⟩ | ⟨rfl,rfl⟩
   ·rfl
   exact G8 d Ψ Ψ Ψ
  rw[Rc c _ V9];exact b _ 2 _ c (s2 _)
 rw[e]
 have c:∀i j,i<3->j<3->i≠j->lt ks i j=f3 (lt ks 0 1) (lt ks 0 2) (lt ks 1 2) i j:=λi j w v l=>by
  rcases(by lia:(i=0/\j=1)\/(i=1/\j=0)\/(i=0/\j=2)\/(i=2/\j=0)\/(i=1/\j=2)\/(i=2/\j=1))with⟨rfl,rfl⟩ | ⟨rfl,rfl⟩ | ⟨rfl,rfl⟩ | ⟨rfl,rfl⟩ | ⟨rfl,rfl⟩ | ⟨rfl,rfl⟩
  ·rfl
  ·exact G8 d Ψ Ψ Ψ
  ·rfl
  ·exact G8 d Ψ Ψ Ψ
  ·rfl
  exact G8 d Ψ Ψ Ψ
 rw[Rc c _ Fv];refine b _ 3 _ c (s3 _ _ _ ?_);have u:=@VI ks 0 1 2;have s:=@VI ks 2 1 0;rw[(G8 (i:=0) (j:=1) d Ψ Ψ Ψ),G8 (i:=0) (j:=2) d Ψ Ψ Ψ,(G8 (i:=1) (j:=2) d Ψ Ψ Ψ)]at s;revert u s;cases lt ks 0 1 <;> cases lt ks 0 2 <;> cases lt ks 1 2 <;> simp
section
variable {prog:Program}{w:World}{A:Around}{E:Value->Shared->Prop}{s:Shared}
def items_sorted {L:Type}[DecidableEq L]{knd:PySem.KeyKind prog w L}{kvs:List (L×Value)}{ep:Nat}{r d:Addr}{ks:List Str}{Q:Value->Shared->Prop}(W:A.handled=none)(hv:s.heap.IsItemsView r d)(hm:s.heap.DictAt knd d kvs ep)(hn:kvs.length<=3)(F:ks.length=kvs.length)
  (D:∀(j:Nat) k x g,kvs[j]? = some (k,x)->knd.is k g=true->∃y t,ks[j]? = some y/\g=.str y t)(R:ks.Nodup)
  (h:∀(l h':Heap) (tk:Nat) (m:List Addr) (p:List Nat) (c:Nat),(∀b o,s.heap.get? b=some o->l.get? b=some o)->m.length=kvs.length->KdxG knd kvs s.heap.objs.size l m->p.Perm (List.range kvs.length)->((p.zip p.tail).all λq=>lt ks q.1 q.2)=true->(∀b o,l.get? b=some o->h'.get? b=some o) -> h'.get? l.objs.size=some (seqObj "list" (p.map λi=>(m.map Value.ref).getD i Value.none).toArray c)->Q (.ref l.objs.size) { s with heap:=h',toks:=tk }):wpAny (model prog w) A (call (.builtin "sorted") [.ref r]) Q E s:=by
 refine Ts kind_sorted plain_sorted entry_sorted (args_sorted1 (.ref r)) ?_
 (refine Ab (Ae ?_))
 have X:=AB
 refine Ab (kdx_collect (ep:=ep) W hv hm Ψ λl tk m hk v G=>?_)
 refine Ab (wpAny_newList ?_ (by rw[Ah];lia))
 have C:(l.push (seqObj "list" (m.map Value.ref).toArray 0)).get? l.objs.size=some (seqObj "list" (m.map Value.ref).toArray 0):=A4 _ U
 have S:O9 l m ks:=⟨by rw[v,F],λi a k u n=>by obtain⟨g,k2,x,e1,e2,e3⟩:=G.pairs i a u;obtain⟨y,t,T,rfl⟩:=D i k2 x g e1 e2;rw[n]at T;cases T;exact⟨t,x,e3⟩⟩
 have I:∀a∈m,a≠l.objs.size:=λa u=>Bd (G.there u)
 refine Ab (B9 (Ct slot_list_sort ⟨_,C,U⟩ entry_list_sort ?_ (args_list_sort _)))
 refine Y2 (f:=lt ks) (s:={ s with heap:=l.push (seqObj "list" (m.map Value.ref).toArray 0),toks:=tk }) C (by rw[Ah];lia) (λH h' K=>?_) (λh' c p hp P N K hB=>?_)
 ·rw[Ah]at H;have M:O9 h' m ks:=⟨S.1,λi a k u n=>by obtain⟨t,x,e⟩:=S.2 i a k u n;exact⟨t,x,K a _ (I a (Cc u)) (Ax _ e)⟩⟩;exact X8 M R H
 rw[Ah]at hp P N
 have g:p.Perm (List.range kvs.length)/\((p.zip p.tail).all λq=>lt ks q.1 q.2)=true:=by
  by_cases H:2<=kvs.length
  ·have e:=P Ψ;have B:=Y1 R Ψ Ψ;rw[F,<- v,<- e]at B;unfold GD at B;rw[Co]at B;rw[<- v];exact⟨Bp B.1,B.2⟩
  have e:=N Ψ;rw[e,v];refine⟨.refl _,?_⟩;rcases(by lia:kvs.length=0\/kvs.length=1)with z | z <;> (rw[z];rfl)
 exact⟨_,U,Ae ⟨_,U,h l h' tk m p c hk v G g.1 g.2 (λb o e=>K b o (Bd (AH e)) (Ax _ e)) hB⟩⟩
end
end SI
namespace L2
open PySem PySem.W PyProof.Rows
section
variable {X:Cx}{dg:List (Addr×Obj)}{σ:St}
def O8 (H:Hp)(as:List Addr)(ps:List (Str×V)):Prop:=as.length=ps.length/\∀(i:Nat) a p,as[i]? = some a->ps[i]? = some p->H a=some (.tup [.str p.1,p.2])
def FpOk.off (h:FpOk X dg H a)(n:a≠b):FpOk X dg (upd H b o) a:=⟨(Ao n)▸h.1,h.2⟩
theorem Ua :∀(c:List Addr) (ps:List (Str×V)) (H:Hp),Inv X dg σ H s->c.Nodup->c.length=ps.length->(∀a∈c,FpOk X dg H a) ->
  (∀(i:Nat) a p,c[i]? = some a->ps[i]? = some p->∃u t,RelV p.2 u/\s.heap.get? a=some { cls:=.type "tuple",data:=.seq #[.str p.1 t,u] })->∃H',Inv X dg σ H' s/\Same H H'/\O8 H' c ps
 | [],[],H,I,_,_,_,_=>⟨H,I,Same.refl _,U,λi a p h=>by simp at h⟩
 | [],_::_,_,_,_,h,_,_=>by simp at h
 | _::_,[],_,_,_,h,_,_=>by simp at h
 | a::c,p::ps,H,I,nd,hl,hf,hp=>by
  obtain⟨u,t,o,e⟩:=hp 0 a p U U;have j:=hf a Bb;have f:=Du.mp nd;have n:Inv X dg σ (upd H a (.tup [.str p.1,p.2])) s:=I.trackF j ⟨by show 2<=sizeLine;decide,[.str p.1 t,u],.cons ⟨t,U⟩ (.cons o .nil),_,e,U,0,U⟩;obtain⟨H',l,s',m⟩:=Ua c ps _ n f.2 (by simpa using hl) (λb d=>(hf b (Bc _ d)).off λz=>f.1 (z ▸ d)) (λi b q d g=>hp (i+1) b q (by simpa using d) (by simpa using g));refine⟨H',l,(Na j.1).trans s',hl,λi b q d g=>?_⟩;cases i with
  | zero=>cases d;cases g;exact s' _ _ Af
  | succ i=>exact m.2 i b q (by simpa using d) (by simpa using g)
def N9 (zs:List (Str×V)):Bool:=(zs.zip zs.tail).all λq=>decide (q.1.1.cps.toList<q.2.1.cps.toList)
def tV (hc:X.calm=true):Ce X (.builtin "sorted") (λxs H Q=>∃(v d:Addr) (ps:List (Str×V)),xs=[.ref v]/\H v=some (BO v d)/\H d=some (.dK (ps.map λp=>(Sum.inr p.1,p.2)))/\ps.length<=3 /\
  ∀(l:Addr) (f:List Addr) (zs:List (Str×V)) (H':Hp),Same H H'->H l=none->zs.Perm ps->N9 zs=true->H' l=some (.lst (f.map V.ref))->O8 H' f zs->Q (.ref l) H'):=by
 intro dg s σ H xs us Q I r h
 obtain⟨v,d,ps,rfl,hv,hd,h3,q⟩:=h
 obtain⟨u,rfl,T⟩:=Cm r
 cases T
 obtain⟨hz,hm,vs,n,o,es,ep,ho,ex,S,hK,hP,m⟩:=Gc I.hok hd
 obtain⟨K,_,_⟩:=I.hok v _ hv
 have C:=n.length
 rw[Ah]at C
 have a2:=AB
 have at':∀(j:Nat) k x,vs[j]? = some (k,x)->∃p,ps[j]? = some p/\k=Sum.inr p.1/\RelV p.2 x:=λj k x B=>by
  have a3:=(AW.mp B).1;have D:j<ps.length:=by lia
  obtain⟨u,hu,T⟩:=KV.get2 n (show(ps.map λp=>((Sum.inr p.1:Key),p.2))[j]? = some (Sum.inr (ps[j]).1,(ps[j]).2) by rw[AU,Ay D];rfl);rw[B]at hu;cases hu;exact⟨ps[j],Ay D,U,T⟩
 refine SI.items_sorted (knd:=B2 X.prog X.w) (ks:=ps.map (·.1)) (I.ok.hd hc) K ⟨o,es,ho,ex,S,hK,hP,m⟩ Ψ (by rw[Ah];lia) (λj k x A B L=>?_) ?_ λF h' tk f p c E hl P hp hs ext hB=>?_
 ·obtain⟨pp,e1,e2,_⟩:=at' j k x B;subst e2;rcases Dp (show DT (Sum.inr pp.1) A=true from L)with⟨i,t,w,e2⟩ | ⟨y,t,w,e2⟩
  ·cases w
  cases w;exact⟨_,t,by rw[AU,e1];rfl,e2⟩
 ·have ek:=n.keys;rw[<- ek,Bk]at m;have e:ps.map ((λx:Key×V=>x.1) ∘ λp=>((Sum.inr p.1:Key),p.2))=(ps.map (·.1)).map Sum.inr:=by rw[Bk];rfl
  rw[e]at m;exact List.Pairwise.of_map Sum.inr (λa b h z=>h (by rw[z])) m
 have I1:Inv X dg σ H { s with heap:=F,toks:=tk }:=I.kept (t':=tk) E
 have hf:∀a∈f,FpOk X dg H a:=λa g=>I.fpOk (FH (P.above a g)) (I.hok.fresh (FH (P.above a g)))
 obtain⟨H2,I2,s2,pr⟩:=Ua f ps H I1 (P.rise.imp λz=>Bd z) Ψ hf (λi a pp g a1=>by
  obtain⟨A,k,x,e1,e2,e3⟩:=P.pairs i a g;obtain⟨p2,f1,f2,f3⟩:=at' i k x e1;rw[a1]at f1;cases f1;subst f2;rcases Dp (show DT (Sum.inr pp.1) A=true from e2)with⟨i',t,g1,g2⟩ | ⟨y,t,g1,g2⟩
  ·cases g1
  cases g1;rw[g2]at e3;exact⟨x,t,f3,e3⟩)
 have M:∀i∈p,i<f.length:=λi R=>by have:=Dz.mp (hp.mem_iff.mp R);lia
 have W:p.length=f.length:=by rw[hp.length_eq,Dv,hl]
 have G:∀q:List Nat,(∀i∈q,i<f.length)->Vals ((q.map λi=>f.getD i 0).map V.ref) (q.map λi=>(f.map Value.ref).getD i Value.none):=λq=>by
  induction q with
  | nil=>exact λ_=>.nil
  | cons i q ih=>
   intro hq;have R:=hq i Bb;refine .cons ?_ (ih λj B=>hq j (Bc _ B));have e1:f.getD i 0=f[i]:=by simp[Cy,R]
   have e2:(f.map Value.ref).getD i Value.none=.ref f[i]:=by simp[Cy,R]
   show RelV (.ref (f.getD i 0)) ((f.map Value.ref).getD i Value.none);rw[e1,e2];rfl
 have N:H2 F.objs.size=none:=I2.hok.fresh (An _)
 have I3:Inv X dg σ (upd H2 F.objs.size (.lst ((p.map λi=>f.getD i 0).map V.ref))) { s with heap:=h',toks:=tk }:=
  I2.laid ext (An _) ⟨by rw[Ah,Ah];lia,_,c,G p M,hB⟩
 refine⟨.ref F.objs.size,_,I3,U,q _ (p.map λi=>f.getD i 0) (p.map λi=>ps.getD i (Str.empty,.non)) _ (s2.trans (Na N)) (I1.hok.fresh (An _)) ?_ ?_ Af ⟨by rw[Ah,Ah],λi a z g hz=>?_⟩⟩
 ·refine(hp.map _).trans ?_;have e:(List.range vs.length).map (λi=>ps.getD i (Str.empty,.non))=ps:=by refine ext_getElem (by simp[C]) λk F h2=>?_;simp[Cy,h2]
  rw[e]
 ·unfold N9;rw[<- List.map_tail,List.zip_map,List.all_map];rw[E8]at hs ⊢;intro x hx;have:=hs x hx;unfold SI.lt at this;have eg:∀i,(ps.map (·.1)).getD i Str.empty=(ps.getD i (Str.empty,.non)).1:=λi=>by (rw[Cy,Cy,AU]);cases ps[i]? <;> rfl
  rw[eg,eg]at this;exact this
 rw[AU]at g hz
 cases L:p[i]? with
 | none=>rw[L]at g;cases g
 | some k=>
  rw[L]at g hz;have a0:=M k (Cc L);have ea:f[k]? = some a:=by have e9:f.getD k 0=a:=Bh g;rw[<- e9,Cy,Ay a0];rfl
  have ez:ps[k]? = some z:=by have e9:ps.getD k (Str.empty,.non)=z:=Bh hz;rw[<- e9,Cy,Ay Ψ];rfl
  exact Na N _ _ (pr.2 k a z ea ez)
end
end L2
namespace L2
open PySem PySem.Spec PyProof.Rows PySem.W
section
variable {M:Model}{A:Around}{env:Env}{E:Value->Shared->Prop}{s:Shared}
def tJ (M:Model)(A:Around)(E:Value->Shared->Prop)(use:Option (Value->Sem Unit))(Q:Value->Shared->Prop)(acc:Value)(ce:Env)(r:Result)(s':Shared):Prop:=
 match r with
 | .ok _=>(match use with
  | none=>∃m,s'.heap.Ns ce.locals m/\∀h',Heap.SameBut ce.locals s'.heap h'->Q acc { s' with heap:=h' }
  | some u=>wpAny M A (u acc) (λ_ t=>∃m,t.heap.Ns ce.locals m/\∀h',Heap.SameBut ce.locals t.heap h'->Q .none { t with heap:=h' }) E s')
 | .error x=>∃m,s'.heap.Ns ce.locals m/\∀h',Heap.SameBut ce.locals s'.heap h'->wpAny M A (passOn "comprehension.variables-let-go" x ce:Sem Value) (λ_ _=>False) E { s' with heap:=h' }
def tH {cl:List (Str×Addr)} 
  (w:clausesOf e=g::gs)(K:∀x,foldedSetIterable g.iter env x=pure x)(i:closureFor scope env=pure cl)(a:scope.kind=.function)(c:∀x∈scope.names,x.2=.local->scope.names.lookup x.1=some .local)
  (h:wpAny M A first (λx C=>wpAny M A (pyIter x) (λD s2=>wpAny M A newAcc (λd s3=>wpAny M A (newFunctionEnv scope env.globals cl [] env.qual none .none (some env)) (λn B=>codeAny M A (.compStart e 0 D d { n with scope:=relabel scope env }) (tJ M A E use Q d n) B) E s3) E s2) E C) E s) :
  (wpAny M A (comprehension e scope env pos newAcc false first use) Q E s):=by
 unfold comprehension
 rw[i,w]
 refine Ab (thn h λx C F=>Ab (wpAny_standAt (Ab (Gk (K x) (Ab (B9 (thn F λD s2 H=>wpAny_standIf (Ab (thn H λd s3 I=>Ab (Ae (Ab (thn I λn B G=>?_))))))))))))
 have p:∀x∈(scope.names.filter λx=>(x.2 == .local || x.2 == .cell) && x.1 != (".0" : Str)).reverse,x.2=.local->Env.kindOf { n with scope:=relabel scope env } x.1=some .local:=λx v o=>lookup_relabel_local (c x (Hm.mp (List.mem_reverse.mp v)).1 o)
 refine B9 (Ab (EG (B9 (wpAny_run (FJ G λr s' j=>?_)))))
 cases r with
 | ok f=>
  cases use with
  | none=>obtain⟨m,l,j⟩:=j;exact Ab (B9 (wpAny_comp_letGo a _ s' m p l λh' _ _ q=>Ae (j h' q)))
  | some u=>
   refine Ab (Ee (Ab (B9 (thn j λ_ t b=>?_))));obtain⟨m,l,b⟩:=b
   exact Ab (wpAny_comp_letGo a _ t m (λx v o=>by
    rcases(Br.mp v)with z | z
    ·exact p x (S4 z) o
    exact p x (mem_of_mem_take z) o) l λh' _ _ q=>Ae (b h' q))
 | error x=>obtain⟨m,l,b⟩:=j;exact Ab (B9 (wpAny_comp_letGo a _ s' m p l λh' _ _ q=>CD (b h' q) (λ_ _ f=>f.elim) λ_ _ y=>y))
def Zb (R:Heap.HeldW base l e cls a0 L s.heap)
  (h:∀g,Heap.HeldW base l e cls a0 L g->s.heap.UpToSlots g->Q () { s with heap:=g }):wpAny M A (setFlight (.ref e) (some L)) Q E s:=by
 (obtain⟨u,w,D,F,vs,T,H,ts,x,m,C,B,r,p,v,i,G⟩:=R)
 have y:=(O0.mp G).1
 have a:∀b,b≠T->(s.heap.update T (Obj.mapFields (·.setIfInBounds 3 ((some L).elim Value.none λf=>rawInt f)))).get? b=s.heap.get? b:=λb c=>JF _ _ λz=>c z.symm
 have n:∀b o,s.heap.get? b=some o->(∀vs,o.data≠.fields vs)->b≠T:=λb o c d q=>by rw[q,v]at c;injection c with c;subst c;exact d ts i
 (refine Ab (Cw x C B ?_))
 rw[As Θ]
 refine Mh v i y (h _ ⟨λb o j=>(a b λq=>by rw[q,r]at j;cases j).trans (u b o j),w,D.of_keeps λb o c d=>⟨o,(a b (n b o c d)).trans c,U⟩,?_⟩ λb o c d=>⟨o.slots,(a b (n b o c d)).trans c⟩)
 exact⟨F,vs,T,_,_,(a e λz=>p z.symm).trans x,m,C,B,r,p,E5 _ v (S9 (JD i _)),JD i _,by simp[y]⟩
def XM {c:Type}{base:Heap}{l:List Env}{e L:Addr}{cls b:Value}{a:String}{Q:c->Shared->Prop}(i:env.frame=some L)(R:Heap.HeldW base l e cls b L s.heap)
  (h:∀h',Heap.HeldW base l e cls b L h'->s.heap.UpToSlots h'->E (.ref e) { s with heap:=h' }):wpAny M A (passOn a (.ref e) env:Sem c) Q E s:=by
 have g:=R
 obtain⟨_,_,_,m,vs,T,_,_,d,_,j,f,_⟩:=g
 (refine Ab (Cw d j f ?_))
 rw[Ag Θ,i]
 exact Ab (Zb R λh' r u=>L8 (h h' r u))
def nW (f:env.frame=some L)(b:Heap.HeldW base (env::dh) e cls a0 L s.heap)
  (c:∀g,Heap.FlyingW base dh e cls a0 g->s.heap.UpToSlots g->Q () { s with heap:=g }):wpAny M A (leaving env (.ref e)) Q E s:=by
 refine Ab (wpAny_noteFrame_againW f b.2.2.2 (wpAny_landsW b λh' a u=>?_))
 (obtain⟨k1,k2,⟨_,_,k3⟩,d⟩:=a)
 exact c h' ⟨k1,k2,k3,d⟩ u
end
theorem Wg {h h' base:Heap}:∀{l:List Env},(∀b∈BL l,h'.get? b=h.get? b)->h.FunFrames base l->h'.FunFrames base l
 | [],_,_=>trivial
 | env::r,k,⟨hk,⟨L,o,hf,hn,ho,hd⟩,hr⟩=>by
  have e:BL (env::r)=L::BL r:=by unfold BL;rw[FO,hf]
  rw[e]at k;exact⟨hk,⟨L,o,hf,hn,(k L Bb).trans ho,hd⟩,Wg (λb a=>k b (Bc _ a)) hr⟩
def rC (I:Inv X dg σ H s)(L:X.ex=[])(y:X.stack=env::dh)(A:X.dh=dh)(P:env.frame=some X.env.locals)
  (F:JT X.prog X.w X.stack H s a H' B s')(hD:H' D=none)(E:X.s₀.heap.objs.size<=D){t:Addr}(j:Heap.FlyingW (hideAll B [D]) dh a (.ref C) (.ref t) h')
  (G:∀b o,b≠D->s'.heap.get? b=some o->(∀vs,o.data≠.fields vs)->∃r,h'.get? b=some { o with slots:=r }):JT X.prog X.w dh X.H₀ X.s₀ a H' (hideAll B [D]) { s' with heap:=h' }:=by
 subst A
 have m:∀b,b∈X.fs->b∈BL X.stack:=λb d=>by rw[y];unfold BL;rw[FO,P];exact Bc _ d
 have g:∀b o,X.s₀.heap.get? b=some o->b≠X.env.locals/\b≠D:=λb o e=>⟨λz=>absurd (Cp (z ▸ AH e) I.ok.above) (CM _),λz=>absurd (Cp (z ▸ AH e) E) (CM _)⟩
 have f:∀b:Addr,b∉X.ex:=λb z=>by rw[L]at z;cases z
 have i:∀b o,X.s₀.heap.get? b=some o->b∉X.fs->b∉BL X.stack:=λb o e d z=>by
  rw[y]at z;unfold BL at z;rw[FO,P]at z;rcases(Ar.mp z)with q | q
  ·exact(g b o e).1 q
  exact d q
 have h:∀b o,b≠D->B.get? b=some o->(hideAll B [D]).get? b=some o:=λb o n e=>Mb _ e λz=>by
  rcases(Ar.mp z)with q | q
  ·exact n q
  cases q
 have k1:=λb o e n d=>h b o (g b o e).2 (F.k1 b o (I.base.keep b o e n d (f b)) (I.base.free b o e n (f b)) (i b o e d))
 have k2:=λc v l q=>h c v ((λc l z=>l (by rw[z];exact hD)) c l) (F.k2 c v l q)
 have p:∀b o,X.s₀.heap.get? b=some o->X.H₀ b=none->b∈X.fs->∃r,h'.get? b=some { o with slots:=r }:=λb o e n d=>by obtain⟨r,e1⟩:=I.base.slot b o e n d (f b);obtain⟨S,e2⟩:=F.un.slot b _ e1 (I.base.free b o e n (f b)) (m b d) Θ;obtain⟨_,o',x,hd⟩:=F.funs.mem (m b d);rw[e2]at x;cases x;exact(G b _ (g b o e).2 e2 hd).imp λ_ z=>z
 have k3:∀b o,X.s₀.heap.get? b=some o->b∉X.fs->∃o',(hideAll B [D]).get? b=some o':=λb o e d=>by obtain⟨T,e1⟩:=I.base.there b o e (f b);obtain⟨w,e2⟩:=F.k3 b T e1 (i b o e d);exact⟨w,h b w (g b o e).2 e2⟩
 refine⟨F.os.trans I.os,F.bare,⟨λb o e n d _=>j.1 b o (k1 b o e n d),λb o e n d _=>p b o e n d,λb o e n _=>?_,λb o e _=>?_,λb xs q=>F.un.tups b xs (I.base.tups b xs q),λb o u q=>F.un.frzs b o u (I.base.frzs b o u q),λb ps q=>?_⟩,
  λb u e=>(F.hok b u e).stay (λc v l q=>j.1 c v (k2 c v (by
   rcases l with z | z
   ·rw[z,e];intro z;cases z
   rw[z];intro z;cases z) q)) (λ_ q=>q) λ_ _ q=>q,j.2.2.1,F.new,?_,k1,λc v l q=>?_,k3⟩
 ·obtain⟨r,e1⟩:=I.base.any e n (f b);exact F.un.free b _ e1 (I.base.free b o e n (f b)) Θ
 ·by_cases d:b∈X.fs
  ·obtain⟨r,q⟩:=p b o e (I.ok.frf b d) d;exact⟨_,q⟩
  obtain⟨w,e2⟩:=k3 b o e d;exact⟨w,j.1 b w e2⟩
 ·obtain⟨W,q1⟩:=I.base.tbls b ps q;obtain⟨m2,q2⟩:=F.un.tbls b _ q1;exact⟨W++m2,by rw[q2,SY]⟩
 ·cases z:X.s₀.heap.get? a with
  | none=>rfl
  | some o=>obtain⟨o',R⟩:=I.base.there a o z (f a);rw[F.fresh]at R;cases R
 cases hu:H' c with
 | none=>exact absurd hu l
 | some u=>obtain⟨N,K⟩:=(F.hok c u hu).there;have Q:=k2 c N l K;have M:=q;rw[j.1 c N Q]at M;cases M;exact Q
def tI {P:Program}{w:World}{K:W.Frag}{mg:Str->Option Value}{base:Heap}{N:List Str}{g:Str}{d:Scope}{f:Addr}{r:Value}{A:Around}{i:List Env}{l:Shared}{H0:Hp}{E:XK}{X:Cx}
  (hX:X=C9 (CXe P w) P w K mg base N g d f r A i l H0 E){j:List (Addr×Obj)}{σ:St}{H:Hp}{s s':Shared}{e:Value}{D:Addr}{m:Str->Option Value}{y u:Env}{c:Value->Shared->Prop}(I:Inv X j σ H s)(hD:s.heap.Ns D m)(fD:FpOk X j H D)
  (h:CXe P w X.stack H s E e s')(hc:y.frame=X.env.frame)(Q:u.frame=X.env.frame) :
  wpAny (model P w) X.A (noteFrame e y) (λ_ t=>∃m,t.heap.Ns D m/\∀h',Heap.SameBut D t.heap h'->wpAny (model P w) X.A (PySem.passOn "comprehension.variables-let-go" e u:Sem Value) (λ_ _=>False) X.xe { t with heap:=h' }) c s':=by
 subst hX
 obtain⟨a,C,t,H',B,rfl,F,aa,q⟩:=h
 obtain⟨f0,f1,f2,f3,f4,f5⟩:=fD
 obtain⟨G,es,ep,S,rD⟩:=hD
 have p:D∉BL (C9 (CXe P w) P w K mg base N g d f r A i l H0 E).stack:=λz=>by
  rcases Ar.mp (I.stkSub D z)with q | q
  ·exact f1 q
  exact f2 q
 have hB:=F.k1 D G S f0 p
 have L:l.heap.objs.size<=D:=by
  rcases f3 with z | z
  ·cases z
  exact z
 have a0:a≠D:=λz=>by have:=F.fresh;rw[z,S]at this;cases this
 have hn:noteFrame (.ref a) y=noteFrame (.ref a) (envOfC g d l.heap.objs.size f r):=by
  have e1:=hc;have e2:PySem.frameOf y=PySem.frameOf (envOfC g d l.heap.objs.size f r):=by unfold PySem.frameOf;rw[e1];rfl
  unfold noteFrame;rw[e1,e2];rfl
 rw[hn]
 refine wpAny_looks_onW I.ok.frames U aa λh1 hh u1=>?_
 refine⟨m,⟨G,es,ep,hh.1 D G hB,rD⟩,λh2 x=>?_⟩
 have st:(hideAll B [D]).StaysIn B:=λb o q=>of_hideAll _ q
 have M:Heap.HeldW (hideAll B [D]) (envOfC g d l.heap.objs.size f r::i) a (.ref C) (.ref t) l.heap.objs.size h2:=by
  obtain⟨g1,g2,g3,oe,vs,T,oT,ts,a1,a2,a3,a4,a5,a6,a7,a8,a9⟩:=hh;have hT:T≠D:=λz=>by rw[z,hB]at a5;cases a5
  refine⟨λb o q=>?_,fresh_of_stays st g2,Wg (λb hb=>x.2 b λz=>p (z ▸ hb)) (funFrames_base st g3),oe,vs,T,oT,ts,(x.2 a a0).trans a1,a2,a3,a4,fresh_of_stays st a5,a6,(x.2 T hT).trans a7,a8,a9⟩;by_cases z:b=D
  ·rw[z,hideAll_none [D] Bb]at q;cases q
  exact(x.2 b z).trans (g1 b o (st b o q))
 refine XM Q M λh3 R u3=>?_
 refine nW U R λh4 v u4=>?_
 refine⟨a,C,t,H',_,U,rC (s':=s') I U U U U F (F.un.free D G S f0 Θ) L v λb o n e2 hd=>?_,v,q⟩
 obtain⟨x1,e3⟩:=u1 b o e2 hd
 obtain⟨x2,e4⟩:=u3 b _ ((x.2 b n).trans e3) hd
 obtain⟨x3,e5⟩:=u4 b { o with slots:=x2 } e4 hd
 exact⟨x3,e5⟩
abbrev C0 (X:Cx)(N:List Str)(scope:Scope)(C:Addr)(s:Shared)(H:Hp)(fp:List Addr)(xe:Value->Shared->Prop):Cx:=(Do X N scope C s H fp).at' [] xe
def nY (b:Value->Shared->Prop)(C:∀e t,b e t->notedBy (model prog w) A env (λe s'=>R (.error e) s') e t)(a:Nat->Shared->Prop)
  (d:∀n s,a n s->wpAny (model prog w) A (pyNext it) (λr i=>match r with
   | none=>R (.ok .next) i
   | some v=>wpAny (model prog w) A (letOwnedTupleGo tg it v) (λ_ s2=>wpAny (model prog w) A (assign tg env v) (λ_ s3=>
     wpAny (model prog w) A (forIn ifs true λc r=>if r=true then do let ok <- isTrue c env (eval c env);pure (ForInStep.yield ok)else pure (ForInStep.yield r)) (λok g=>
      if ok=true then wpAny (model prog w) A (eval elt env) (λx p=>wpAny (model prog w) A (call (.builtin "list.append") [acc,x]) (λ_ o=>∃m,m<n/\a m o) b p) b g
      else ∃m,m<n/\a m g) b s3) b s2) b i) b s)
  (n:Nat)(h:a n s):codeAny (model prog w) A (.compLoop (.ListComp elt [⟨tg,iter,ifs,0⟩] scope pos) 0 it acc env) R s:=by
 refine codeAny_loop U a (λn s y=>?_) n h
 refine wpAny_noted (CD ?_ (λ_ _ q=>q) C)
 rw[compTurn_list]
 refine Ab (wpAny_standAt (Ab (CD (d n s y) (λr i j=>?_) λ_ _ f=>f)))
 cases r with
 | none=>exact Ae j
 | some v=>
  refine Ab (CD j (λ_ s2 z=>Ab (CD z (λ_ s3 B=>Ab (CD B (λok g l=>?_) λ_ _ f=>f)) λ_ _ f=>f)) λ_ _ f=>f);cases ok with
  | false=>exact Ae ⟨U,l⟩
  | true=>exact Ab (Ab (CD l (λx p D=>Ab (CD D (λ_ o u=>Ae (Ae ⟨U,u⟩)) λ_ _ f=>f)) λ_ _ f=>f))
def RK {X:Cx}{N:List Str}{sc scope:Scope}{own fr:List Str}{js:List Nat}{w:List (Addr×Obj)}{σ:St}{H:Hp}{s:Shared}{j:List Addr}{tg G a0:Expr}{S:List Expr}{pos:Pos}{a:It}{it:Addr}{tn:Nat->Heap->Prop}
  {g:TG}{tc:TT}{te:TE}{RR:Value->Env->Result->Shared->Prop}{E:Value->Shared->Prop}{Zf:Cx->Value->Shared->Prop}{a6:Addr->Hp->Prop}
  (L:LcOk X N sc scope own fr js)(hc:X.calm=true)(I:Inv X w σ H s)(T:El X.prog X.w X.K tg a j it tn)(st:tn 0 s.heap)(F:∀b∈j,FpOk X w H b)
  (hg:∀C s H j,PG (C0 X N scope C s H j (Zf (Do X N scope C s H j))) tg g)(hi:∀C s H j,HN (C0 X N scope C s H j (Zf (Do X N scope C s H j))) S tc)(he:∀C s H j,(Do X N scope C s H j).Ok->PE (C0 X N scope C s H j (Zf (Do X N scope C s H j))) a0 te)
  (h:∀D,H D=none->∃W:Nat->Nat->List V->Hp->Prop,(∃m,W 0 m [] (upd H D (.lst [])))/\GB a D (EE own.length js σ) g tc te (a6 D) W)
  (ac:∀D v s' H',(∃m,s'.heap.Ns v.locals m)->Inv X w σ H' s'->FpOk X w H' v.locals->a6 D H'->RR (.ref D) v (.ok .next) s')
  (af:∀D v a8 e t,s.heap.objs.size+1=v.locals->v.frame=X.env.frame->a8.frame=X.env.frame->Zf (Do X N scope (s.heap.objs.size+1) s H j) e t -> wpAny (model X.prog X.w) X.A (noteFrame e a8) (λ_ t=>RR (.ref D) v (.error e) t) (λe t=>RR (.ref D) v (.error e) t) t) :
  wpAny (model X.prog X.w) X.A (newList []) (λa1 s3=>wpAny (model X.prog X.w) X.A (newFunctionEnv scope X.env.globals (Cs X.env.cells scope.names []) [] X.env.qual none .none (some X.env)) (λK s4=>codeAny (model X.prog X.w) X.A (.compStart (.ListComp a0 [⟨tg,G,S,0⟩] scope pos) 0 (.ref it) a1 { K with scope:=relabel scope X.env }) (RR a1 K) s4) E s3) E s:=by
 have M:∀b∈j,b<s.heap.objs.size:=λb p=>by obtain⟨o,e,_⟩:=T.obj 0 _ st b p;exact AH e
 refine C3 (wpAny_newFunctionEnv L.nocell (λ_ z=>nomatch z) (λh1 n1 b1=>?_) L.kind)
 have hsz:(s.heap.push { cls:=.type "list",dict:=none,data:=.seq ([]:List Value).toArray }).objs.size=s.heap.objs.size+1:=C1 ..
 rw[hsz]at n1 b1
 rw[hsz]
 have kept:=λb o e=>b1.extBut b o (Bd (FL (AH e))) (Ax _ (Ax _ e))
 have IY:=nX (tk:=s.toks+([]:List (Str×Value)).length) L I F M n1 kept (b1.extBut _ _ (Bd (FK _)) (Ax _ (A4 _ U)))
 obtain⟨W,⟨m0,w0⟩,a5⟩:=h s.heap.objs.size (I.hok.fresh (An _))
 obtain⟨f,eZ⟩:∃f:Value->Shared->Prop,f=Zf (Do X N scope (s.heap.objs.size+1) s H j):=⟨_,U⟩
 replace hg:=hg (s.heap.objs.size+1) s H j
 replace hi:=hi (s.heap.objs.size+1) s H j
 replace he:=he (s.heap.objs.size+1) s H j IY.ok
 rw[<- eZ]at hg hi he
 have A:∀{H':Hp},(∀b∈j,H' b=none)->∀b∈j,FpOk (C0 X N scope (s.heap.objs.size+1) s H j f) [] H' b:=λhn b p=>
  ⟨hn b p,Bd (FL (M b p)),λz=>by
   rcases Ar.mp (I.stkSub b z)with q | q
   ·exact(F b p).2.1 q
   exact(F b p).2.2.1 q,.inl p,λx c e=>(F b p).2.2.2.2.1 x c (L.sub I.ok e),λ_ z=>nomatch z⟩
 have a3:tn 0 h1:=T.keep 0 _ _ st λb _ o e=>kept b o e
 have loop:∀v:Env,v.locals=s.heap.objs.size+1->v.frame=X.env.frame->∀s2:Shared,s2={ s with heap:=h1,toks:=s.toks+([]:List (Str×Value)).length } ->
   codeAny (model X.prog X.w) X.A (.compLoop (.ListComp a0 [⟨tg,G,S,0⟩] scope pos) 0 (.ref it) (.ref s.heap.objs.size) (C0 X N scope (s.heap.objs.size+1) s H j f).env) (RR (.ref s.heap.objs.size) v) s2:=by
  rintro v hl ae s2 rfl
  refine nY f (λe t hz=>?_) (λn s'=>∃i ys H',Inv (C0 X N scope (s.heap.objs.size+1) s H j f) [] (EE own.length js σ) H' s'/\tn i s'.heap/\(∀b∈j,H' b=none)/\W i n ys H') ?_ m0
   ⟨0,[],_,IY.at' f,a3,λb p=>by rw[Ao (Bd (M b p))];exact(F b p).1,w0⟩
  ·exact af _ v _ e t hl.symm ae U (eZ ▸ hz)
  rintro n s3 ⟨i,ys,H3,I3,a7,a4,w3⟩
  rcases a5 i n ys H3 w3 with⟨a2,qn⟩ | ⟨go,Nx,hN,step⟩
  ·refine thn (T.done (C0 X N scope (s.heap.objs.size+1) s H j f) U U U hc i [] s3 _ H3 _ I3 (A a4) a7 a2) λr s4 l=>?_
   obtain⟨hr,I4⟩:=l
   subst hr
   obtain⟨m,hm,_⟩:=I4.loc
   exact ac _ v s4 H3 ⟨m,hl▸hm⟩ (I.call' (ch:=j) I4.os I4.base I4.hok I4.bare λb p=>⟨(F b p).2.2.2.1,(F b p).2.1,(F b p).2.2.2.2.1,(F b p).2.2.2.2.2⟩) (hl▸I.fpOk (Dm _) I4.free) qn
  refine thn (T.item (C0 X N scope (s.heap.objs.size+1) s H j f) U U U hc i [] s3 _ H3 _ I3 (A a4) a7 go) λr s4 l=>?_
  obtain⟨u,hr,h4⟩:=l
  subst hr
  refine thn h4 λ_ s5 l=>?_
  obtain⟨x,H5,I5,r5,y5,Q,a9⟩:=l
  refine thn (hg _ s5 _ H5 x u _ (I5.pinned (A a9) (T.obj _ _ Q)) r5 (step x H5 y5)) λ_ s6 l=>?_
  obtain⟨B,H6,I6,⟨aa,ad⟩,q6⟩:=l
  have next:∀{s7:Shared}{P:Hp}{R:List V},Inv (C0 X N scope (s.heap.objs.size+1) s H j f) ([]++Kx j s5.heap) B P s7->Nx R P ->
    ∃m,m<n/\∃i ys H',Inv (C0 X N scope (s.heap.objs.size+1) s H j f) [] (EE own.length js σ) H' s7/\tn i s7.heap/\(∀b∈j,H' b=none)/\W i m ys H':=λ{s7 P R} I7 n7=>by
   obtain⟨m',hm,w7⟩:=hN R P n7
   refine⟨m',hm,i+1,R,P,I7.unpinned.weak aa.symm ad,T.keep _ _ _ Q λb p o e=>(I7.pin (b,o) (Ei _ (Ei _ (N8 p e)))).1,λb p=>?_,w7⟩
   obtain⟨o,e,d⟩:=T.obj _ _ Q b p
   exact(I7.pin (b,o) (Ei _ (Ei _ (N8 p e)))).2.1
  refine thn (hi _ s6 B H6 _ I6 q6) λok s7 l=>?_
  obtain⟨P,I7,q7⟩:=l
  cases ok with
  | false=>
   rw[Ag BI]at q7
   exact next I7 q7
  | true=>
   rw[As rfl]at q7
   rw[As rfl]
   refine thn (he _ s7 B P _ I7 q7) λy s8 l=>?_
   obtain⟨v8,H8,I8,r8,R,hz,ab,q8⟩:=l
   refine thn (mP _ s8 B H8 (.ref s.heap.objs.size) [v8] _ [y] (λ_ H9=>Nx (R++[v8]) H9) I8 U (.cons r8 .nil) ⟨_,R,v8,U,U,hz,ab,q8⟩) λ_ s9 l=>?_
   obtain⟨_,H9,I9,_,q9⟩:=l
   exact next I9 q9
 have go:=loop (newEnv scope (s.heap.objs.size+1) X.env.globals (Cs X.env.cells scope.names []) X.env.qual none Value.none (some X.env) builtinsNs) U U _ U
 exact codeAny_compStart_list go (T.self X.A 0 _ _ _ a3 go)
def oA {X:Cx}{N:List Str}{sc scope:Scope}{own fr:List Str}{js:List Nat}{d:List (Addr×Obj)}{F:St}{H:Hp}{s:Shared}{i:List Addr}{G x z:Expr}{w:List Expr}{pos:Pos}{a:It}{it:Addr}{tn:Nat->Heap->Prop}
  {g:TG}{tc:TT}{te:TE}{B:Value->Env->Result->Shared->Prop}{E:Value->Shared->Prop}{Q:XK}{u:Addr->Hp->Prop}
  (L:LcOk X N sc scope own fr js)(hc:X.calm=true)(I:Inv X d F H s)(T:El X.prog X.w X.K G a i it tn)(st:tn 0 s.heap)(y:∀b∈i,FpOk X d H b)
  (hg:∀C s H i xe,PG (C0 X N scope C s H i xe) G g)(hi:∀C s H i xe,HN (C0 X N scope C s H i xe) w tc)(he:∀C s H i xe,Em (CXe X.prog X.w) (C0 X N scope C s H i xe) Q->PE (C0 X N scope C s H i xe) z te)
  (h:∀D,H D=none->∃W:Nat->Nat->List V->Hp->Prop,(∃m,W 0 m [] (upd H D (.lst [])))/\GB a D (EE own.length js F) g tc te (u D) W)
  (K:∀D f s' H',(∃m,s'.heap.Ns f.locals m)->Inv X d F H' s'->FpOk X d H' f.locals->u D H'->B (.ref D) f (.ok .next) s')
  (S:∀D f l e j s' H',(∃m,j.heap.Ns f.locals m)->Inv X d F H' j->FpOk X d H' f.locals->CXe X.prog X.w X.stack H' j Q e s'->f.frame=X.env.frame->l.frame=X.env.frame -> wpAny (model X.prog X.w) X.A (noteFrame e l) (λ_ t=>B (.ref D) f (.error e) t) (λe t=>B (.ref D) f (.error e) t) s') :
  wpAny (model X.prog X.w) X.A (newList []) (λr s3=>wpAny (model X.prog X.w) X.A (newFunctionEnv scope X.env.globals (Cs X.env.cells scope.names []) [] X.env.qual none .none (some X.env)) (λo s4=>codeAny (model X.prog X.w) X.A (.compStart (.ListComp z [⟨G,x,w,0⟩] scope pos) 0 (.ref it) r { o with scope:=relabel scope X.env }) (B r o) s4) E s3) E s:=by
 refine RK (Zf:=λc e s'=>∃n q j,Inv c [] n q j/\CXe X.prog X.w X.stack q j Q e s') L hc I T st y (λ_ _ _ _=>hg _ _ _ _ _) (λ_ _ _ _=>hi _ _ _ _ _) (λC s H i ok=>he _ _ _ _ _ λM n q j e s' p R=>⟨n,q,j,Inv.unat ok p,R⟩) h K λD f l e t hl P v hz=>?_
 obtain⟨n,q,j,p,R⟩:=hz
 obtain⟨m,hm,_⟩:=p.loc
 exact S D f l e j t q ⟨m,hl ▸ hm⟩ (I.call' p.os p.base p.hok p.bare λb A=>⟨(y b A).2.2.2.1,(y b A).2.1,(y b A).2.2.2.2.1,(y b A).2.2.2.2.2⟩) (hl ▸ I.fpOk (Dm _) p.free) R P v
def B1 
  (L:LcOk X N sc scope own fr js)(l:X.calm=true)(u:PI X tg iter wi)
  (F:∀C s H c,PG (Do X N scope C s H c) tg g)(r:∀C s H c,HN (Do X N scope C s H c) ifs tc)(i:∀C s H c,PE (Do X N scope C s H c) elt te)
  (y:∀x,foldedSetIterable iter X.env x=pure x:=by intro _;rfl):PE X (.ListComp elt [⟨tg,iter,ifs,0⟩] scope pos) (tLc wi own.length js g tc te):=by
 intro d s M H Q I h
 rw[eval_ListComp]
 apply wpAny_comprehension_free (use:=none) U y (Sh (L.cellAt I.ok)) L.kind L.loc
 refine thn (u d s M H _ I h) λv S B=>thn B λP s2 n=>?_
 obtain⟨R,c,tn,a,W,e,G,T,st,f2,q⟩:=n
 subst e
 refine RK (Zf:=λ_ _ _=>False) L l G T st f2 F r (λC s H c _=>i C s H c) q ?_ λ_ _ _ _ _ _ _ _ z=>z.elim
 intro D C s' H' f A w j
 obtain⟨m,f⟩:=f
 obtain⟨K,f1,_,f3,f4,f5⟩:=w
 exact⟨m,f,λh' E=>⟨.ref D,H',A.turned (λb o p e=>(E.2 b p).trans e) K f1 f3 f4 f5,U,j⟩⟩
def Iy 
  (hN:X.N.Nodup)(w:X.N[i]? = some y)(r:X.env.scope.names.lookup y=some .local)
  (L:LcOk X N sc scope own fr js)(B:X.calm=true)(M:PI X tg iter wi)
  (hg:∀C s H d,PG (Do X N scope C s H d) tg g)(K:∀C s H d,HN (Do X N scope C s H d) ifs tc)(u:∀C s H d,PE (Do X N scope C s H d) elt te)
  (hw:swapsWith (.ListComp elt [⟨tg,iter,ifs,0⟩] scope pos) (some (.Name y py)) spos.line X.env=pure true:=by rfl)
  (R:∀x,foldedSetIterable iter X.env x=pure x:=by intro _;rfl):PS X (.Assign [.Name y py] (.ListComp elt [⟨tg,iter,ifs,0⟩] scope pos) spos) (Ys i wi own.length js g tc te):=by
 intro f s σ H E I h
 rw[exec_Assign_Name_used _ _ _ _ hw]
 (refine Ab (wpAny_standAt (Ab ?_)))
 refine Ab (CD (wpAny_comprehension_free U R (Sh (L.cellAt I.ok)) L.kind L.loc ?_) (λ_ s' q=>Ae (Ae q)) λ_ _ e=>e)
 refine thn (M f s σ H _ I h) λv s1 W=>thn W λa0 s2 F=>?_
 obtain⟨it,d,tn,c,H2,e,I2,T,st,f2,q⟩:=F
 subst e
 refine RK (Zf:=λ_ _ _=>False) L B I2 T st f2 hg K (λC s H d _=>u C s H d) q ?_ λ_ _ _ _ _ _ _ _ z=>z.elim
 intro D C s' H' j S P A
 obtain⟨m,j⟩:=j
 obtain⟨f0,f1,_,f3,f4,f5⟩:=P
 refine wpAny_assign_Name (Ur S hN w (.inl r) (v:=.ref D) U (λs3 Q p=>?_) (.inr r))
 obtain⟨a,sb,p⟩:=p
 have l:C.locals≠a:=by
  rcases p with z | z
  ·rw[z];exact f1
  exact λq=>f4 y a z q.symm
 refine⟨m,j.sameBut sb l,λh' n=>⟨_,H',Q.turned (λb o G e=>(n.2 b G).trans e) f0 f1 f3 f4 f5,A⟩⟩
def Vf {P:Program}{w:World}{K:W.Frag}{mg:Str->Option Value}{base:Heap}{N0:List Str}{r:Str}{G:Scope}{f:Addr}{cd:Value}{A:Around}{l:List Env}{s0:Shared}{H0:Hp}{S:XK}{X:Cx}{N:List Str}{sc c:Scope}{own fr:List Str}{js:List Nat}{y d u:Expr}{p:List Expr}{pos:Pos}{M:TI}{g:TG}{tc:TT}{te:TE}
  (R:X=C9 (CXe P w) P w K mg base N0 r G f cd A l s0 H0 S)(L:LcOk X N sc c own fr js)(hc:X.calm=true)(hI:PI X y d M)
  (hg:∀C s H j xe,PG (C0 X N c C s H j xe) y g)(hi:∀C s H j xe,HN (C0 X N c C s H j xe) p tc)(he:∀C s H j xe,Em (CXe P w) (C0 X N c C s H j xe) S->PE (C0 X N c C s H j xe) u te)
  (hs:∀x,foldedSetIterable d X.env x=pure x:=by intro _;rfl):PE X (.ListComp u [⟨y,d,p,0⟩] c pos) (tLc M own.length js g tc te):=by
 intro n s σ H Q I h
 rw[eval_ListComp]
 apply tH (use:=none) U hs (Sh (L.cellAt I.ok)) L.kind L.loc
 refine thn (hI n s σ H _ I h) λv s1 B=>thn B λa0 s2 E=>?_
 obtain⟨it,j,tn,a,H2,e,I2,T,st,f2,q⟩:=E
 subst e
 refine oA L hc I2 T st f2 hg hi (by subst R;exact he) q ?_ λD ce a1 e s1 s' H' i z F hx B E=>?_
 ·intro D C s' H' i z F q';obtain⟨m,i⟩:=i;obtain⟨f0,f1,_,f3,f4,f5⟩:=F;exact⟨m,i,λh' sb=>⟨.ref D,H',z.turned (λb o hb e=>(sb.2 b hb).trans e) f0 f1 f3 f4 f5,U,q'⟩⟩
 subst R
 obtain⟨m,i⟩:=i
 exact tI U z i F hx E B
end L2
namespace L2
open PySem PyProof.Rows
section
variable {X:Cx}
def mL:Ff X "dict.items" (λx xs H Q=>∃a kvs,x=.ref a/\xs=[]/\Rd H a (.dK kvs)/\∀v,H v=none->Q (.ref v) (upd H v (BO v a))):=by rintro d s u H x xs v us Q I l h⟨a,kvs,rfl,rfl,j,q⟩;cases l;cases h;obtain⟨hz,i,vs,g,c⟩:=Fz I.hok j;refine Gn JH c.typeIs To (Tr _) (meets_dict_items (B2 X.prog X.w) a i) ⟨⟨vs,c⟩,.ref s.heap.objs.size,_,I.laid (t':=s.toks) (o:=BO s.heap.objs.size a) (λb o e=>Ax _ e) (An _) ⟨⟨_,A4 _ U,U,U⟩,⟨_,A4 _ U⟩,λn p f e=>?_⟩,U,q _ (I.hok.fresh (An _))⟩;obtain⟨o,m,r⟩:=f;exact⟨o,e o m,r⟩
def Yz (to:TE):TE:=λσ H Q=>to σ H λx H1=>∃a kvs,x=.ref a/\Rd H1 a (.dK kvs)/\∀v,H1 v=none->Q (.ref v) (upd H1 v (BO v a))
def Rt (r:PE X o to)(d:attributeBase o "items" X.env (eval o X.env)=eval o X.env:=by rfl)(c:(apos.endLine == cpos.line)=true:=by rfl):PE X (.Call (.Attribute o "items" apos) [] [] cpos) (Yz to):=by intro b s g H Q I h;refine Ti d c (thn (r b s g H _ I h) λv n f=>?_);obtain⟨x,l,i,p,a,kvs,e,rd,q⟩:=f;subst e;cases p;obtain⟨j,m,_⟩:=RX i (.inl ⟨_,rd⟩);exact⟨"dict", "dict.items",Jn,JH,Th,j,m,JG U (S2 (mL b n g l (.ref a) [] _ [] Q i U .nil ⟨a,kvs,U,U,rd,q⟩))⟩
def qA (tl:TE):TI:=λσ H R=>tl σ H λx H1=>∃v a kvs,x=.ref v/\H1 v=some (BO v a)/\((H1 a=some (.dK kvs)/\∀o,R (JQ a o kvs) (upd H1 a (.frz o (.dK kvs))))\/∃o,H1 a=some (.frz o (.dK kvs))/\R (JQ a o kvs) H1)
def Rn {x1} (E:PE X l tl):PI X (.Tuple elts x1 tp) l (qA tl):=by
 intro p s L H R I h;refine thn (E p s L H _ I h) ?_;rintro u i⟨x,B,c,F,K⟩;obtain⟨v,a,kvs,rfl,G,q⟩:=K;cases F;obtain⟨d,_,_⟩:=c.hok v _ G;rcases q with⟨j,q⟩ | ⟨C,j,q⟩
 ·obtain⟨hz,D,vs,f,o,m,ep,g,ex,w,r⟩:=Gc c.hok j;have A:i.heap.DictAt (B2 X.prog X.w) a vs ep:=⟨o,m,g,ex,w,r⟩;have y:=f.length;refine wpAny_pyIter_items d A ⟨i.heap.objs.size,[i.heap.objs.size],_,_,upd B a (.frz o (.dK kvs)),U,(c.freeze j g).kept (λb o e=>Ax _ e),T8 _ a o kvs m ep w,⟨.none,.none,?_⟩,λb z=>?_,q o⟩
  ·rw[y];exact A4 _ U
  have e:b=i.heap.objs.size:=by simpa using z
  subst e;exact(c.freeze j g).fpOk (An _) ((c.freeze j g).hok.fresh (An _))
 obtain⟨g,hz,D,vs,f,M,m,ep,n,ex,w,r⟩:=c.hok a _ j;rw[g]at n;cases n;refine wpAny_pyIter_items d ⟨C,m,g,ex,w,r⟩ ⟨i.heap.objs.size,[i.heap.objs.size],_,_,B,U,c.kept (λb o e=>Ax _ e),T8 _ a C kvs m ep w,⟨.none,.none,?_⟩,λb z=>?_,q⟩
 ·rw[f.length];exact A4 _ U
 have e:b=i.heap.objs.size:=by simpa using z
 subst e;exact c.fpOk (An _) (c.hok.fresh (An _))
end
end L2
namespace L2
open PySem PySem.Spec PyProof.Rows PySem.W
section
variable {X:Cx}
def aK:V->Option Int->Option Int->Hp->VK->Prop:=λx lo hi H Q=>∃z,x=.str z/\z.length<=sizeLine/\Q (.str (Txt.slice z lo hi)) H
def IsPart.ex (p:IsPart v o):∃q:Option (Int×Tok),v=partValue q/\q.map (·.1)=o:=by
 cases p with
 | none=>exact⟨none,U,U⟩
 | int i t=>exact⟨some (i,t),U,U⟩
def Uy:JL X aK:=by rintro a s i H x v m h lo j n Q I f g e c⟨z,rfl,hz,q⟩;obtain⟨t,rfl⟩:=f;obtain⟨d,rfl,rfl⟩:=IsPart.ex e;obtain⟨b,rfl,rfl⟩:=IsPart.ex c;exact⟨"str",_,F.slot_str_getitem.lookup,Js _ _ _,wpAny_getItem_str_slice (l:=d) (u:=b) (st:=none) g U (post_val_or_str ⟨Ed (Txt.slice_le z _ _) hz,λt' k=>⟨.str _,H,I.tok _,⟨_,U⟩,q⟩⟩)⟩
end
end L2
namespace DPT
open PySem PyProof.Rows
end DPT
namespace L2
open PySem PySem.Spec PyProof.Rows PySem.W
section
variable {X:Cx}
def tR:Ce X (.type "tuple") (λxs H Q=>∃p ys,xs=[.ref p]/\Y X.K H p ys/\∀l o,H l=none->o.dict=none->Q (.ref l) (upd H l (.frz o (.tup ys)))):=by
 rintro c s v H xs us Q I r⟨p,ys,rfl,i,q⟩;obtain⟨u,rfl,m⟩:=Cm r;cases m;obtain⟨a,g,j,hz⟩:=I.list i;have d:=g.length;refine call_tuple_list j.isList (λh' n=>?_) (by simp[Bx] <;> lia);have f:=I.kept (t':=s.toks) n
 have h:Inv X c v (upd H h'.objs.size (.frz { cls:=.type "tuple",data:=.seq a.toArray } (.tup ys))) { s with heap:=h'.push { cls:=.type "tuple",data:=.seq a.toArray } }:=
  f.laid (t':=s.toks) (λb o e=>Ax _ e) (An _) (⟨A4 _ U,hz,a,g,IsTup.new _ _⟩)
 exact⟨.ref h'.objs.size,_,h,U,q _ _ (f.hok.fresh (An _)) U⟩
end
end L2
namespace RV
open PySem PyProof.Rows
end RV
namespace L2
open PySem PySem.Spec PyProof.Rows PySem.W
end L2
namespace DR
open PySem PyProof.Rows
section
variable {prog:Program}{w:World}{A:Around}{E:Value->Shared->Prop}{s:Shared}
def RawAt (h:Heap)(d:Addr)(es:Array DictEntry)(ep:Nat):Prop:=∃o,h.get? d=some o/\o.ExactDict/\o.data=.dict es ep
def RawAt.typeIs (x:RawAt s.heap d es ep):s.TypeIs (.ref d) "dict" := let ⟨o,ho,hc,_⟩:=x;⟨o,ho,hc.1⟩
def RawAt.lt (x:RawAt h d es ep):d<h.objs.size:=let ⟨_,ho,_⟩:=x;AH ho
def RawAt.at (x:RawAt h d es ep)(k:∀o,h.get? d=some o->h'.get? d=some o):RawAt h' d es ep:=let ⟨o,ho,r⟩:=x;⟨o,k o ho,r⟩
def iter_raw (f:(d == sysModules)=false)(c:RawAt s.heap d es ep)
  (g:Q (.ref s.heap.objs.size) { s with heap:=s.heap.push { cls:=.type "dict_keyiterator",data:=.fields #[.ref d,.int 0 0,.int es.size 0,.int ep 0] } }):wpAny (model prog w) A (pyIter (.ref d)) Q E s:=by
 obtain⟨o,e,h,a⟩:=id c
 have b:= c.typeIs
 (refine JA b F.slot_dict_iter (Ct F.slot_dict_iter b F.entry_dict_iter ?_ (F.args_dict_iter_1 _)))
 (unfold Builtin.«dict.__iter__»)
 apply Ab
 (unfold Builtin.Dict.dictSlotNone)
 (refine Ab (S8 b ?_))
 (show wpAny _ _ (pure (Value.ref d)) _ _ s)
 apply Ae
 (show wpAny _ _ (Builtin.Dict.showsAll d >>= _) _ _ s)
 unfold Builtin.Dict.showsAll
 (rw[Ag (f▸BI)])
 refine Ab (Ae ?_)
 (refine Ab (Hz e a ?_))
 (refine Ab (Jw e a ?_))
 (refine Ab (C3 (Ae ⟨_,U, "dict_keyiterator",_,⟨_,A4 _ U,U⟩,L3.lookup,?_⟩)))
 simpa [rawInt] using g
def next_raw (a:s.heap.IsKeyIter it d i es.size ep)(n:RawAt s.heap d es ep)(f:i<es.size)
  (p:∀h',h'.IsKeyIter it d (i+1) es.size ep->Heap.SameBut it s.heap h'->Q (some es[i].key) { s with heap:=h' }):wpAny (model prog w) A (pyNext (.ref it)) Q E s:=by
 (obtain⟨o,j,m,h⟩:=id a)
 obtain⟨q,c,l,e⟩:=id n
 refine Ab (EG (Eb a.typeIs L3 (Ct L3 a.typeIs F.entry_dict_keyiterator_next ?_ (F.args_dict_keyiterator_next_1 _))))
 refine Ab (Ae ?_)
 apply Ab
 apply Ab
 (first | refine Ab (O2 a.typeIs (Ae ?_)) | refine Ab (OY a.typeIs (Ae ?_)))
 (refine Ab (Jv j h ?_))
 (have g:Builtin.Dict_items.ownsTuple "dict_keyiterator" = false:=by decide)
 (simp only[g,DZ,De])
 (show wpAny _ _ (if (Value.ref d == Value.none)=true then _ else _) _ _ s)
 (rw[Ag (show ¬((Value.ref d == Value.none)=true) from BI)])
 refine Ab (Ae ?_)
 (refine Ab (Hz c e ?_))
 rw[Ag Θ]
 refine Ab (Ae ?_)
 (refine Ab (Jw c e ?_))
 rw[Ag Θ]
 apply Ae
 (simp[show ¬((i:Int)<0) from by lia,De,CO,DM f])
 apply Ab
 (first | refine Ab (O2 a.typeIs (Ae ?_)) | refine Ab (OY a.typeIs (Ae ?_)))
 (refine Ab (wpAny_isOneOf_keyiter a.typeIs ?_))
 (show wpAny _ _ (setField (.ref it) 1 (rawInt ((i:Int)+1)) >>= _) _ _ s)
 (refine Ab (Mh j h Θ ?_))
 have b:(s.heap.update it (Obj.mapFields (·.setIfInBounds 1 (rawInt ((i:Int)+1))))).IsKeyIter it d (i+1) es.size ep:=
  ⟨_,E5 _ j (S9 (JD h _)),(Obj.cls_mapFields ..).trans m,by rw[JD h];simp[rawInt]⟩
 (refine Ab (B9 ?_))
 (refine Ab (wpAny_isOneOf_keyiter b.typeIs ?_))
 (show wpAny _ _ (pure es[i].key) _ _ _)
 exact Ae (Ae ⟨_,U,Ae (p _ b (FC ..))⟩)
def end_raw (m:A.handled=none)(a:s.heap.IsKeyIter it d i es.size ep)(p:RawAt s.heap d es ep)(g:es.size<=i)
  (n:∀h',Heap.ExtBut it s.heap h'->Q none { s with heap:=h' }):wpAny (model prog w) A (pyNext (.ref it)) Q E s:=by
 (obtain⟨o,j,r,h⟩:=id a)
 obtain⟨q,c,l,e⟩:=id p
 refine Ab (EG (Eb a.typeIs L3 (Ct L3 a.typeIs F.entry_dict_keyiterator_next ?_ (F.args_dict_keyiterator_next_1 _))))
 refine Ab (Ae ?_)
 apply Ab
 apply Ab
 (first | refine Ab (O2 a.typeIs (Ae ?_)) | refine Ab (OY a.typeIs (Ae ?_)))
 (refine Ab (Jv j h ?_))
 (have f:Builtin.Dict_items.ownsTuple "dict_keyiterator" = false:=by decide)
 (simp only[f,DZ,De])
 (show wpAny _ _ (if (Value.ref d == Value.none)=true then _ else _) _ _ s)
 (rw[Ag (show ¬((Value.ref d == Value.none)=true) from BI)])
 refine Ab (Ae ?_)
 (refine Ab (Hz c e ?_))
 rw[Ag Θ]
 refine Ab (Ae ?_)
 (refine Ab (Jw c e ?_))
 rw[Ag Θ]
 apply Ae
 (simp[show ¬((i:Int)<0) from by lia,De,CO,Hh g])
 apply Ab
 (first | refine Ab (O2 a.typeIs (Ae ?_)) | refine Ab (OY a.typeIs (Ae ?_)))
 (show wpAny _ _ (setField (.ref it) 0 .none >>= _) _ _ s)
 (refine Ab (Mh j h Θ ?_))
 (show wpAny _ _ (newExc (.type "StopIteration") [] >>= _) _ _ _)
 apply Ab
 simp[newExc,newTuple]
 (refine Ab (C3 ?_ (by size_fits)))
 (refine Ab (Gk (by first | rfl | (simp[firstArgMember];rfl)) ?_))
 (refine C3 ?_ (by size_fits))
 simp only[raiseNew]
 (refine Ab (OE ?_))
 (rw[show A.in1.handled=none from m])
 (refine Ab (Ae (L8 ?_)))
 (refine Ab (Gv (T := "StopIteration") (b:=true) ⟨_,A4 _ U,U⟩ Mg ?_))
 (exact Ae (n _ (((FC ..).extBut.push _).push _)))
theorem XS (q:A.handled=none)(I d:Addr)(m:d≠I)(f:Array DictEntry)(ep:Nat) :
  Walks prog w A I [I,d] [I] f.size (λi v=>∃e,f[i]? = some e/\v=e.key) (λi h=>h.IsKeyIter I d i f.size ep/\RawAt h d f ep) where
 sub:=λb a=>by simp at a;simp[a]
 frame:=λ_ _ _ st n=>⟨st.1.at λo e=>n I Θ o e,st.2.at λo e=>n d Θ o e⟩
 item:=λi s Q E p st g=>by refine next_raw st.1 st.2 p λh' j c=>?_;exact g _ h' s.toks ⟨f[i],DM p,U⟩ ⟨j,st.2.at λo e=>c.extBut d o m e⟩ λb o a e=>c.extBut b o (λh=>a (by simp[h])) e
 done:=λs Q E st g=>end_raw q st.1 st.2 (An _) λh' l=>g h' s.toks λb o a e=>l b o (λh=>a (by simp[h])) e
 self:=λ_ _ _ _ st g=>wpAny_pyIter_keyiter st.1 g
theorem src_raw (lo:(d == sysModules)=false):PySem.W.KdlSrc prog w "dict" d d es.size (λi v=>∃e,es[i]? = some e/\v=e.key) (λh=>RawAt h d es ep) where
 type:=λ_ a=>a.typeIs
 there:=λ_ a=>⟨a.lt,a.lt⟩
 keep:=λ_ _ a f=>a.at λo e=>f d (.inl U) o e
 notList:=by decide
 notTuple:=by decide
 hint:=λ_ _ _ _ a b=>PySem.W.kdl_hint_dict a.typeIs b
 iter:=λ_ _ c a=>⟨_,_,(λ_ _ b=>iter_raw lo a b),XS c _ d (Bd a.lt) es ep,⟨⟨_,A4 _ U,U,U⟩,a.at λo e=>Ax _ e⟩⟩
def mV (c:(d == sysModules)=false):MeetsIn prog w (Builtin.«dict.__len__» ⟨[.ref d],[]⟩) (λ_ R s=>∃b ep,RawAt s.heap d b ep/\R (.ok (.ret (.int b.size s.toks))) { s with toks:=s.toks+1 }):=
 .of_wp λA R s ⟨b,ep,e,h⟩=>by obtain⟨o,f,g,a⟩:=e;(show wpAny _ _ (dictSize d >>= _) _ _ s);(refine Ab (Ab (Hz f a (Ae ?_))));(show wpAny _ _ (Builtin.Dict.pendingCount d >>= _) _ _ s);(refine Ab (wpAny_pendingCount_other c ?_));apply wpAny_ret_mkInt;rw[Nat.add_zero];exact h
def len_raw (c:(d == sysModules)=false)(a:RawAt s.heap d es ep)(b:(es.size:Int)<2^63)
  (h:Q (.int es.size (s.toks+1)) { s with toks:=s.toks+1+1 }):wpAny (model prog w) A (call (.builtin "len") [.ref d]) Q E s:=by
 (apply Ts kind_len plain_len entry_len (args_len1 _))
 (refine Ab (Ae ?_))
 refine Ab (Eb a.typeIs F.slot_dict_len (Gn F.slot_dict_len a.typeIs F.entry_dict_len (F.args_dict_len_1 _) (mV c) ⟨es,ep,a,?_⟩))
 (show wpAny _ _ _ _ _ { s with toks:=s.toks+1 })
 (refine Ab (B9 (Ae ?_)))
 refine Ab (L7 ?_)
 (show wpAny _ _ (if ((es.size:Nat):Int)<0 then _ else _) _ _ _)
 rw[Ag Ψ]
 (show wpAny _ _ (if ((es.size:Nat):Int)≥2^63 then _ else _) _ _ _)
 rw[Ag Ψ]
 (exact Ab (wpAny_mkInt (Ae ⟨_,U,h⟩)))
end
end DR
namespace L2
open PySem PySem.Spec PyProof.Rows
section
variable {X:Cx}
theorem KT.getT :∀{kvs:List (PyData×V)}{xs:List (PyData×Addr×Value)}{i:Nat}{k:PyData}{v:V},KT H kvs xs->kvs[i]? = some (k,v)->∃b u,xs[i]? = some (k,b,u)/\RdT H b k/\RelV v u
 | _,_,_,_,_,.nil,e=>by simp at e
 | _,_,0,k,v,.cons (b:=q) r _,e=>by obtain⟨a,c,r3⟩:=r;obtain⟨j,h,g⟩:=q;simp at e;subst e;simp only at a;subst a;exact⟨h,g,U,c,r3⟩
 | _,_,i+1,_,_,.cons _ t,e=>by obtain⟨b,u,d,f⟩:=KT.getT t (by simpa using e);exact⟨b,u,by simpa using d,f⟩
def F0 (x:ObjOk P w H h a (.dT kvs)):kvs.length<=sizeLine/\(a == sysModules)=false/\∃xs o b ep,KT H kvs xs/\h.get? a=some o/\o.ExactDict/\o.data=.dict b ep/\b.toList=xs.map (entryOfKey (WK.dataKind P w))/\b.size=kvs.length:=by obtain⟨z,y,xs,r,o,b,ep,d,e,f,c,g⟩:=x;refine⟨z,y,xs,o,b,ep,r,d,e,f,c,?_⟩;rw[size_of_entries c,<- Gp r]
def RP {P:Program}{w:World}{a:Array DictEntry}{xs:List (PyData×Addr×Value)}{i:Nat}{k:PyData}{b:Addr}{u:Value}(h:a.toList=xs.map (entryOfKey (WK.dataKind P w)))(c:xs[i]? = some (k,b,u)):∃e,a[i]? = some e/\e.key=.ref b/\e.val=u:=by refine⟨_,by rw[entry_at h,c];rfl,U,U⟩
structure Xy (H:Hp)(as:List Addr)(kvs:List (PyData×V)):Prop where
 len:as.length=kvs.length
 at':∀(i:Nat) a k v,as[i]? = some a->kvs[i]? = some (k,v)->RdT H a k
def KT.ky (r:KT H kvs xs):Xy H (xs.map λx=>x.2.1) kvs:=by refine⟨by rw[Ah];exact(Gp r).symm,λi a k v c d=>?_⟩;obtain⟨b,u,e,t,_⟩:=KT.getT r d;rw[AU,e]at c;cases c;exact t
def tY (n:X.calm=true):Ce X (.type "list") (λxs H Q=>∃p kvs,xs=[.ref p]/\Rd H p (.dT kvs)/\∀l g,H l=none->Xy H g kvs->Q (.ref l) (upd H l (.lst (g.map V.ref)))):=by
 rintro h s P H xs us Q I r⟨p,kvs,rfl,L,q⟩;obtain⟨u,rfl,E⟩:=Cm r;cases E;obtain⟨hz,w,ys,o,M,ep,j,D,ex,K,m,C⟩:=F0 (L.ok I.hok);refine PySem.W.kdl_call (DR.src_raw w) (I.ok.hd n) ⟨o,D,ex,K⟩ Ψ λh' tk d c G B a=>?_;have A:=Gp j;refine⟨.ref _,_,I.laid (o:=.lst ((ys.map λx=>x.2.1).map V.ref)) G (An _) ⟨by rw[Ah,Ah];lia,d.toList,c,Pl ?_ λi x u f z=>?_,B⟩,U,q _ _ (I.hok.fresh (An _)) j.ky⟩
 ·have F:d.toList.length=d.size:=by simp
  rw[Ah,Ah,F,a.1,C,A]
 obtain⟨e,e1,e2⟩:=a.2 i u (by simpa using z);rw[AU,AU]at f;cases hy:ys[i]? with
 | none=>rw[hy]at f;cases f
 | some y=>obtain⟨k,b,v⟩:=y;rw[hy]at f;cases f;obtain⟨N,f1,f2,_⟩:=RP m hy;rw[e1]at f1;cases f1;rw[e2,f2];rfl
def Ov:Ce X (.builtin "len") (λxs H Q=>∃a kvs,xs=[V.ref a]/\Rd H a (.dT kvs)/\Q (.int kvs.length) H):=by rintro b s m H xs us Q I r⟨a,kvs,rfl,d,q⟩;obtain⟨u,rfl,h⟩:=Cm r;cases h;obtain⟨hz,c,ys,o,l,ep,j,f,ex,e,i,g⟩:=F0 (d.ok I.hok);refine DR.len_raw c ⟨o,f,ex,e⟩ (by rw[AB]at hz;lia) ?_;rw[g];exact⟨.int kvs.length,H,I.tok _,⟨_,U⟩,q⟩
def Inv.freezeT (I:Inv X dg σ H s)(g:H a=some (.dT kvs))(j:s.heap.get? a=some o):Inv X dg σ (upd H a (.frz o (.dT kvs))) s:=by
 have h:∀b,H b=none->b≠a:=λb e z=>by rw[z,g]at e;cases e
 have keep:∀b u,H b=some u->u≠.dT kvs->upd H a (.frz o (.dT kvs)) b=some u:=λb u e d=>by rw[Ao (Ba e g d)];exact e
 have st:Inv X dg σ (upd H a (.frz o (.dT kvs))) { s with heap:=s.heap,gens:=s.gens,drawn:=s.drawn,toks:=s.toks }:=by
  refine I.step (ch:=[]) (λb f=>nomatch f) (λb o _ _ _ e _=>e) (λb o _ _ _ e _=>⟨o.slots,e⟩) (λb o _ e n=>by rw[Ao (h b n)];exact n) (λb o _ e=>⟨o,e⟩)
   (λb xs e=>keep b _ e nofun) (λb o u e=>keep b _ e nofun) (λb ps e=>⟨#[],by rw[keep b _ e nofun];simp⟩) (λm i=>i) (λb u e=>?_) I.bare
  by_cases f:b=a
  ·subst f;rw[Af]at e;cases e;exact⟨j,(I.hok _ _ g).stay (λc v _ q=>q) (λc q=>keep c _ q nofun) λc xs q=>keep c _ q nofun⟩
  rw[Ao f]at e;exact(I.hok b u e).stay (λc v _ q=>q) (λc q=>keep c _ q nofun) λc xs q=>keep c _ q nofun
 exact st
def HQ (a:Addr)(o:Obj)(kvs:List (PyData×V)):It:=
 ⟨λi H=>i<kvs.length/\H a=some (.frz o (.dT kvs)),λi H x H'=>H'=H/\∃k v b,kvs[i]? = some (k,v)/\x=.ref b/\RdT H b k,λi H=>kvs.length<=i/\H a=some (.frz o (.dT kvs))⟩
def NQ (I:Inv X dg σ H s)(i:H a=some (.frz o (.dT kvs)))(c:o.data=.dict es ep) :
  ∃xs,KT H kvs xs/\DR.RawAt s.heap a es ep/\es.toList=xs.map (entryOfKey (WK.dataKind X.prog X.w))/\es.size=kvs.length:=by
 obtain⟨e,q⟩:=(I.hok a _ i)
 obtain⟨hz,n,ys,m,j,h,g,d,ex,b,f,l⟩:=F0 q
 rw[e]at d
 cases d
 rw[c]at b
 cases b
 exact⟨ys,g,⟨o,e,ex,c⟩,f,l⟩
theorem T6 {P:Program}{w:World}{K:W.Frag}{S:Expr}(it a:Addr)(o:Obj)(kvs:List (PyData×V))(q:Array DictEntry)(ep:Nat)(R:o.data=.dict q ep) :
  El P w K S (HQ a o kvs) [it] it (λi h=>h.IsKeyIter it a i kvs.length ep) where
 mem:=by simp
 obj:=λi h st b f=>by
  have e:b=it:=by simpa using f
  subst e;obtain⟨o,e,c,d⟩:=st;exact⟨o,e,λv z=>by rw[d]at z;cases z⟩
 keep:=λi h h' st k=>by obtain⟨o,e,r⟩:=st;exact⟨o,k it Θ o e,r⟩
 item:=by
  intro X C y x L i m s σ H E I p st A;subst C y x;obtain⟨D,f1,f2,f3,f4,f5⟩:=p it Θ;obtain⟨M,B⟩:=A;obtain⟨xs,N,j,G,n⟩:=NQ I B R;have Q:=Ay M;obtain⟨b,u,hy,T,_⟩:=KT.getT N Q;obtain⟨e0,k1,k2,_⟩:=RP G hy;rw[<- n]at st;have l:i<q.size:=by lia
  refine DR.next_raw st j l λh' g sb=>?_;obtain⟨o',e,c,d⟩:=id g;rw[n]at g;have F:RelV (V.ref b) q[i].key:=by rw[DM l]at k1;cases k1;exact k2
  exact⟨_,U,Jc e c d Ξ ⟨.ref b,H,I.turned (t':=s.toks) (λb o f e=>(sb.2 b f).trans e) D f1 f3 f4 f5,F,⟨U,_,_,b,Q,U,T⟩,g,λb f=>(p b f).1⟩⟩
 done:=by intro X C y x L i m s σ H E I p st A;subst C y x;obtain⟨D,f1,f2,f3,f4,f5⟩:=p it Θ;obtain⟨M,B⟩:=A;obtain⟨xs,N,j,G,n⟩:=NQ I B R;rw[<- n]at st;exact DR.end_raw (I.ok.hd L) st j Ψ λh' eb=>⟨U,I.turned (λb o f e=>eb b o f e) D f1 f3 f4 f5⟩
 self:=λ_ _ _ _ _ st h=>wpAny_pyIter_keyiter st h
def V2 (tl:TE):TI:=λσ H R=>tl σ H λx H1=>∃a kvs,x=.ref a/\((H1 a=some (.dT kvs)/\∀o,R (HQ a o kvs) (upd H1 a (.frz o (.dT kvs))))\/∃o,H1 a=some (.frz o (.dT kvs))/\R (HQ a o kvs) H1)
def Vc (B:PE X l tl):PI X tg l (V2 tl):=by
 intro g s G H R I h;refine thn (B g s G H _ I h) ?_;rintro u c⟨x,y,d,C,E⟩;obtain⟨a,kvs,rfl,q⟩:=E;cases C;rcases q with⟨m,q⟩ | ⟨z,m,q⟩
 ·obtain⟨hz,p,ys,o,n,ep,D,i,ex,j,A,v⟩:=F0 (d.hok a _ m);have w:=d.freezeT m i;refine DR.iter_raw p ⟨o,i,ex,j⟩ ⟨c.heap.objs.size,[c.heap.objs.size],_,_,upd y a (.frz o (.dT kvs)),U,w.kept (λb o e=>Ax _ e),T6 _ a o kvs n ep j,⟨_,A4 _ U,U,by rw[v] <;> rfl⟩,λb r=>?_,q o⟩;obtain rfl:b=c.heap.objs.size:=by simpa using r
  exact w.fpOk (An _) (w.hok.fresh (An _))
 obtain⟨i,F⟩:=(d.hok a _ m);obtain⟨hz,p,ys,o,n,ep,D,f,ex,j,A,v⟩:=F0 F;rw[i]at f;cases f;refine DR.iter_raw p ⟨z,i,ex,j⟩ ⟨c.heap.objs.size,[c.heap.objs.size],_,_,y,U,d.kept (λb o e=>Ax _ e),T6 _ a z kvs n ep j,⟨_,A4 _ U,U,by rw[v] <;> rfl⟩,λb r=>?_,q⟩;obtain rfl:b=c.heap.objs.size:=by simpa using r
 exact d.fpOk (An _) (d.hok.fresh (An _))
end
section
variable {X:Cx}
def tU:Ce X (.builtin "sorted") (λxs H Q=>∃(p:Addr) (ns:List Int),xs=[.ref p]/\Y X.K H p (ns.map V.int)/\ns.length<64/\∀(l:Addr) (c:List Int),H l=none->c.Perm ns->c.Pairwise (·<=·)->Q (.ref l) (upd H l (.lst (c.map V.int)))):=by rintro i s A H xs us Q I r⟨p,ys,rfl,w,hz,q⟩;obtain⟨u,rfl,z⟩:=Cm r;cases z;obtain⟨d,g,y,x⟩:=I.list w;have a:=g.length;rw[Ah]at a;refine sorted_ints y.isList (pR g) Ψ λb f j h n=>?_;obtain⟨e,m⟩:=sortedAll_at s.heap d b;have B:=AB;have v:=h.length_eq;refine⟨.ref _,_,I.laid (o:=.lst (f.map V.int)) (λ_ _=>sortedAll_old) (Dm _) ⟨by rw[Ah];lia,b.toList,e,Pk j,by simpa using m⟩,U,q _ _ (I.hok.fresh (Dm _)) h n⟩
end
end L2
namespace L2
open PySem PySem.Spec PyProof.Rows PySem.W Builtin Builtin.ObjectAttr
section
variable {prog:Program}{w:World}{A:Around}{E:Value->Shared->Prop}{s:Shared}{K:Frag}{x C:Addr}
def tN (X:K.In s.heap)(a:Looks (model prog w) s.heap (typeOf (.ref x)) (.ref C))(c:PySem.W.mroIn K C (.type "object")=some true)(h:R (.ok (.ret (.ref C))) s) :
  codeAny (model prog w) A (.call (.builtin "getset_descriptor.__get__") { pos:=[.builtin "object.__class__",.ref x,tp] }) R s:=by
 (obtain⟨d,g,dr,t,e⟩:=s)
 (have b:=looks_mroIn (M:=model prog w) X c)
 refine OR KF.slot_gs.plain KF.entry_gs (KF.slot_gs.check (model prog w) A.in1 _ _ (.builtin "object.__class__") [.ref x,tp] [] _ KF.type_class (KF.args_gs (.builtin "object.__class__") (.ref x) tp) ?_)
 unfold Builtin.«getset_descriptor.__get__»
 unfold Getset_descriptor.descrGet
 rw[dga_obj (.builtin "object.__class__") tp x]
 refine Ab (Ae ?_)
 apply Ab
 unfold Getset_descriptor.descrCheckInstance
 unfold Getset_descriptor.descrNameAndClass
 dsimp only
 rw[KF.owner_class]
 refine Ab (Ae ?_)
 refine Ab (Ab (a.at (b.at ?_)))
 apply Ae
 refine Ae ⟨SS { pos:=[Value.ref x] } Δ,Ea KF.entry_class ?_⟩
 refine Ab (Ab (a.at ?_))
 (exact Ae (Ae h))
structure HP (K:W.Frag)(D:Addr):Prop where
 ga:findIn K (.ref D) "__getattribute__" = some (some (.builtin "BaseException.__getattribute__"))
 gh:findIn K (.ref D) "__getattr__" = some none
 hi:subIn K (.ref D) (.type "BaseException")=some true
 ha:findIn K (.ref D) "__class__" = some (some (.builtin "object.__class__"))
 hn:specialIn K (.builtin "object.__class__") "__get__" = some (some (.builtin "getset_descriptor.__get__"))
 ht:takesIn K (.builtin "object.__class__")=some true
 hm:PySem.W.mroIn K D (.type "object")=some true
 hc:(clsIn K D).isSome=true
def rG (X:K.In s.heap)(n:HP K C):Looks (model prog w) s.heap (Builtin.ObjectAttr.find (.ref x) (.ref C) "__class__") (.bind (.builtin "getset_descriptor.__get__") (.builtin "object.__class__")):=by refine(looks_findIn X n.ha).andThen ((looks_specialIn X n.hn).andThen (Looks.andThen (a:=some (.builtin "getset_descriptor.__get__",.builtin "object.__class__")) ?_ (.tag .now)));exact(looks_takesIn X n.ht).andThen .now
def qN (X:K.In s.heap)(b:∀M,Looks M s.heap (typeOf (.ref x)) (.ref C))(n:HP K C)(h:Q (some (.ref C)) { s with toks:=s.toks+1 }):wpAny (model prog w) A (getAttr? (.ref x) "__class__") Q E s:=by
 have ne:(Value.builtin "BaseException.__getattribute__" == Value.builtin "object.__getattribute__")=false:=by decide +kernel
 (refine Ab (wpAny_mkText ?_));(refine Ab (EG ?_));refine B9 (Ab (b _ _ _ _ _ (λ_ _ e=>e) (Ab (looks_findIn X n.ga _ _ _ _ (λ_ _ e=>e) ?_))));dsimp only;rw[ne,Mf,Ag Ξ];refine Ab (looks_hook X (by rw[As Φ];exact n.gh) _ _ _ _ (λ_ _ e=>e) (Ab (EG (B9 ?_))));unfold callGetattribute;rw[show(false && onTheHeap (Value.builtin "BaseException.__getattribute__"))=false from U,Ag Ξ];unfold boundAndCalled;rw[Xl.ga.bind];refine Ab (Ae ?_);refine Jt (OR Xl.ga.plain PySem.F.entry_bexc_ga ?_);refine @check_slot (model prog w) _ _ { s with toks:=s.toks+1 } "BaseException.__getattribute__" "BaseException" "__getattribute__" (.ref x) [.str "__class__" s.toks] [] _ Δ Δ ((b _).andThen (looks_subIn X n.hi)) (PySem.F.args_bexc_ga _ _) ?_;have c:=rG (prog:=prog) (w:=w) (x:=x) X n;have a:=b (model prog w);obtain⟨i,g,d,t,f⟩:=s;refine Ab (Ae (Ab (Ae (Ab (a.at (Ab (c.at ?_)))))));unfold bindTo;refine Ab (B9 (Jt (tN X a n.hm ?_)));refine Ae ?_;exact handed_on U (Ae h)
end
section
variable {X:Cx}
def uA:Ce X (.builtin "isinstance") (λxs H Q=>∃(a D b:Addr),xs=[.ref a,.ref b]/\H a=some (Hd a D)/\HP X.K D/\kin_not X.K D b=true/\Q (.bl false) H):=by
 rintro i s C H xs us Q I r⟨a,D,b,rfl,w,n,f,q⟩;obtain⟨x,y,rfl,m,v⟩:=HW r;cases m;cases v;obtain⟨⟨o,u,l⟩,_⟩:=I.hok a _ w;unfold kin_not at f;simp only[Co,Ej,E7]at f;obtain⟨⟨⟨k1,k2⟩,k3⟩,h⟩:=f;have c:∀M,Looks M s.heap (typeOf (.ref a)) (.ref D):=λM A Q E s' e q=>ON (e _ _ u) (l▸q)
 have j:∀(B:Addr),(clsIn X.K B).isSome=true->∀M,Looks M s.heap (isType (.ref B)) true:=λB d M A Q E s' e q=>by
  unfold clsIn at d;split at d
  ·rename_i g;exact Ab (wpAny_loadPart (e _ _ (I.kIn _ _ g)) (Ae q))
  cases d
 refine call_isinstance_of ?_ nofun;(unfold Builtin.«isinstance.nested»);refine Ab ((c _).at ?_);rw[Ag (by intro z;exact k1 (Value.ref.inj (Gj z)))];refine Ab ((looks_typeIn I.kIn k3).at ?_);rw[As Φ];refine Ab (Ab ((j b k2 _).at ?_));have p:Looks (model X.prog X.w) s.heap (PySem.isInstance (.ref a) (.ref b)) false:=(c _).andThen (looks_subIn I.kIn h);refine Ab (p.at ?_);rw[Ag Ξ];refine Ab (qN I.kIn c n ?_);refine Ab ((j D n.hc _).at ?_);rw[Ag Ξ];refine Ab (Ee ?_);refine(looks_subIn I.kIn h).at ?_;exact Ae ⟨.bl false,H,I.tok _,U,q⟩
def uC:Ce X (.builtin "isinstance") (λxs H Q=>∃(a D c:Addr),xs=[.ref a,.ref c]/\H a=some (Hd a D)/\((D=c/\Q (.bl true) H)\/(HP X.K D/\kin_not X.K D c=true/\Q (.bl false) H))):=by
 rintro b s e H xs us Q I r⟨a,D,c,rfl,d,h⟩;rcases h with⟨rfl,q⟩ | ⟨n,f,q⟩
 ·exact uB b s e H _ us Q I r ⟨a,D,U,d,q⟩
 exact uA b s e H _ us Q I r ⟨a,D,c,U,d,n,f,q⟩
end
end L2
namespace DR
open PySem PySem.Spec PyProof.Rows PySem.W
section
variable {prog:Program}{w:World}{A:Around}{E:Value->Shared->Prop}{s:Shared}
def nextI_raw {ok:Value} (c:IsItemIter s.heap it d i es.size ep ok ov)(G:RawAt s.heap d es ep)(m:i<es.size)
  (I:∀h',IsItemIterOut h' it d (i+1) es.size ep es[i].key es[i].val s.heap.objs.size->h'.get? s.heap.objs.size=some { cls:=.type "tuple",data:=.seq #[es[i].key,es[i].val] }->h'.objs.size=s.heap.objs.size+1->(∀b o,b≠it->s.heap.get? b=some o->h'.get? b=some o)->Q (some (.ref s.heap.objs.size)) { s with heap:=h' }):wpAny (model prog w) A (pyNext (.ref it)) Q E s:=by
 have l:s.TypeIs (.ref it) "dict_itemiterator" := ⟨_,c,U⟩
 obtain⟨P,h,L,j⟩:=id G
 refine Ab (EG (Eb l Hk (Ct Hk l F.entry_dict_itemiterator_next ?_ (Xq _))))
 refine Ab (Ae ?_)
 refine Ab ?_
 refine Ab ?_
 refine Ab (O3 l (Ae ?_))
 (refine Ab (Jv c U ?_))
 (have f:Builtin.Dict_items.ownsTuple "dict_itemiterator" = true:=by decide)
 simp only[f,Dx]
 (show wpAny _ _ (if (Value.ref d == Value.none)=true then _ else _) _ _ s)
 (rw[Ag (show ¬((Value.ref d == Value.none)=true) from BI)])
 refine Ab (Ae ?_)
 (refine Ab (Hz h j ?_))
 rw[Ag Θ]
 refine Ab (Ae ?_)
 (refine Ab (Jw h j ?_))
 rw[Ag Θ]
 refine Ae ?_
 (simp only[show ¬((i:Int)<0) from by lia,De,CO,DM m])
 refine Ab ?_
 refine Ab (O3 l (Ae ?_))
 refine Ab (Tc l ?_)
 refine Ab (CP c (by rw[f];show 3<8;decide) λg e1 z=>?_)
 have n:=e1.trans Φ
 clear e1
 have p:({ s with heap:=g }:Shared).TypeIs (.ref it) "dict_itemiterator" := ⟨_,n,U⟩
 (refine Ab (B9 ?_))
 refine Ab (Tc p ?_)
 rw[Ag Ξ]
 refine Ab (Tc p ?_)
 rw[Ag Ξ]
 (unfold Builtin.Dict_items.pairFromOwner)
 refine Ab (wpAny_newTuple ?_ (by rw[AB];show 2<=16777216;decide))
 have hsz:=z.1
 have e2:IsItemIter (g.push { cls:=.type "tuple",data:=.seq [es[i].key,es[i].val].toArray }) it d (i+1) es.size ep ok ov:=Ax _ n
 have q:(g.push { cls:=.type "tuple",data:=.seq [es[i].key,es[i].val].toArray }).get? g.objs.size=some { cls:=.type "tuple",data:=.seq [es[i].key,es[i].val].toArray }:=A4 _ U
 have x:(g.push { cls:=.type "tuple",data:=.seq [es[i].key,es[i].val].toArray }).objs.size=g.objs.size+1:=C1 ..
 have k2:∀b o,b≠it->s.heap.get? b=some o->(g.push { cls:=.type "tuple",data:=.seq [es[i].key,es[i].val].toArray }).get? b=some o:=λb o a e=>Ax _ ((z.2 b a).trans e)
 generalize (g.push { cls:=.type "tuple",data:=.seq [es[i].key,es[i].val].toArray })=h2 at e2 q x k2 ⊢
 (unfold Builtin.Dict_items.ownedTupleIsFree)
 refine Ab (Ab (Cw e2 U U (Ae ?_)))
 rw[As rfl]
 refine Ab (Cw e2 U U ?_)
 refine Ab (Cw e2 U U ?_)
 refine Ab (CP e2 (by show 6<8;decide) λR e3 u=>?_)
 refine Ab (CP e3 (by show 7<8;decide) λM K v=>?_)
 refine Ab (CP K (by show 0<8;decide) λN H y=>?_)
 refine Ab (CP H (by show 1<8;decide) λr B C=>?_)
 refine Ab (L7 ?_)
 refine Ae (Ae ⟨_,U,Ae ?_⟩)
 have D:∀b o,b≠it->h2.get? b=some o->r.get? b=some o:=λb o a e=>(C.2 b a).trans ((y.2 b a).trans ((v.2 b a).trans ((u.2 b a).trans e)))
 rw[hsz]at q x ⊢
 refine I r ?_ (D _ _ (Dy (AH c)) q) ?_ λb o a e=>D b o a (k2 b o a e)
 ·rw[hsz]at B;exact B.trans Φ
 have:=C.1.trans (y.1.trans (v.1.trans u.1))
 lia
def endI_raw {ok:Value} (j:A.handled=none)(b:IsItemIter s.heap it d i es.size ep ok ov)(n:RawAt s.heap d es ep)(g:es.size<=i)
  (l:∀h',Heap.ExtBut it s.heap h'->Q none { s with heap:=h' }):wpAny (model prog w) A (pyNext (.ref it)) Q E s:=by
 have f:s.TypeIs (.ref it) "dict_itemiterator" := ⟨_,b,U⟩
 obtain⟨p,c,h,e⟩:=id n
 refine Ab (EG (Eb f Hk (Ct Hk f F.entry_dict_itemiterator_next ?_ (Xq _))))
 refine Ab (Ae ?_)
 refine Ab ?_
 refine Ab ?_
 refine Ab (O3 f (Ae ?_))
 (refine Ab (Jv b U ?_))
 (have a:Builtin.Dict_items.ownsTuple "dict_itemiterator" = true:=by decide)
 simp only[a,Dx]
 (show wpAny _ _ (if (Value.ref d == Value.none)=true then _ else _) _ _ s)
 (rw[Ag (show ¬((Value.ref d == Value.none)=true) from BI)])
 refine Ab (Ae ?_)
 (refine Ab (Hz c e ?_))
 rw[Ag Θ]
 refine Ab (Ae ?_)
 (refine Ab (Jw c e ?_))
 rw[Ag Θ]
 refine Ae ?_
 (simp only[show ¬((i:Int)<0) from by lia,De,CO,Hh g])
 refine Ab ?_
 refine Ab (O3 f (Ae ?_))
 refine Ab (CP b (by rw[a];show 2<8;decide) λo e1 m=>?_)
 (show wpAny _ _ (newExc (.type "StopIteration") [] >>= _) _ _ _)
 refine Ab ?_
 simp only[newExc,newTuple]
 (refine Ab (C3 ?_ (by size_fits)))
 (refine Ab (Gk (by first | rfl | (simp only[firstArgMember];rfl)) ?_))
 (refine C3 ?_ (by size_fits))
 simp only[raiseNew]
 (refine Ab (OE ?_))
 (rw[show A.in1.handled=none from j])
 (refine Ab (Ae (L8 ?_)))
 (refine Ab (Gv (T := "StopIteration") ⟨_,A4 _ U,U⟩ Mg ?_))
 exact Ae (l _ ((m.extBut.push _).push _))
end
section
variable {prog:Program}{w:World}{A:Around}{E:Value->Shared->Prop}{s:Shared}
def meets_itemsR (b:(d == sysModules)=false):MeetsIn prog w (Builtin.«dict.items» ⟨[.ref d],[]⟩) (λ_ R s=>(∃a ep,RawAt s.heap d a ep)/\R (.ok (.ret (.ref s.heap.objs.size))) { s with heap:=s.heap.push { cls:=.type "dict_items",data:=.fields #[.ref d] } }):=
 .of_wp λA R s ⟨⟨a,ep,c⟩,h⟩=>by refine Ab ?_;(refine Ab (S8 c.typeIs ?_));refine Ae ?_;(show wpAny _ _ (Builtin.Dict.showsAll d >>= _) _ _ s);unfold Builtin.Dict.showsAll;(rw[Ag (b▸BI)]);refine Ab (Ae ?_);(exact Ab (C3 (Ae ⟨_,U,h⟩)))
def iterI_raw (e:s.heap.IsItemsView v d)(j:RawAt s.heap d es ep)
  (i:Q (.ref s.heap.objs.size) { s with heap:=s.heap.push { cls:=.type "dict_itemiterator",data:=.fields #[.none,.bool false,.ref d,.int 0 0,.int es.size 0,.int ep 0,.none,.none] } }) :
  (wpAny (model prog w) A (pyIter (.ref v)) Q E s):=by
 (obtain⟨m,c,h,f⟩:=id e)
 obtain⟨o,g,l,a⟩:=id j
 (refine JA e.typeIs F.slot_dict_items_iter (Ct F.slot_dict_items_iter e.typeIs F.entry_dict_items_iter ?_ (F.args_dict_items_iter_1 _)))
 (unfold Builtin.«dict_items.__iter__»)
 refine Ab (Ae ?_)
 refine Ab ?_
 (unfold Builtin.Dict_items.dictOf)
 (refine Ab (Cw c f U (Ae ?_)))
 refine Ab ?_
 (unfold Builtin.Dict_items.newIterator)
 (refine Ab (Hz g a ?_))
 (refine Ab (Jw g a ?_))
 (have b:Builtin.Dict_items.ownsTuple "dict_itemiterator" = true:=by decide)
 simp only[b,Dx]
 refine C3 (Ae ⟨_,U, "dict_itemiterator",_,⟨_,A4 _ U,U⟩,Hk.lookup,?_⟩)
  (by simp only[sizeOk,Builtin.Dict_items.ownedTupleFields,Bx,AM,BU,length_nil,AB];lia)
 simpa [rawInt,Builtin.Dict_items.ownedTupleFields] using i
end
end DR
namespace L2
open PySem PySem.Spec PyProof.Rows
section
variable {X:Cx}
def mK:Ff X "dict.items" (λx xs H Q=>∃a kvs,x=.ref a/\xs=[]/\Rd H a (.dT kvs)/\∀v,H v=none->Q (.ref v) (upd H v (BO v a))):=by rintro g s A H x xs v us Q I j l⟨a,kvs,rfl,rfl,m,q⟩;cases j;cases l;obtain⟨hz,i,ys,o,d,ep,z,c,ex,n,p,w⟩:=F0 (m.ok I.hok);have h:DR.RawAt s.heap a d ep:=⟨o,c,ex,n⟩;refine Gn JH h.typeIs To (Tr _) (DR.meets_itemsR i) ⟨⟨d,ep,h⟩,.ref s.heap.objs.size,_,I.laid (t':=s.toks) (o:=BO s.heap.objs.size a) (λb o e=>Ax _ e) (An _) ⟨⟨_,A4 _ U,U,U⟩,⟨_,A4 _ U⟩,λy u f e=>?_⟩,U,q _ (I.hok.fresh (An _))⟩;obtain⟨o,c,r⟩:=f;exact⟨o,e o c,r⟩
def TM (a:Addr)(o:Obj)(kvs:List (PyData×V)):It:=
 ⟨λi H=>i<kvs.length/\H a=some (.frz o (.dT kvs)),λi H x H'=>∃p k b v,x=.ref p/\H p=none/\H'=upd H p (.tup [.ref b,v])/\kvs[i]? = some (k,v)/\RdT H b k,λi H=>kvs.length<=i/\H a=some (.frz o (.dT kvs))⟩
theorem T7 {P:Program}{w:World}{K:W.Frag}{n:List Expr}{x1}{tp:Pos}(it a:Addr)(o:Obj)(kvs:List (PyData×V))(x:Array DictEntry)(ep:Nat)(hd:o.data=.dict x ep) :
  El P w K (.Tuple n x1 tp) (TM a o kvs) [it] it (λi h=>∃ok j,IsItemIter h it a i kvs.length ep ok j) where
 mem:=by simp
 obj:=λi h st b hb=>by
  have e:b=it:=by simpa using hb
  subst e;obtain⟨_,_,st⟩:=st;exact⟨_,st,λv z=>nomatch z⟩
 keep:=λi h h' st k=>by obtain⟨ok,j,st⟩:=st;exact⟨ok,j,k it Θ _ st⟩
 item:=by
  intro X G C B d i p s σ H E I A st D;subst G C B;obtain⟨R,F⟩:=D;obtain⟨ok,j,st⟩:=st;obtain⟨xs,S,g,L,y⟩:=NQ I F hd;have hx:=Ay R;obtain⟨b,u,hy,rb,ru⟩:=KT.getT S hx;obtain⟨e0,k1,k2,k3⟩:=RP L hy;rw[<- y]at st;have l:i<x.size:=by lia
  have tz:=Dy (AH st);have N:x[i].key=.ref b/\x[i].val=u:=by rw[DM l]at k1;cases k1;exact⟨k2,k3⟩
  refine DR.nextI_raw st g l λh' f Q hsz kk=>?_;rw[N.1,N.2]at f Q;refine⟨_,U,wpAny_letOwnedTupleGo_items f λm M T=>?_⟩;have r:∀c o,c∉[it]->s.heap.get? c=some o->m.get? c=some o:=λc o d e=>by have q:c≠it:=λz=>d (z▸AF.mpr U);exact T.extBut _ _ q (kk c o q e)
  have new:ObjOk X.prog X.w (upd H s.heap.objs.size (.tup [.ref b,kvs[i].2])) m s.heap.objs.size (.tup [.ref b,kvs[i].2]):=
   ⟨by show 2<=sizeLine;decide,[.ref b,u],.cons U (.cons ru .nil),_,T.extBut _ _ tz Q,U,0,U⟩
  rw[y]at M;refine⟨.ref s.heap.objs.size,_,I.stepN A r new,U,⟨_,_,b,_,U,I.hok.fresh (An _),U,hx,rb⟩,⟨_,_,M⟩,λc d=>?_⟩;have e:c=it:=by simpa using d
  rw[Ao (e▸tz.symm)];exact(A c d).1
 done:=by intro X G C B d i p s σ H E I A st D;subst G C B;obtain⟨R,F⟩:=D;obtain⟨ok,j,st⟩:=st;obtain⟨xs,S,g,L,y⟩:=NQ I F hd;rw[<- y]at st;exact DR.endI_raw (I.ok.hd d) st g Ψ λh' eb=>⟨U,I.stepL A λc o d e=>eb c o (λz=>d (z▸AF.mpr U)) e⟩
 self:=λ_ _ _ _ _ st h=>by obtain⟨ok,j,st⟩:=st;refine JA ⟨_,st,U⟩ OA (Ct OA ⟨_,st,U⟩ PySem.W.kcp_entry ?_ (Xr _));exact Ae ⟨_,U, "dict_itemiterator",_,⟨_,st,U⟩,Hk.lookup,h⟩
def pZ (tl:TE):TI:=λσ H R=>tl σ H λx H1=>∃v a kvs,x=.ref v/\H1 v=some (BO v a)/\((H1 a=some (.dT kvs)/\∀o,R (TM a o kvs) (upd H1 a (.frz o (.dT kvs))))\/∃o,H1 a=some (.frz o (.dT kvs))/\R (TM a o kvs) H1)
def bO {x1} (D:PE X l tl):PI X (.Tuple elts x1 tp) l (pZ tl):=by
 intro i s M H R I h;refine thn (D i s M H _ I h) ?_;rintro u f⟨x,z,d,E,K⟩;obtain⟨v,a,kvs,rfl,F,q⟩:=K;cases E;obtain⟨c,_,_⟩:=d.hok v _ F;rcases q with⟨n,q⟩ | ⟨A,n,q⟩
 ·obtain⟨hz,C,ys,o,p,ep,G,j,ex,m,B,w⟩:=F0 (d.hok a _ n);have y:=d.freezeT n j;refine DR.iterI_raw c ⟨o,j,ex,m⟩ ⟨f.heap.objs.size,[f.heap.objs.size],_,_,upd z a (.frz o (.dT kvs)),U,y.kept (λb o e=>Ax _ e),T7 _ a o kvs p ep m,⟨.none,.none,?_⟩,λb r=>?_,q o⟩
  ·rw[<- w];exact A4 _ U
  obtain rfl:b=f.heap.objs.size:=by simpa using r
  exact y.fpOk (An _) (y.hok.fresh (An _))
 obtain⟨j,L⟩:=(d.hok a _ n);obtain⟨hz,C,ys,o,p,ep,G,g,ex,m,B,w⟩:=F0 L;rw[j]at g;cases g;refine DR.iterI_raw c ⟨A,j,ex,m⟩ ⟨f.heap.objs.size,[f.heap.objs.size],_,_,z,U,d.kept (λb o e=>Ax _ e),T7 _ a A kvs p ep m,⟨.none,.none,?_⟩,λb r=>?_,q⟩
 ·rw[<- w];exact A4 _ U
 obtain rfl:b=f.heap.objs.size:=by simpa using r
 exact d.fpOk (An _) (d.hok.fresh (An _))
def Yy (to:TE):TE:=λσ H Q=>to σ H λx H1=>∃a kvs,x=.ref a/\Rd H1 a (.dT kvs)/\∀v,H1 v=none->Q (.ref v) (upd H1 v (BO v a))
def bZ (r:PE X o to)(d:attributeBase o "items" X.env (eval o X.env)=eval o X.env:=by rfl)(c:(apos.endLine == cpos.line)=true:=by rfl):PE X (.Call (.Attribute o "items" apos) [] [] cpos) (Yy to):=by intro b s g H Q I h;refine Ti d c (thn (r b s g H _ I h) λv n f=>?_);obtain⟨x,l,i,p,a,kvs,e,rd,q⟩:=f;subst e;cases p;obtain⟨j,m,_⟩:=RX i (.inr ⟨_,rd⟩);exact⟨"dict", "dict.items",Jn,JH,Th,j,m,JG U (S2 (mK b n g l (.ref a) [] _ [] Q i U .nil ⟨a,kvs,U,U,rd,q⟩))⟩
end
structure FunD (K:W.Frag)(x qual:Str)(st:Stmt)(f:Addr)(fd:FuncData)(T:Addr):Prop where
 ex:∃(oc:Value) (od:Option Addr) (kV doc pm:Value) (an:Option Addr) (di ct:Value) (osl:Array (Option Value)),
  fd=PySem.W.fnOf x qual (Dr st) (CB st) (Ak st) (.ref T) kV doc pm an di ct/\K.lookup f=some ⟨oc,od,.func fd,osl⟩/\PySem.W.codeIn K di qual=true
section
variable {P:Program}{w:World}{K:W.Frag}{mg:Str->Option Value}{base:Heap}
def FunD.ok {x b:Str}{st:Stmt}{f T:Addr}{i:FuncData}{N ps:List Str}{k:Nat}{sp:Sp}(F:FunD K x b st f i T)(S:Aw N ps (Ak st))(len:∀vs H Q E,sp vs H Q E->vs.length=ps.length)
  (d:∀(c:Value) (A:Around) (a:List Env) (s:Shared) (H:Hp) (vs:List V) (Q:VK) (E:XK),Room k (A.deeper (envOfC b (Ak st) s.heap.objs.size f c))->sp vs H Q E -> ∃t,PSs (C9 CX0 P w K mg base N b (Ak st) f c A a s H E).nox (CB st) t/\t { nx:=λ_ H'=>Q .non H',rt:=Q } (start N vs) H):Aj P w K mg base CX0 (k+1) f i ps sp:=by
 obtain⟨q,p,kV,n,r,o,c,ct,l,e,j,h⟩:=F.ex
 subst e
 exact R4 j h S len λA a s H vs Q E m g=>(d c A a s H vs Q E m g).imp λt z=>⟨z.1.nox,z.2⟩
def FunD.binds {x a:Str}{st:Stmt}{f T:Addr}{i:FuncData}{ps:List Str}{z:Value}{y:Option Addr}{items:Array Value}{n:Nat}{q:Array (Option Value)}(F:FunD K x a st f i T)(r:K.lookup T=some ⟨z,y,.seq items n,q⟩)
  (h:∀(kV c g:Value) (d:Option Addr) (b ct:Value) (us:List Value),us.length=ps.length->∃k,bindArgs (PySem.W.fnOf x a (Dr st) (CB st) (Ak st) (.ref T) kV c g d b ct) ⟨us,[]⟩=seqItems? (.ref T) >>= k/\k (some items)=pure (ps.zip us)):Binds K i ps []:=by
 obtain⟨u,m,kV,c,g,d,b,ct,p,e,B,A⟩:=F.ex
 subst e
 intro s us l j
 rw[BC]at j ⊢
 obtain⟨k,v,o⟩:=h kV c g d b ct us j
 exact PySem.W.binds_K l U r U v o
def qZ {x a:Str}{st:Stmt}{f T:Addr}{j:Value}{i h:Option Addr}{e:Array (Option Value)}{kV d g b ct:Value}(l:K.lookup f=some ⟨j,i,.func (PySem.W.fnOf x a (Dr st) (CB st) (Ak st) (.ref T) kV d g h b ct),e⟩)
  (c:PySem.W.codeIn K b a=true):FunD K x a st f (PySem.W.fnOf x a (Dr st) (CB st) (Ak st) (.ref T) kV d g h b ct) T:=⟨⟨j,i,kV,d,g,h,b,ct,e,U,l,c⟩⟩
end
def Yu (ta:TA):TE:=λσ H Q=>ta σ H λvs H1=>∃j:Nat,vs=[.int (j:Int)]/\j<=1000/\∀p,H1 p=none->Q (.ref p) (upd H1 p (.lst (((List.range j).map λi:Nat=>(i:Int)).map V.int)))
theorem TX:∀(us:List Value) (k:Nat),(∀(i:Nat) (v:Value),us[i]? = some v->∃t,v=.int ((k+i:Nat):Int) t)->Vals (((List.range' k us.length).map λi:Nat=>(i:Int)).map V.int) us
 | [],_,_=>.nil
 | u::r,k,h=>by
  rw[BU,List.range'_succ,Bg,Bg];refine .cons ?_ (TX r (k+1) λi v e=>?_)
  ·obtain⟨t,e⟩:=h 0 u U;exact⟨t,e⟩
  obtain⟨t,e⟩:=h (i+1) v e;exact⟨t,by rw[e];congr 1;lia⟩
def bW (A:X.calm=true) (r:Gl X "list")(p:X.mg "list" = none)(l:bootBuiltins "list" = some (.type "list"))(L:Gl X "range")(B:X.mg "range" = none)(N:PA X [a] ta)
  (G:starEach [a] X.env=[(false,eval a X.env)]:=by rfl)
  (g:starEach [.Call (.Name "range" p2) [a] [] pos2] X.env=[(false,eval (.Call (.Name "range" p2) [a] [] pos2) X.env)]:=by rfl) :
  PE X (.Call (.Name "list" p1) [.Call (.Name "range" p2) [a] [] pos2] [] pos1) (Yu ta):=by
 intro f s R H Q I h
 refine HK (EB I r p l ?_)
 refine FE ?_ (by rw[g];rfl) U
 rw[g]
 apply HL
 refine Call_ (EB I L B boot_range (FE (thn (N pos2 f s R H _ I h) λus M m=>?_) G U))
 obtain⟨vs,S,w,F,P⟩:=m
 obtain⟨j,rfl,T,q⟩:=P
 obtain⟨u,rfl,K⟩:=Cm F
 obtain⟨t,rfl⟩:=K
 have y:=AB
 apply call_range_1
 apply JB
 refine call_list_range (n:=j) (w.ok.hd A) (IsRange.new ..) (small_one Ψ Ψ Ψ Ψ) (by rw[rangeSize_one];split <;> lia) Ψ λh' tk d z C E c=>?_
 have D:d.toList.length=j:=by rw[Dw];exact c.1
 have x:=TX d.toList 0 λi v e=>by rw[EL]at e;obtain⟨t,e2⟩:=c.2 i v e;exact⟨t,by rw[e2];congr 1;lia⟩
 rw[D,<- List.range_eq_range']at x
 refine⟨.ref _,_,w.laid (o:=.lst (((List.range j).map λi:Nat=>(i:Int)).map V.int)) (λb o e=>C b o (Ax _ e)) (by rw[C1];exact Dm _) ⟨by rw[Ah,Ah,Dv];lia,d.toList,z,x,Array.toArray_toList▸E⟩,U,q _ ((λ(o:Obj)=>w.hok.fresh (a:=(M.heap.push o).objs.size) (by rw[C1];exact Dm _)) _)⟩
end L2
namespace RL
open PySem PyProof.Rows
def nH:typeLookup (.type "list_reverseiterator") "__len__" = pure none:=by rw[Gs,Gh];kernel_rfl
def nI:typeLookup (.type "list_reverseiterator") "__length_hint__" = pure (some (.builtin "list_reverseiterator.__length_hint__")):=by rw[Gs,Gh];kernel_rfl
def nE:isSubtype (.type "list_reverseiterator") (.type "list_reverseiterator")=pure true:=by rw[OI];kernel_rfl
def qC:splitId "list_reverseiterator.__length_hint__" = some ("list_reverseiterator", "__length_hint__"):=by first | rfl | decide +kernel | kernel_rfl
section
variable {prog:Program}{w:World}{A:Around}{E:Value->Shared->Prop}{s:Shared}
def hint (a:s.heap.IsRevIter it l i)(b:Q false s):wpAny (model prog w) A (Builtin.List.listLengthHint (.ref it)) Q E s:=by (unfold Builtin.List.listLengthHint);refine Ab (EJ a.typeIs nH ?_);refine Ab (EJ a.typeIs nI ?_);dsimp only;rw[qC];refine Ab (Gv a.typeIs nE ?_);rw[Ag Ξ,As Δ,Ag Δ];exact Ae b
variable {R:Result->Shared->Prop}
def extend (y:A.handled=none)(r:l≠I)(S:Addr)(res:Value)(m:Nat)(d:s.heap.IsRevIter I l ((items.size:Int)-1))(G:s.heap.IsList l items)(n:S≠I)(p:S≠l)(K:items.size<=sizeLine)
  (H:s.heap.get? S=some { cls:=.type "list",data:=.seq #[] m })
  (z:∀s' c g,Moved (S::[I]) (λa b=>b=a) s s'->s'.heap.get? S=some { cls:=.type "list",dict:=none,data:=.seq c g,slots:=#[] }->ItemsOf (λi v=>items[items.size-1-i]? = some v) c items.size->R (.ok (.ret res)) s') :
  wpAny (model prog w) A.in1 (Builtin.List.listExtendWith (.ref S) (.ref I) res)
   (λo s'=>match o with | .done f=>R (.ok f) s' | .again g=>g.quiet=true/\codeAny (model prog w) A g R s') (λe s'=>R (.error e) s') s:=by
 have u:S∉[I,l]:=λh=>by
  simp only[Ar,AS,AQ]at h;rcases h with h | h
  ·exact n h
  exact p h
 (unfold Builtin.List.listExtendWith)
 refine Ab (E9 d.typeIs ?_)
 (have x:Builtin.List.listSameRef (.ref S) (.ref I)=false:=by simp[Builtin.List.listSameRef,n])
 have B:(Value.type "list_reverseiterator" == Value.type "list")=false:=by decide
 have D:(Value.type "list_reverseiterator" == Value.type "tuple")=false:=by decide
 (simp only[x,B,D,OG,DZ,De])
 refine Ab (wpAny_pyIter_revIter d ?_)
 refine Ab (B9 (hint d ?_))
 (rw[Ag Δ])
 refine Ae ⟨Fc Mr _,codeAny_extend_loopS (Walks.listRev (w:=w) (A:=A.in1) y I l r items).toS K _ u _ items.size 0 _ _ _ U (Bt _) ⟨Bt _,?_,G⟩ H (ItemsOf.nil _) λs' c g C q j=>?_⟩
 ·rw[show(items.size:Int)-1-((0:Nat):Int)=items.size-1 by lia];exact d
 exact z s' c g C q j
def init (B:A.handled=none)(x:l≠I)(S:Addr)(q:s.heap.IsRevIter I l ((items.size:Int)-1))(D:s.heap.IsList l items)(n:S≠I)(m:S≠l)(G:items.size<=sizeLine)
  (y:s.heap.get? S=some { cls:=.type "list",data:=.seq #[] })
  (C:∀h' tk a g,(∀b o,b≠S->b≠I->s.heap.get? b=some o->h'.get? b=some o)->h'.get? S=some { cls:=.type "list",dict:=none,data:=.seq a g,slots:=#[] }->ItemsOf (λi v=>items[items.size-1-i]? = some v) a items.size->R (.ok (.ret .none)) { s with heap:=h',toks:=tk }) :
  wpAny (model prog w) A.in1 (Builtin.«list.__init__» ⟨[.ref S,.ref I],[]⟩)
   (λr s'=>match r with | .done f=>R (.ok f) s' | .again g=>g.quiet=true/\codeAny (model prog w) A g R s') (λe s'=>R (.error e) s') s:=by
 (show wpAny _ A.in1 (do let old <- Builtin.List.listItems (.ref S);Builtin.List.listUpdate (.ref S) (λ_=>#[]);letGo old.toList.reverse;Builtin.List.listExtendWith (.ref S) (.ref I) .none) _ _ s)
 apply Ab
 (refine Ab (EH y U (Ae ?_)))
 (show wpAny _ A.in1 (updateSeq S (λ_=>#[]) >>= λ_=>letGo (#[]:Array Value).toList.reverse >>= λ_=>Builtin.List.listExtendWith (.ref S) (.ref I) .none) _ _ s)
 (refine Ab (Jx y U ?_))
 (have d:=E5 (Obj.mapSeq (λ_=>(#[]:Array Value))) y U)
 have c:∀b o,b≠S->s.heap.get? b=some o->(s.heap.update S (Obj.mapSeq (λ_=>(#[]:Array Value)))).get? b=some o:=
  λb o p e=>(JF _ _ (Ec p)).trans e
 refine Ab (L7 ?_)
 refine extend B x S .none _ (q.at λo e=>c I o n.symm e) (D.at λo e=>c l o m.symm e) n m G d λs' a g z u j=>?_
 rw[Moved.eq_with z]
 refine C s'.heap s'.toks a g (λb o p F e=>z.heap b o (λh=>?_) (c b o p e)) u j
 rcases(Ar.mp h)with h | h
 ·exact p h
 exact F (AF.mp h)
def call_list (x:A.handled=none)(q:l≠I)(d:s.heap.IsRevIter I l ((items.size:Int)-1))(r:s.heap.IsList l items)(D:items.size<=sizeLine)
  (B:∀h' tk a n,(∀b o,b≠I->s.heap.get? b=some o->h'.get? b=some o)->h'.get? s.heap.objs.size=some { cls:=.type "list",dict:=none,data:=.seq a n,slots:=#[] }->ItemsOf (λi v=>items[items.size-1-i]? = some v) a items.size->Q (.ref s.heap.objs.size) { s with heap:=h',toks:=tk }) :
  (wpAny (model prog w) A (call (.type "list") [.ref I]) Q E s):=by
 refine callType_codes (Q₁:=λf c=>f=.ref s.heap.objs.size/\c = { s with heap:=s.heap.push { cls:=.type "list",data:=.seq #[] } }) F.called_list (F.typeCall_list_1 _) F.entry_list_init
  (code_list_new _ ⟨U,U⟩) λf c h=>?_
 obtain⟨rfl,rfl⟩:=h
 (have u:(s.heap.push { cls:=.type "list",data:=.seq #[] }).get? s.heap.objs.size=some { cls:=.type "list",data:=.seq #[] }:=A4 _ U)
 obtain⟨G,m,_⟩:=id d
 obtain⟨H,j,_⟩:=id r
 have C:=AH m
 refine⟨⟨_,u,U⟩,F.args_list_init_2 _ _,init (A:=A.in1) x q _ (d.at λo e=>Ax _ e) (r.at λo e=>Ax _ e) (Dy C) (Dy (AH j)) D u λh' tk a n y p g=>?_⟩
 exact⟨U,B h' tk a n (λb o z e=>y b o (Bd (AH e)) z (Ax _ e)) p g⟩
end
def rev_items {items a:Array Value}(h:ItemsOf (λi v=>items[items.size-1-i]? = some v) a items.size):a=items.toList.reverse.toArray:=by
 apply Array.ext_getElem?;intro i;have d:=h.1;by_cases c:i<items.size
 ·have b:a[i]? = some (a[i]'Ψ):=DM Ψ;rw[<- EL,<- EL,SZ,List.getElem?_reverse (by simpa using c),EL,EL,Dw,h.2 i _ b,b]
 rw[Hh Ψ,Hh (by simp;lia)]
end RL
namespace L2
open PySem PySem.Spec PyProof.Rows
def Yv (K:W.Frag)(ta:TA):TE:=λσ H Q=>ta σ H λvs H1=>∃a xs,vs=[.ref a]/\Y K H1 a xs/\∀p,H1 p=none->Q (.ref p) (upd H1 p (.lst xs.reverse))
theorem TY:∀{xs:List V}{us:List Value},Vals xs us->Vals xs.reverse us.reverse
 | _,_,.nil=>.nil
 | _,_,.cons a b=>by (rw[List.reverse_cons,List.reverse_cons]);exact(TY b).append (.cons a .nil)
def bX (B:X.calm=true) (r:Gl X "list")(p:X.mg "list" = none)(l:bootBuiltins "list" = some (.type "list"))(M:Gl X "reversed")(C:X.mg "reversed" = none)(G:bootBuiltins "reversed" = some (.type "reversed"))(P:PA X [a] ta)
  (K:starEach [a] X.env=[(false,eval a X.env)]:=by rfl)
  (g:starEach [.Call (.Name "reversed" p2) [a] [] pos2] X.env=[(false,eval (.Call (.Name "reversed" p2) [a] [] pos2) X.env)]:=by rfl) :
  PE X (.Call (.Name "list" p1) [.Call (.Name "reversed" p2) [a] [] pos2] [] pos1) (Yv X.K ta):=by
 intro f s T H Q I h
 refine HK (EB I r p l ?_)
 refine FE ?_ (by rw[g];rfl) U
 rw[g]
 apply HL
 refine Call_ (EB I M C G (FE (thn (P pos2 f s T H _ I h) λus N n=>?_) (by rw[K];rfl) Φ))
 obtain⟨vs,H1,i,E,R⟩:=n
 obtain⟨x,xs,rfl,W,q⟩:=R
 obtain⟨u,rfl,L⟩:=Cm E
 cases L
 obtain⟨c,w,S,hz⟩:=i.list W
 have hl:=w.length
 have z:sizeLine=16777216:=AB
 have hsz:c.toArray.size=c.length:=Bx
 have m:=S.isList
 obtain⟨ox,j,_⟩:=id m
 apply call_reversed_list m
 apply JB
 refine RL.call_list (i.ok.hd B) (Bd (AH j)) ⟨_,A4 _ U,U,U⟩ (m.at λo e=>Ax _ e) Ψ λh' tk y A D F d=>?_
 have v:=RL.rev_items d
 rw[SZ]at v
 subst v
 refine⟨.ref _,_,i.laid (t':=tk) (o:=.lst xs.reverse) (λb o e=>D b o (Bd (AH e)) (Ax _ e)) (by rw[C1];exact Dm _) ⟨by rw[List.length_reverse];lia,c.reverse,A,TY w,F⟩,U,q _ (i.hok.fresh (a:=(N.heap.push (revObj x (((c.toArray.size:Nat):Int)-1))).objs.size) (by rw[C1];exact Dm _))⟩
def AG (h:Nat.ble n 16777216=true:=by rfl):n<=sizeLine:=by rw[AB];exact Nat.le_of_ble_eq_true h
abbrev BG (a b:List Str):List Str:=a++b
def AA (c:sc.kind=.function:=by rfl)(f:sc.isCoroutine=false:=by rfl)(a:sc.isGenerator=false:=by rfl)(d:N.Nodup:=by decide +kernel)(e:N.take ps.length=ps:=by rfl)
  (b:∀x∈ps,sc.names.lookup x=some .local\/sc.names.lookup x=some .cell:=by decide +kernel)(g:∀y∈sc.names,y.2≠.free:=by decide +kernel):Aw N ps sc:=⟨c,f,a,d,e,b,g⟩
def BA (c:X.env.scope=sc:=by rfl)(g:N=own++fr:=by rfl)(a:scope.kind=.function:=by rfl)(d:sc.kind=.function:=by rfl)(e:∀y∈scope.names,y.2≠NameKind.cell:=by decide +kernel)
  (b:∀y∈scope.names,y.2=NameKind.free->sc.names.lookup y.1=some NameKind.cell:=by decide +kernel)(i:∀y∈scope.names,y.2=NameKind.local->scope.names.lookup y.1=some NameKind.local:=by decide +kernel)(h:js.map (λj=>X.N[j]?)=fr.map some:=by rfl)
  (f:∀x∈fr,sc.names.lookup x=some NameKind.cell/\scope.names.lookup x=some NameKind.free:=by decide +kernel):LcOk X N sc scope own fr js:=⟨c,g,a,d,e,b,i,h,f⟩
section
variable {X:Cx}{i:Nat}{x:Str}{pos pos':Pos}
def AO (f:X.N.Nodup)(a:PE X e te)(b:X.N[i]? = some x:=by rfl)(c:JO X.env.scope x:=by exact .inl U)(g:swapsWith e (some (.Name x pos')) pos.line X.env=pure false:=by rfl)(d:X.fn x=true\/X.env.scope.names.lookup x=some .local:=by first | exact .inl U | exact .inr U | assumption) :
  PS X (.Assign [.Name x pos'] e pos) (Um te (EC i)):=Es f b c a g d
def A0 (b:X.N.Nodup)(a:X.N[i]? = some x:=by rfl)(c:JO X.env.scope x:=by exact .inl U)(d:X.fn x=true\/X.env.scope.names.lookup x=some .local:=by first | exact .inl U | exact .inr U | assumption):PG X (.Name x pos) (EC i):=bP b a c d
end
section
variable {P:Program}{w:World}{K:W.Frag}{mg:Str->Option Value}{base:Heap}{x qual:Str}{st:Stmt}{f:Addr}{fd:FuncData}{N ps:List Str}{k:Nat}{sp:Sp}
def Fun.oq (F:Fun K x qual st f fd)(S:Aw N ps (Ak st))
  (a:∀(c:Value) (A:Around) (b:List Env) (s:Shared) (H:Hp) (vs:List V) (Q:VK) (E:XK),Room k (A.deeper (envOfC qual (Ak st) s.heap.objs.size f c))->sp vs H Q E->∃t,PSs (C9 CX0 P w K mg base N qual (Ak st) f c A b s H E).nox (CB st) t/\t { nx:=λ_ H'=>Q .non H',rt:=Q } (start N vs) H)
  (len:∀vs H Q E,sp vs H Q E->vs.length=ps.length:=by intro _ _ _ _ h;cases h;subst_vars;rfl):Aj P w K mg base CX0 (k+1) f fd ps sp:=F.ok S len a
def Fun.oqE (F:Fun K x qual st f fd)(S:Aw N ps (Ak st))
  (a:∀(c:Value) (A:Around) (b:List Env) (s:Shared) (H:Hp) (vs:List V) (Q:VK) (E:XK),Room k (A.deeper (envOfC qual (Ak st) s.heap.objs.size f c))->sp vs H Q E->∃t,PSs (C9 (CXe P w) P w K mg base N qual (Ak st) f c A b s H E) (CB st) t/\t { nx:=λ_ H'=>Q .non H',rt:=Q } (start N vs) H)
  (len:∀vs H Q E,sp vs H Q E->vs.length=ps.length:=by intro _ _ _ _ h;cases h;subst_vars;rfl):Aj P w K mg base (CXe P w) (k+1) f fd ps sp:=F.okE S len a
end
def DV (h:H p=none):∃H',upd H p o=H'/\Same H H'/\H' p=some o:=⟨_,U,Same.new h,Af⟩
inductive Qf (K:W.Frag)(x:Str)(s:Stmt)(f:Addr):Prop
 | mk {od an:Option Addr}{sl:Array (Option Value)}{oc kV dc pm cd ct:Value}(a:PySem.W.nsIn K mainGlobals x=some (some (.ref f))) (l:K.lookup f=some ⟨oc,od,.func (PySem.W.fnOf x x (Dr s) (CB s) (Ak s) .none kV dc pm an cd ct),sl⟩)
   (c:PySem.W.codeIn K cd x=true) (k:PySem.W.keepIn K (.ref f)=true):Qf K x s f
def Qf.df {K:W.Frag}{h:Heap}{mg:Str->Option Value}{x:Str}{s:Stmt}{f:Addr}(q:Qf K x s f)(X:K.In h)(G:h.Ns mainGlobals mg)(ps:List Str)
  (i:∀(kV d g:Value) (e:Option Addr) (b ct:Value) (us:List Value),us.length=ps.length->bindArgs (PySem.W.fnOf x x (Dr s) (CB s) (Ak s) .none kV d g e b ct) ⟨us,[]⟩=pure (ps.zip us)):∃fd,Df K mg x s ps f fd:=by
 obtain⟨a,l,c,k⟩:=q
 exact⟨_,Fx l c k,Ck X G a,(Fx l c k).binds i⟩
inductive Qm (K:W.Frag)(C:Addr)(x q:Str)(s:Stmt)(f:Addr):Prop
 | mk {od an:Option Addr}{sl:Array (Option Value)}{oc kV dc pm cd ct:Value}(a:PySem.W.findIn K (.ref C) x=some (some (.ref f))) (i:PySem.W.isFn K (.ref f)=true) (l:K.lookup f=some ⟨oc,od,.func (PySem.W.fnOf x q (Dr s) (CB s) (Ak s) .none kV dc pm an cd ct),sl⟩)
   (c:PySem.W.codeIn K cd q=true) (k:PySem.W.keepIn K (.ref f)=true):Qm K C x q s f
def Qm.df {K:W.Frag}{C:Addr}{x d:Str}{s:Stmt}{f:Addr}(q:Qm K C x d s f)(ps:List Str)
  (m:∀(kV e j:Value) (h:Option Addr) (b ct:Value) (us:List Value),us.length=ps.length->bindArgs (PySem.W.fnOf x d (Dr s) (CB s) (Ak s) .none kV e j h b ct) ⟨us,[]⟩=pure (ps.zip us)):∃g,Fun K x d s f g/\Binds K g ps []/\B5 K C x f:=by
 obtain⟨a,i,l,c,k⟩:=q
 exact⟨_,Fx l c k,(Fx l c k).binds m,a,i,k⟩
inductive Ca (P:Program)(w:World)(K:W.Frag)(mg:Str->Option Value)(base:Heap)(CX:Ef)(k:Nat)(x:Str)(st:Stmt)(ps:List Str)(sp:Sp):Prop
 | mk {f:Addr}{fd:FuncData}(D:Df K mg x st ps f fd) (G:Aj P w K mg base CX k f fd ps sp):Ca P w K mg base CX k x st ps sp
section
variable {X:Cx}{CX:Ef}{k:Nat}{ps:List Str}{sp:Sp}{E:XK}{x:Str}{st:Stmt}{p pos:Pos}{e:Expr}{es:List Expr}{t:TA}
def Az (c:Ca X.prog X.w X.K X.mg X.base CX k x st ps sp)(f:Room k X.A)(h:Em CX X E)(d:PA X (e::es) t)(i:Gl X x:=by rfl)(b:(x == ("__debug__" : Str))=false:=by decide)(g:starEach (e::es) X.env=(false,eval e X.env)::starEach es X.env:=by rfl)
  (a:(backTo pos (starEach es X.env)).any (·.1)=false:=by rfl):PE X (.Call (.Name x p) (e::es) [] pos) (Uk sp [] E t):=by
 obtain⟨D,G⟩:=c
 exact Cj G f i D.m D.F.kp D.b .nil h d b g a
end
end L2
namespace K52
open PySem L2 Tx Rk PyProof.Rows PySem.SeqAt
open PySem.PyData (strOk)
section
variable {P:Program}{w:World}{K:W.Frag}{mg:Str->Option Value}{base:Heap}
def top (i:Nat):Stmt:=PySem.Challenge.pw_grope_k52_errands_of_texts.main.body.getD i (.Pass ⟨0,0,0,0⟩)
abbrev GH:Stmt:=top 12
abbrev Ka:Stmt:=top 13
abbrev Kl:Stmt:=top 16
abbrev Ij:Stmt:=top 17
abbrev Fi:Stmt:=top 18
abbrev FY:Stmt:=top 19
abbrev Ih:Stmt:=top 20
abbrev Kk:Stmt:=top 21
abbrev Ny:Stmt:=top 22
abbrev Nu:Stmt:=top 23
abbrev J7:Stmt:=top 24
abbrev NJ:Stmt:=top 25
abbrev Io:Stmt:=top 26
abbrev Nm:Stmt:=top 27
abbrev FX:Stmt:=top 29
abbrev Km:Stmt:=CI (top 32) 0
abbrev Q3:Stmt:=CI (top 32) 1
abbrev Q2:Stmt:=CI (top 32) 2
abbrev Q0:Stmt:=CI (top 32) 3
abbrev Ip:Stmt:=top 33
abbrev NF:Stmt:=top 39
abbrev Ir:Stmt:=top 40
abbrev ND:Stmt:=top 41
abbrev NC:Stmt:=top 42
abbrev Ko:Stmt:=top 43
abbrev Kp:Stmt:=top 44
abbrev J6:Stmt:=top 45
abbrev Ng:Stmt:=top 46
abbrev Ni:Stmt:=top 47
abbrev Iq:Stmt:=top 48
abbrev Kq:Stmt:=CI (top 49) 0
abbrev Q4:Stmt:=CI (top 49) 1
abbrev Q7:Stmt:=CI (top 49) 2
abbrev Q6:Stmt:=CI (top 49) 3
abbrev Q5:Stmt:=CI (top 49) 4
abbrev Q8:Stmt:=CI (top 49) 12
abbrev J3:Stmt:=top 53
abbrev Ik:Stmt:=top 54
abbrev Nk:Stmt:=top 55
abbrev Nb:Stmt:=top 56
abbrev Nh:Stmt:=top 57
abbrev Kj:Stmt:=top 63
abbrev Kh:Stmt:=top 64
abbrev NH:Stmt:=top 65
abbrev Nn:Stmt:=top 66
abbrev Kr:Stmt:=top 67
abbrev Nl:Stmt:=top 70
abbrev J4:Stmt:=top 71
abbrev Nz:Stmt:=top 72
abbrev Nc:Stmt:=top 76
abbrev NB:Stmt:=top 78
abbrev Nj:Stmt:=top 79
abbrev NM:Stmt:=top 80
abbrev Iu:Stmt:=top 81
abbrev Kn:Stmt:=top 82
abbrev J8:Stmt:=top 83
abbrev J9:Stmt:=top 84
abbrev NL:Stmt:=CI (top 85) 0
abbrev Q9:Stmt:=CI (top 85) 1
abbrev Ra:Stmt:=CI (top 85) 2
abbrev Z4:Stmt:=CI (top 85) 3
abbrev NK:Stmt:=CI (top 85) 5
abbrev Ki:Stmt:=top 93
abbrev J5:Stmt:=top 94
abbrev Ii:Stmt:=top 95
abbrev Nd:Stmt:=top 96
abbrev Nf:Stmt:=top 97
abbrev NG:Stmt:=top 98
abbrev QZ:Stmt:=CI (top 99) 0
abbrev QY:Stmt:=CI (top 99) 1
abbrev QW:Stmt:=CI (top 99) 2
abbrev QX:Stmt:=CI (top 99) 6
abbrev Kf:Stmt:=top 101
abbrev EU:Stmt:=top 102
abbrev Il:Stmt:=top 103
abbrev Kb:Stmt:=top 104
abbrev Nt:Stmt:=top 105
abbrev Im:Stmt:=top 106
abbrev Kc:Stmt:=top 107
abbrev Ke:Stmt:=top 108
abbrev Nr:Stmt:=top 109
abbrev Kg:Stmt:=top 110
abbrev Np:Stmt:=top 111
abbrev Kd:Stmt:=top 112
abbrev Nq:Stmt:=top 113
abbrev GG:Stmt:=top 114
structure Bl (mg:Str->Option Value):Prop where
 len:mg "len" = none
 range:mg "range" = none
 tuple:mg "tuple" = none
 zip:mg "zip" = none
 isi:mg "isinstance" = none
 str:mg "str" = none
 list:mg "list" = none
 set:mg "set" = none
 all:mg "all" = none
 sorted:mg "sorted" = none
 int:mg "int" = none
 bool:mg "bool" = none
 reversed:mg "reversed" = none
 max:mg "max" = none
 sum:mg "sum" = none
 enumerate:mg "enumerate" = none
 dict:mg "dict" = none
 any:mg "any" = none
 ve:mg "ValueError" = none
def WV (l:List Nat):cs ⟨l.toArray⟩=l:=rfl
def G5 (l:List Nat):(Str.mk l.toArray).length=l.length:=by rw[<- A8,WV]
end
end K52
namespace K52
open PySem L2 Tx Rk PyProof.Rows PySem.SeqAt
open PySem.PyData (strOk)
end K52
namespace K52
open PySem L2 Tx Rk PyProof.Rows PySem.SeqAt
open PySem.PyData (strOk)
section
variable {P:Program}{w:World}{K:W.Frag}{mg:Str->Option Value}{base:Heap}
abbrev Sk (x:Str):Prop:=strOk x=true/\x.length<=16
def Og (h:¬x=y):¬(Sum.inr x:Key)=Sum.inr y:=λe=>h (DY e)
def Ga (g:Good rs) (h:x∈rs.map Ro.name):Nv x:=by obtain⟨r,a,rfl⟩:=AK.mp h;exact Ro.nv_name (g.nv r a)
def LF (h:Nv x):Sk x:=⟨h.ok,by have:=h.len;lia⟩
structure Wl where
 hand:Option Str
 heaps:List (List Str)
 lids:List Str
 deriving DecidableEq
def dO:Option Str->PyData
 | none=>.none
 | some x=>.str x
def dH (xs:List Str):PyData:=.tuple (xs.map PyData.str)
def dW (W:Wl):PyData:=.tuple [dO W.hand,.tuple (W.heaps.map dH),.tuple (W.lids.map PyData.str)]
def Sz (W:Wl)(n:Nat):Prop:=W.heaps.length=n/\W.lids.length=n
structure Ok (W:Wl):Prop where
 hand:∀x∈W.hand,Sk x
 heaps:∀h∈W.heaps,∀x∈h,Sk x
 lids:∀x∈W.lids,Sk x
 few:∀h∈W.heaps,h.length<=100
def parts (h:RdV H v (dW W)):∃(a:Addr) (d:V) (b c:Addr) (xs ys:List V),v=.ref a/\H a=some (.tup [d,.ref b,.ref c])/\RdV H d (dO W.hand) /\
  H b=some (.tup xs)/\RdVs H xs (W.heaps.map dH)/\H c=some (.tup ys)/\RdVs H ys (W.lids.map PyData.str):=by
 cases h with
 | tup e rs=>
  cases rs with
  | cons r0 rs=>
   cases rs with
   | cons r1 rs=>
    cases rs with
    | cons r2 rs=>
     cases rs;cases r1 with
     | tup e1 s1=>
      cases r2 with
      | tup e2 s2=>exact⟨_,_,_,_,_,_,U,e,r0,e1,s1,e2,s2⟩
def Gy (e:H a=some (.tup [v0,.ref b,.ref c]))(d:RdV H v0 (dO W.hand))(e1:H b=some (.tup xs))(f:RdVs H xs (W.heaps.map dH))(e2:H c=some (.tup ys))(s2:RdVs H ys (W.lids.map PyData.str)) :
  RdV H (.ref a) (dW W):=.tup e (.cons d (.cons (.tup e1 f) (.cons (.tup e2 s2) .nil)))
def oV:Option Str->V
 | none=>.non
 | some x=>.str x
structure Fw (rs:List Ro)(W:Wl):Prop where
 perm:(W.hand.toList++W.heaps.flatten).Perm ((BD rs).map (·.1))
 lids:∀(i:Nat) p l,(plc rs)[i]? = some p->W.lids[i]? = some l->Lo p l
def nK (h:Lo p l):Sk l:=by rcases h with h | ⟨h,_⟩ | ⟨h,_⟩ <;> (rw[h];exact⟨Δ,Δ⟩)
def Fw.ok (g:Good rs)(f:Fw rs W)(sz:Sz W (plc rs).length):Ok W:=by
 have d:∀x∈W.hand.toList++W.heaps.flatten,Sk x:=λx a=>LF (Ga g (Fp (f.perm.mem_iff.mp a)));refine⟨λx a=>d x (Hw _ (by rw[Option.mem_toList];exact a)),λh b x a=>d x (Ei _ (List.mem_flatten.mpr ⟨h,b,a⟩)),λl e=>?_,λh b=>?_⟩
 ·obtain⟨i,c⟩:=Hu e;have m:=(AW.mp c).1;exact nK (f.lids i _ l (Ay (by have:=sz.2;lia)) c)
 have n:=VM b;have j:=f.perm.length_eq;rw[AM,Ah]at j;have:=g.fewT;lia
def formsD:List PyData:=[.tuple [.str "place",.int 2],.tuple [.str "box",.int 2],.tuple [.str "box",.int 3],.tuple [.str "thing",.int 3]]
structure Md (K:W.Frag)(mg:Str->Option Value)(aN aF:Addr):Prop where
 letters:∃t,mg "LETTERS" = some (.str abc t)
 most:∃t,mg "MOST_LETTERS" = some (.int 8 t)
 mp:∃t,mg "MOST_PLACES" = some (.int 6 t)
 mt:∃t,mg "MOST_THINGS" = some (.int 6 t)
 nn:mg "NO_NAMES" = some (.ref aN)
 nv:∀H:Hp,SqT K H aN (fixedS.map V.str)
 ff:mg "FORMS" = some (.ref aF)
 fv:JM K (.ref aF) (.tuple formsD)
inductive Qj (vs:List V)(H:Hp)(Q:VK)(E0_:XK):Prop
 | mk (x:Str) (c0:vs=[.str x]) (c1:Nv x) (c2:∀H':Hp,Same H H'->Q (.bl true) H'):Qj  vs H Q E0_
def Zx:Aw ["text"] ["text"] (Ak Ki):=AA
inductive P1 (vs:List V)(H:Hp)(Q:VK)(E0_:XK):Prop
 | mk (ro:Ro) (c0:vs=[.str ro.txt]) (c1:ro.nv) (c2:∀(l:Addr) (H':Hp),Same H H'->H l=none->H' l=some (.lst (ro.words.map V.str))->Q (.ref l) H'):P1  vs H Q E0_
def scReadLine:Aw ["line", "words", "word"] ["line"] (Ak J5):=AA
def RowsAt (H:Hp):List Ro->List Addr->Prop:=Paired λro a=>H a=some (.lst (ro.words.map V.str))
def RowsAt.same (s:Same H H'):∀{rs:List Ro}{c:List Addr},RowsAt H rs c->RowsAt H' rs c
  :=by
 intro r c h;induction h with
 | nil=>exact .nil
 | cons a b i=>exact .cons (s _ _ a) i
def RowsAt.keep :∀{rs:List Ro}{c:List Addr},RowsAt H rs c->(∀a∈c,∀o,H a=some o->H' a=some o)->RowsAt H' rs c
  :=by
 intro r c h k;induction h with
 | nil=>exact .nil
 | cons a b i=>exact .cons (k _ Bb _ a) (i λx d=>k x (Bc _ d))
theorem RowsAt.snoc (h:H a=some (.lst (ro.words.map V.str))):∀{rs:List Ro}{c:List Addr},RowsAt H rs c->RowsAt H (rs++[ro]) (c++[a])
 | _,_,.nil=>.cons h .nil
 | _,_,.cons x b=>.cons x (RowsAt.snoc h b)
def RowsAt.length (h:RowsAt H rs ls):rs.length=ls.length:=Gp h
theorem RowsAt.get :∀{rs:List Ro}{d:List Addr}{i:Nat}{a:Addr},RowsAt H rs d->d[i]? = some a->∃c,rs[i]? = some c/\H a=some (.lst (c.words.map V.str))
 | _,_,_,_,.nil,e=>by simp at e
 | _,_,0,_,.cons x _,e=>by simp at e;subst e;exact⟨_,U,x⟩
 | _,_,i+1,_,.cons _ b,e=>by obtain⟨c,f,g⟩:=RowsAt.get b (by simpa using e);exact⟨c,by simpa using f,g⟩
inductive PY (vs:List V)(H:Hp)(Q:VK)(E0_:XK):Prop
 | mk (a:Addr) (rs:List Ro) (c0:vs=[.ref a]) (c1:H a=some (.lst ((rs.map Ro.txt).map V.str))) (c2:Good rs) (c3:rs.length<=12) (c4:∀(l:Addr) (ls:List Addr) (H':Hp),Same H H'->H' l=some (.lst (ls.map V.ref))->RowsAt H' rs ls->Q (.ref l) H'):PY  vs H Q E0_
def scReadRows:Aw ["lines", "rows", "names"] ["lines"] (Ak Ii):=AA
inductive PX (vs:List V)(H:Hp)(Q:VK)(E0_:XK):Prop
 | mk (a:Addr) (rs:List Ro) (ls:List Addr) (c0:vs=[.ref a]) (c1:H a=some (.lst (ls.map V.ref))) (c2:RowsAt H rs ls) (c3:Good rs) (c4:∀(d:Addr) (H':Hp),Same H H'->H d=none->H' d=some (.dK (shK rs))->Q (.ref d) H'):PX  vs H Q E0_
def scReadThings:Aw ["rows", "shapes", "words"] ["rows"] (Ak Nd):=AA
def LD:Option Str->V
 | none=>.non
 | some x=>.str x
def PlOk (H:Hp):List (Str×Bool×Option Str)->List (Key×V)->Prop:=Paired λp kv=>kv.1=Sum.inr p.1/\∃t,kv.2=.ref t/\H t=some (.tup [.bl p.2.1,LD p.2.2])
def PlOk.same (s:∀b xs,H b=some (.tup xs)->H' b=some (.tup xs)):∀{ps:List (Str×Bool×Option Str)}{kvs:List (Key×V)},PlOk H ps kvs->PlOk H' ps kvs
  :=by
 intro r c h;induction h with
 | nil=>exact .nil
 | cons e b i=>obtain⟨e,t,d,f⟩:=e;exact .cons ⟨e,t,d,s _ _ f⟩ i
theorem PlOk.snoc {t:Addr}(h:H t=some (.tup [.bl p.2.1,LD p.2.2])):∀{ps:List (Str×Bool×Option Str)}{kvs:List (Key×V)},PlOk H ps kvs->PlOk H (ps++[p]) (kvs++[(Sum.inr p.1,.ref t)])
 | _,_,.nil=>.cons ⟨U,t,U,h⟩ .nil
 | _,_,.cons x b=>.cons x (PlOk.snoc h b)
def PlOk.length (h:PlOk H ps kvs):ps.length=kvs.length:=Gp h
def PlOk.keys :∀{ps:List (Str×Bool×Option Str)}{kvs:List (Key×V)},PlOk H ps kvs->kvs.map (λa=>kV a.1)=(ps.map (·.1)).map V.str
  :=by
 intro p k h;induction h with
 | nil=>rfl
 | cons e b i=>rw[Bg,Bg,Bg,i,e.1];rfl
def PlOk.none :∀{ps:List (Str×Bool×Option Str)}{kvs:List (Key×V)},PlOk H ps kvs->x∉ps.map (·.1)->Bj kvs (Sum.inr x:Key)=.none
  :=by
 intro p k h n;induction h with
 | nil=>rfl
 | cons e b i=>rw[Ep (λz=>n (by rw[e.1]at z;rw[<- DY z];exact Bb))];exact i λz=>n (Bc _ z)
theorem PlOk.get :∀{ps:List (Str×Bool×Option Str)}{kvs:List (Key×V)}{i:Nat}{k:Key}{v:V},PlOk H ps kvs->kvs[i]? = some (k,v)->∃p t,ps[i]? = some p/\v=.ref t/\H t=some (.tup [.bl p.2.1,LD p.2.2])
 | _,_,_,_,_,.nil,e=>by simp at e
 | _,_,0,_,_,.cons ⟨e1,t,e2,e3⟩ _,e=>by simp at e;rw[e]at e2;exact⟨_,t,U,e2,e3⟩
 | _,_,i+1,_,_,.cons _ b,e=>by obtain⟨p,t,c,d,a⟩:=PlOk.get b (by simpa using e);exact⟨p,t,by simpa using c,d,a⟩
inductive PZ (vs:List V)(H:Hp)(Q:VK)(E0_:XK):Prop
 | mk (a:Addr) (rs:List Ro) (ls:List Addr) (c0:vs=[.ref a]) (c1:H a=some (.lst (ls.map V.ref))) (c2:RowsAt H rs ls) (c3:Good rs) (c4:∀(d:Addr) (kvs:List (Key×V)) (H':Hp),Same H H'->H d=none->H' d=some (.dK kvs)->PlOk H' (plc rs) kvs->Q (.ref d) H'):PZ  vs H Q E0_
def scReadPlaces:Aw ["rows", "places", "words"] ["rows"] (Ak Nf):=AA
inductive QK (vs:List V)(H:Hp)(Q:VK)(E0_:XK):Prop
 | mk (d1 d2:Addr) (rs:List Ro) (kvs:List (Key×V)) (c0:vs=[.ref d1,.ref d2]) (c1:H d1=some (.dK kvs)) (c2:PlOk H (plc rs) kvs) (c3:H d2=some (.dK (shK rs))) (c4:d1≠d2) (c5:Good rs) (c6:∀(o:Obj) (H':Hp),(∀b u,H b=some u->b≠d1->H' b=some u)->H' d1=some (.frz o (.dK kvs))->Q .non H'):QK  vs H Q E0_
def scCheckKeys:Aw ["places", "shapes", "lid", "key"] ["places", "shapes"] (Ak NG):=AA
def F2 (d1 d2:Addr):List (Str×V):=putF "told_shapes" (.ref d2) (putF "told_places" (.ref d1) [])
def Z9:¬(("told_places" : Str) = "told_shapes"):=by decide +kernel
def UJ (a b:Addr):(F2 a b).lookup ("told_places" : Str)=some (.ref a):=by unfold F2;rw[A3,Ag Z9,A3,As rfl]
def DQ (d b:Addr){m:Str}(a:¬m = "told_shapes")(c:¬m = "told_places"):(F2 d b).lookup m=none:=by unfold F2;rw[A3,Ag a,A3,Ag c];rfl
inductive Xv (C:Addr)(H:Hp)(x:Addr)(rs:List Ro):Prop
 | mk (dx d1 d2:Addr) (o:Obj) (kvs:List (Key×V)) (c0:H x=some (.ins C dx (F2 d1 d2))) (c1:H d1=some (.frz o (.dK kvs))) (c2:PlOk H (plc rs) kvs) (c3:H d2=some (.dK (shK rs))):Xv C H x rs
structure RoomAt (C:Addr)(H:Hp)(x:Addr)(rs:List Ro):Prop where
 ex:Xv C H x rs
def RoomAt.same (R:RoomAt C H x rs)(s:Same H H'):RoomAt C H' x rs:=by obtain⟨f,h,g,o,kvs,c,i,a,d⟩:=R.ex;exact⟨f,h,g,o,kvs,s _ _ c,s _ _ i,a.same λb xs e=>s _ _ e,s _ _ d⟩
structure Cl (K:W.Frag)(C:Addr):Prop where
 cl:Cls K C
 nP:NoAttr K C "told_places"
 nS:NoAttr K C "told_shapes"
inductive Qp (C:Addr)(vs:List V)(H:Hp)(Q:VK)(E0_:XK):Prop
 | mk (x dx a:Addr) (rs:List Ro) (c0:vs=[.ref x,.ref a]) (c1:H x=some (.ins C dx [])) (c2:H a=some (.lst ((rs.map Ro.txt).map V.str))) (c3:Good rs) (c4:rs.length<=12) (c5:∀H':Hp,(∀b u,H b=some u->b≠x->H' b=some u)->RoomAt C H' x rs->Q .non H'):Qp C vs H Q E0_
def scInit:Aw ["self", "lines", "rows", "places", "shapes"] ["self", "lines"] (Ak QZ):=AA
inductive FU (C:Addr)(vs:List V)(H:Hp)(Q:VK)(E0_:XK):Prop
 | mk (x:Addr) (rs:List Ro) (c0:vs=[.ref x]) (c1:RoomAt C H x rs) (c2:∀(l:Addr) (H':Hp),Same H H'->H l=none->H' l=some (.lst (((plc rs).map (·.1)).map V.str))->Q (.ref l) H'):FU C vs H Q E0_
def Zk:Aw ["self"] ["self"] (Ak QY):=AA
def rA {a:Addr}{o:Obj}{kvs:List (Key×V)}{g:TG}{n:TS}{D:Gw}{b:L2.St}{H:Hp}(c:Nat->L2.St->Hp->Prop)(s:c 0 b H)(u:∀i b H,i<=kvs.length->c i b H->H a=some (.frz o (.dK kvs)))
  (A:∀i k x b H,kvs[i]? = some (k,x)->c i b H->g x b H λf j=>n { D with nx:=c (i+1),ct:=c (i+1),bk:=D.nx } f j)(v:∀b H,c kvs.length b H->D.nx b H) :
  ∃W:Nat->Nat->L2.St->Hp->Prop,(∃m,W 0 m b H)/\∀i m b H,W i m b H ->
   ((My a o kvs).stop i H/\D.nx b H)\/((My a o kvs).go i H/\∃N:L2.St->Hp->Prop,(∀d H',N d H'->∃l,l<m/\W (i+1) l d H')/\∀x H',(My a o kvs).yld i H x H'->g x b H' λf j=>n { D with nx:=N,ct:=N,bk:=D.nx } f j):=by
 refine⟨λi m b H=>m=kvs.length-i/\i<=kvs.length/\c i b H,⟨kvs.length,Θ,Bt _,s⟩,?_⟩
 rintro i m b H ⟨rfl,r,p⟩
 have q:=u i b H r p
 by_cases h:i<kvs.length
 ·refine .inr ⟨⟨h,q⟩,c (i+1),λd H' z=>⟨kvs.length-(i+1),Ψ,U,h,z⟩,λx H' y=>?_⟩;obtain⟨e,k,y⟩:=y;subst e;exact A i k x b _ y p
 have e:i=kvs.length:=by lia
 subst e
 exact .inl ⟨⟨An _,q⟩,v b H p⟩
def fU (F:Fun K "is_name" "is_name" Ki f fd)(T:Bl mg)(M:Md K mg aN aF):Aj P w K mg base CX0 1 f fd ["text"] Qj:=by
 obtain⟨X,I⟩:=M.letters;obtain⟨t2,L⟩:=M.most;refine F.oq Zx ?_;rintro R A r s H vs Q E W⟨x,rfl,m,q⟩;have B:=AB;have G:=m.len;have z:=m.pos;refine⟨_,Ai (AY (PW.pt (DE (AN By (pv 0) AC (AJ _)) (DE (AN F7 (Be Cv Φ T.len BM (Aa (pv 0) Ac)) (CY (v:=.int 8) Φ L ⟨_,U⟩) (AJ _)) (EW (AN Ez (pv 0) (CY (v:=.ref aN) Φ M.nn U) Φ))))) (Al (Av Ex)) AX) (Al (Av (Be (Ox U) Φ T.all Jk (Aa (B1 (N:=["sign"]) (sc:=Ak Ki) (own:=["sign"]) (fr:=[]) (js:=[]) BA U (Vb (pv 0)) (λ_ _ _ _=>A0 (i:=0) (show List.Nodup (["sign"]:List Str) by decide +kernel)) (λ_ _ _ _=>BV) (λ_ _ _ _=>Cn cP (pv 0) (CY (v:=.str abc) Φ I ⟨_,U⟩) Φ)) Ac)))),_,U,U,_,U,?_⟩;refine Bq (λg=>?_) (λ_=>?_)
 ·exfalso;have e:=V.str.inj (Bp g);rw[e]at z;exact absurd z Δ
 refine⟨_,U,_,_,U,⟨Ψ,U⟩,_,_,U,U,_,U,(Bq (λg=>?_) (λ_=>?_))⟩
 ·exfalso;have:=Bp g;lia
 refine⟨_,U,aN,_,U,.inr (M.nv H),U,flat_strs _,_,U,(Bq (λg=>?_) (λ_=>?_))⟩
 ·exfalso;have j:=g;rw[DH]at j;exact m.fix (Bp j)
 refine⟨_,U,x,U,m.ascii,λD hD=>BK (n:=x.cps.size) (λi ys o=>ys=replicate i (V.bl true)/\Same H o/\o D=some (.lst ys)) ⟨U,Same.new hD,Af⟩ (λi _ _ y _=>y) (λ_ _ _=>An _) ?_ ?_⟩
 ·rintro i ys o v H3 y ⟨rfl,p,d⟩ ⟨rfl,c,hc,rfl⟩;apply BX;have u:c∈cs x:=by have:=Cc (l:=x.cps.toList) (i:=i) (a:=c) (by simpa using hc);exact this
  have h:=m.low c u;have S:x.cps.size<=8:=G;refine⟨_,U,_,_,U,U,_,d,by rw[Jz];lia,?_,p.put hD,Af⟩;rw[pS h.1 h.2,List.replicate_succ']
 rintro ys o ⟨rfl,p,d⟩;refine⟨D,replicate x.cps.size true,U,Y.of (by rw[d,List.map_replicate]),?_⟩;have e:(replicate x.cps.size true).all (λb=>b)=true:=by rw[E8];intro b C;exact(List.mem_replicate.mp C).2
 rw[e];exact q o p
def eE (F:Fun K "read_line" "read_line" J5 f fd)(R:Df K mg "is_name" Ki ["text"] fI fdI)(T:Bl mg)(M:Md K mg aN aF)(GI:Aj P w K mg base CX0 1 fI fdI ["text"] Qj):Aj P w K mg base CX0 2 f fd ["line"] P1:=by
 refine F.oq scReadLine λW A S s H vs Q E hr h=>?_;obtain⟨b,rfl,g,q⟩:=h;have I:(A.deeper (envOfC "read_line" (Ak J5) s.heap.objs.size f W)).units+65<cLine:=by have:=hr.un;lia
 have a0:=AB;have a1:=X0 g;refine⟨_,Ai (AO (i:=1) scReadLine.nd (Dg Ek DJ EM EA (pv 0) (Aa AC Ac))) (Ai (AY (AN (cL I) (A6 (Aa (Ap AL (pv 1) Ad (λ_ _=>U)) (Aa (Be Cv Φ T.len BM (Aa (pv 1) Ac)) Ac))) (CY (v:=.ref aF) Φ M.ff U) Φ) B6 AX) (Ai (CU C2 U (BB (Ew M7 (pv 1) (Et Ad) Eu)) (A0 (i:=2) scReadLine.nd) (Al (AY (C6 (CS (Cj GI hr Φ R.m R.F.kp R.b .nil Aq (Aa (pv 2) Ac)))) B6 AX))) (Al (Av (pv 1))))),_,U,U,_,_,U,U,Δ,Ψ,λl hl=>?_⟩;rw[show Txt.split b.txt " "=b.words from YX g];have s1:Same H (upd H l (.lst (b.words.map V.str))):=Same.new hl;have e1:(upd H l (.lst (b.words.map V.str))) l=some (.lst (b.words.map V.str)):=Af;generalize upd H l (.lst (b.words.map V.str))=H1 at s1 e1 ⊢;obtain⟨j,rest,d⟩:∃j rest,b.words=j::rest:=by cases b <;> exact⟨_,_,U⟩
 refine⟨_,U,l,_,_,_,U,U,Y.of e1,Au (by rw[d];rfl),_,U,_,_,U,.inl ⟨_,Y.of e1,U⟩,by show 2<=sizeLine;decide,λp hp=>?_⟩;have s2:Same H1 (upd H1 p (.tup [.str j,.int ((b.words.map V.str).length:Nat)])):=Same.new hp;have u:(b.words.map V.str).length=b.words.length:=Ah ..;refine⟨.tuple [.str j,.int (b.words.length:Nat)],formsD,.tup (by rw[Af,u]) (.cons (.str j) (.cons (.int _) .nil)),M.fv,?_,Δ,_,U,?_⟩
 ·cases b with
  | pl n=>cases d;exact(by decide +kernel:shaped (PyData.tuple [PyData.str "place",PyData.int ((2:Nat):Int)])=true)
  | bx n=>cases d;exact(by decide +kernel:shaped (PyData.tuple [PyData.str "box",PyData.int ((2:Nat):Int)])=true)
  | lk n k=>cases d;exact(by decide +kernel:shaped (PyData.tuple [PyData.str "box",PyData.int ((3:Nat):Int)])=true)
  | th n k=>cases d;exact(by decide +kernel:shaped (PyData.tuple [PyData.str "thing",PyData.int ((3:Nat):Int)])=true)
 have o:(formsD.any λe=>PyData.eqv e (.tuple [.str j,.int (b.words.length:Nat)]))=true:=by
  cases b with
  | pl n=>cases d;exact(by decide +kernel:(formsD.any λe=>PyData.eqv e (.tuple [.str "place",.int ((2:Nat):Int)]))=true)
  | bx n=>cases d;exact(by decide +kernel:(formsD.any λe=>PyData.eqv e (.tuple [.str "box",.int ((2:Nat):Int)]))=true)
  | lk n k=>cases d;exact(by decide +kernel:(formsD.any λe=>PyData.eqv e (.tuple [.str "box",.int ((3:Nat):Int)]))=true)
  | th n k=>cases d;exact(by decide +kernel:(formsD.any λe=>PyData.eqv e (.tuple [.str "thing",.int ((3:Nat):Int)]))=true)
 rw[o];refine A7 ?_;have C:=s1.trans s2;generalize (upd H1 p (.tup [.str j,.int ((b.words.map V.str).length:Nat)]))=H2 at s2 C ⊢;have e2:=s2 _ _ e1;refine⟨_,U,_,U,l,_,U,Y.of e2,λz hz=>?_⟩;have s3:Same H2 (upd H2 z (.lst (BE (b.words.map V.str) (some 1) none))):=Same.new hz;have m:BE (b.words.map V.str) (some ((1:Nat):Int)) none=(b.words.drop 1).map V.str:=by unfold BE;rw[HT.sIx_none,HT.sIx_nat,u,d,BU,Mi Ψ,List.map_drop];refine FA ?_;simp
 have e3:(upd H2 z (.lst (BE (b.words.map V.str) (some 1) none))) z=some (.lst ((b.words.drop 1).map V.str)):=by rw[Af];exact A5 (λx=>some (HO.lst x)) m
 generalize upd H2 z (.lst (BE (b.words.map V.str) (some 1) none))=H3 at s3 e3 ⊢
 have X:∀x∈b.words.drop 1,Nv x:=λx c=>by
  cases b with
  | pl n=>rw[AF.mp c];exact g
  | bx n=>rw[AF.mp c];exact g
  | lk n k=>
   rcases(Ar.mp c)with e | e
   ·rw[e];exact g.1
   rw[AF.mp e];exact g.2
  | th n k=>
   rcases(Ar.mp c)with e | e
   ·rw[e];exact g.1
   rw[AF.mp e];exact g.2
 refine⟨z,U,⟨_,Y.of e3⟩,DI (K:=K) (a:=z) (λi G B=>∃L:Option V,G = [some (.str b.txt),some (.ref l),L]/\Same H3 B) ⟨none,U,Same.refl _⟩ (λi G B _ N=>by obtain⟨_,_,r⟩:=N;exact Y.of (r _ _ e3)) ?_ ?_⟩
 ·rintro i x G B c ⟨L,rfl,r⟩;rw[AU]at c;cases e:(b.words.drop 1)[i]? with
  | none=>rw[e]at c;cases c
  | some y=>rw[e]at c;cases c;refine⟨_,U,y,U,X y (Cc e),λH5 s5=>⟨_,U,?_⟩⟩;exact A7 ⟨_,U,r.trans s5⟩
 rintro G B ⟨L,rfl,r⟩;have D:=s3.trans r;exact⟨_,U,q l B (C.trans D) hl (D _ _ e2)⟩
def dZ (F:Fun K "read_rows" "read_rows" Ii f fd)(DR:Df K mg "read_line" J5 ["line"] fR fdR)(T:Bl mg)(GR:Aj P w K mg base CX0 2 fR fdR ["line"] P1):Aj P w K mg base CX0 3 f fd ["lines"] PY:=by
 refine F.oq scReadRows ?_;rintro a5 A X s H vs Q E hr⟨a,rs,rfl,L,g,a4,q⟩;have a3:=AB;refine⟨_,Ai (Iy (i:=1) (N:=["line"]) (sc:=Ak Ii) (own:=["line"]) (fr:=[]) (js:=[]) scReadRows.nd U U BA U (BB (pv 0)) (λ_ _ _ _=>A0 (i:=0) (show List.Nodup (["line"]:List Str) by decide +kernel)) (λ_ _ _ _=>BV) (λ_ _ _ _=>Cj GR hr Φ DR.m DR.F.kp DR.b .nil Aq (Aa (pv 0) Ac))) (Ai (Iy (i:=2) (N:=["words"]) (sc:=Ak Ii) (own:=["words"]) (fr:=[]) (js:=[]) scReadRows.nd U U BA U (BB (pv 1)) (λ_ _ _ _=>A0 (i:=0) (show List.Nodup (["words"]:List Str) by decide +kernel)) (λ_ _ _ _=>BV) (λ_ _ _ _=>Ap (RW K U) (pv 0) Ad (λ_ _=>U))) (Ai (AY (AN IX (Be Sm Φ T.len BM (Aa (CG (Sl U) Φ T.set Oy (Aa (pv 2) Ac)) Ac)) (Be Cv Φ T.len BM (Aa (pv 2) Ac)) (AJ _)) B6 AX) (Al (Av (pv 1))))),_,U,a,U,⟨_,Y.of L⟩,λD hD=>?_⟩
 refine BK (λi ys u=>∃d:List Addr,ys=d.map V.ref/\RowsAt u (rs.take i) d/\(∀l∈d,l≠D)/\Same H u/\u D=some (.lst ys)) ⟨[],U,.nil,(λ_ z=>nomatch z),Same.new hD,Af⟩
  (λi ys u m c=>by obtain⟨_,_,_,_,s2,_⟩:=c;exact⟨_,.str rs[i].txt,Y.of (s2 _ _ L),by simp[m]⟩) (λys u c=>by obtain⟨_,_,_,_,s2,_⟩:=c;exact⟨_,Y.of (s2 _ _ L),Θ⟩) ?_ ?_
 ·rintro i ys u x p m ⟨d,rfl,y,W,s2,e2⟩ ⟨rfl,hx⟩;apply BX;have h:=hx _ (Y.of (s2 _ _ L));have B:x=.str rs[i].txt:=by rw[AU,AU,Ay m]at h;exact(Bh h).symm
  subst B;refine⟨_,U,rs[i],U,g.nv _ (Cb m),λl H4 v fl el=>?_⟩;have lD:=(A1 e2 fl).symm;have r:=y.length;rw[Bm]at r;refine⟨_,v _ _ e2,by rw[Ah];lia,d++[l],Θ,?_,λz hz=>?_,(s2.trans v).put hD,Af⟩
  ·rw[BN m];refine RowsAt.snoc ((Ao lD)▸el) (y.keep λb hb o e=>?_);rw[Ao (W b hb)];exact v _ _ e
  rcases(Br.mp hz)with hz | hz
  ·exact W z hz
  rw[AF.mp hz];exact lD
 rintro ys u ⟨d,rfl,y,W,s2,e2⟩;rw[BQ]at y;have r:=y.length;refine⟨_,U,D,U,⟨_,Y.of e2⟩,λD2 G=>?_⟩
 refine BK (n:=rs.length) (λi ys p=>ys=((rs.take i).map Ro.name).map V.str/\Same u p/\p D2=some (.lst ys)) ⟨U,Same.new G,Af⟩
  (λi ys p m c=>by obtain⟨_,s3,_⟩:=c;exact⟨_,.ref (d[i]'Ψ),Y.of (s3 _ _ e2),by simp[show i<d.length by lia]⟩) (λys p c=>by obtain⟨_,s3,_⟩:=c;exact⟨_,Y.of (s3 _ _ e2),by simp;lia⟩) ?_ ?_
 ·rintro i ys p x H4 m ⟨rfl,s3,e3⟩ ⟨rfl,hx⟩;refine BX ?_;have h:=hx _ (Y.of (s3 _ _ e2));have I:i<d.length:=by lia
  rw[AU,Ay I]at h;have B:x=.ref d[i]:=(Bh h).symm;subst B;obtain⟨ro,h1,h2⟩:=y.get (Ay I);have a1:atI (ro.words.map V.str) ((1:Nat):Int)=some (.str ro.name):=Au (by cases ro <;> rfl);refine⟨_,U,d[i],_,_,_,U,U,Y.of (s3 _ _ h2),a1,_,e3,by rw[Ah,Ah,Bm];lia,?_,s3.put G,Af⟩;have a2:rs[i]=ro:=(AW.mp h1).2;rw[BN m,AR,AR,a2];rfl
 rintro ys p ⟨rfl,s3,e3⟩;rw[BQ]at e3;have ek:(rs.map Ro.name).map V.str=((rs.map Ro.name).map (Sum.inr:Str->Key)).map kV:=by rw[Bk,Bk,Bk];rfl
 have a0:((rs.map Ro.name).map (Sum.inr:Str->Key)).length=rs.length:=by rw[Ah,Ah]
 refine⟨_,U,D2,(rs.map Ro.name).map Sum.inr,U,Y.of (by rw[<- ek];exact e3),Ψ,λst S=>?_⟩
 have R:(SK.dd (B8 ((rs.map Ro.name).map (Sum.inr:Str->Key))) ((rs.map Ro.name).map (Sum.inr:Str->Key)).length).length=rs.length:=by
  rw[SK.dd_full (n:=rs.length) (λi j m hj e=>?_) _ Ψ,a0];have ei:B8 ((rs.map Ro.name).map (Sum.inr:Str->Key)) i=Sum.inr ((rs.map Ro.name)[i]'(by rw[Ah];exact m)):=by simp[B8,List.getD,m]
  have ej:B8 ((rs.map Ro.name).map (Sum.inr:Str->Key)) j=Sum.inr ((rs.map Ro.name)[j]'(by rw[Ah];exact hj)):=by simp[B8,List.getD,hj]
  rw[ei,ej]at e;exact(Ho g.nd).mp (DY e)
 have v:Same p (upd p st (Ig P w st (SK.dd (B8 ((rs.map Ro.name).map (Sum.inr:Str->Key))) ((rs.map Ro.name).map (Sum.inr:Str->Key)).length).length)):=Same.new S;refine⟨st,_,U,Af,_,U,_,_,U,.inl ⟨_,Y.of (v _ _ e3),U⟩,_,_,U,U,_,U,?_⟩;rw[R]at v ⊢;refine Bq (λM=>?_) (λ_=>?_)
 ·exfalso;have:=Bp M;rw[Ah,Ah]at this;lia
 have C:=s3.trans v;exact⟨_,U,q D d _ (s2.trans C) (C _ _ e2) (y.same C)⟩
def dC (F:Fun K "read_things" "read_things" Nd f fd)(T:Bl mg)(M:Md K mg aN aF):Aj P w K mg base CX0 1 f fd ["rows"] PX:=by
 obtain⟨t1,m1⟩:=M.mt;refine F.oq scReadThings ?_;rintro a4 A N s H vs Q E hr⟨a,rs,C,rfl,ha,ra,g,q⟩;have a2:=AB;have a3:=g.fewT;refine⟨_,Ai (AO (i:=1) scReadThings.nd IB) (Ai (CU C2 U (BB (pv 0)) (A0 (i:=2) scReadThings.nd) (Al (AY (AN By (Ap AL (pv 2) Ad (λ_ _=>U)) AC (AJ _)) (Al (Fj (Dh hr) (pv 1) (Ap AL (pv 2) Ad (λ_ _=>U)) (Ap AL (pv 2) Ad (λ_ _=>U)) U)) AX))) (Ai (AY (AN F7 (Be Ow Φ T.len BM (Aa (pv 1) Ac)) (CY (v:=.int 6) Φ m1 ⟨_,U⟩) (AJ _)) B6 AX) (Al (Av (pv 1))))),?_⟩;intro d hd;have s0:Same H (upd H d (.dK [])):=Same.new hd;refine⟨_,U,a,U,⟨_,Y.of (s0 _ _ ha)⟩,DI (K:=K) (a:=a) (xs:=C.map V.ref) (λi o e=>∃D:Option V,o = [some (.ref a),some (.ref d),D]/\Same H e/\e d=some (.dK (shK (rs.take i)))) ⟨none,U,s0,Af⟩ (λi o e _ G=>by obtain⟨_,_,s2,_⟩:=G;exact Y.of (s2 _ _ ha)) ?_ ?_⟩
 ·rintro i x o e j ⟨D,rfl,s2,e2⟩;rw[AU]at j;cases el:C[i]? with
  | none=>rw[el]at j;cases j
  | some l=>
   rw[el]at j;cases j;obtain⟨ro,h1,h2⟩:=ra.get el;have hi:i<rs.length:=(AW.mp h1).1;have a0:rs[i]=ro:=(AW.mp h1).2;have b:rs.take (i+1)=rs.take i++[ro]:=by rw[BN hi,a0]
   have hw:=s2 _ _ h2;obtain⟨X,w1,rest,h⟩:∃X w1 rest,ro.words=X::w1::rest:=by cases ro <;> exact⟨_,_,_,U⟩
   have a1:atI (ro.words.map V.str) ((0:Nat):Int)=some (.str X):=Au (by rw[h];rfl);refine⟨_,U,l,_,_,_,U,U,Y.of hw,a1,U,_,U,?_⟩;refine Bq (λp=>?_) (λp=>?_)
   ·have L:=V.str.inj (Bp p)
    obtain⟨n,W,rfl⟩:∃n s,ro=.th n s:=by
     cases ro with
     | th n s=>exact⟨n,s,U⟩
     | pl n=>cases h;exact absurd L Δ
     | bx n=>cases h;exact absurd L Δ
     | lk n k=>cases h;exact absurd L Δ
    have S:atI ((Ro.th n W).words.map V.str) ((1:Nat):Int)=some (.str n):=Au U;have R:atI ((Ro.th n W).words.map V.str) ((2:Nat):Int)=some (.str W):=Au U
    have I:(shK (rs.take i)).length<=6:=by
     have:(BD rs).length=(BD (rs.take i)).length+(BD (rs.drop i)).length:=by rw[<- AM,<- Gz,Gg]
     unfold shK;rw[Ah];lia
    refine⟨_,U,l,_,_,_,U,U,Y.of hw,R,_,U,_,U,l,_,_,_,U,U,Y.of hw,S,d,_,U,DPut.k (k:=(Sum.inr n:Key)) e2 Ψ,?_⟩
    have c:Bj (shK (rs.take i)) (Sum.inr n:Key)=none:=by
     have m:((rs.take (i+1)).map Ro.name).Nodup:=by rw[FG];exact JC (Hr _ _) g.nd
     rw[b,AR]at m;cases hv:Bj (shK (rs.take i)) (Sum.inr n:Key)with
     | none=>rfl
     | some v=>exfalso;have u:=MD hv;unfold shK at u;rw[Bk]at u;obtain⟨z,hz,ez⟩:=AK.mp u;have B:z.1=n:=DY ez;have y:n∈(rs.take i).map Ro.name:=Fp (AK.mpr ⟨z,hz,B⟩);exact(Dj.mp m).2.2 n y n (AF.mpr U) U
    rw[Er _ c];refine⟨_,U,s2.put hd,?_⟩;rw[Af,b];unfold shK;rw[Gz,AR];rfl
   refine⟨_,U,s2,?_⟩
   have e3:BD (rs.take (i+1))=BD (rs.take i):=by
    rw[b,Gz];cases ro with
    | th n s=>cases h;exact absurd (AV U) p
    | _=>exact BC _
   unfold shK;rw[e3];exact e2
 rintro o e ⟨D,rfl,s2,e2⟩;rw[show(C.map V.ref).length=rs.length by rw[Ah,ra.length],BQ]at e2;have I:(shK rs).length<=6:=by unfold shK;rw[Ah];lia
 refine⟨_,U,d,_,U,e2,_,_,U,U,_,U,?_⟩;refine Bq (λr=>?_) (λ_=>⟨_,U,q d e s2 hd e2⟩);exfalso;have:=Bp r;lia
def eQ (F:Fun K "read_places" "read_places" Nf f fd)(T:Bl mg)(M:Md K mg aN aF):Aj P w K mg base CX0 1 f fd ["rows"] PZ:=by
 obtain⟨t1,m1⟩:=M.mp;refine F.oq scReadPlaces λad A a6 s H vs Q E hr h=>?_;obtain⟨a,rs,ls,rfl,ha,ra,g,q⟩:=h;have hu:=Dh hr;have ab:=AB;have aa:=g.fewP;refine⟨_,Ai (AO (i:=1) scReadPlaces.nd IB) (Ai (CU C2 U (BB (pv 0)) (A0 (i:=2) scReadPlaces.nd) (Ai (AY (AN By (Ap AL (pv 2) Ad (λ_ _=>U)) AC (AJ _)) (Al (Fj hu (pv 1) (Ap AL (pv 2) Ad (λ_ _=>U)) (A6 (Aa Ex (Aa CW Ac))) U)) AX) (Al (AY (AN By (Ap AL (pv 2) Ad (λ_ _=>U)) AC (AJ _)) (Ai (AY (AN By (Be Ow Φ T.len BM (Aa (pv 1) Ac)) Ad (AJ _)) B6 AX) (Al (Fj hu (pv 1) (Ap AL (pv 2) Ad (λ_ _=>U)) (A6 (Aa Ex (Aa (Fk (AN By (Be Cv Φ T.len BM (Aa (pv 2) Ac)) Ad (AJ _)) (Ap AL (pv 2) Ad (λ_ _=>U)) CW) Ac))) U))) AX)))) (Ai (AY (PW.pt (DE (AN By (Be Ow Φ T.len BM (Aa (pv 1) Ac)) Ad (AJ _)) (EW (AN F7 (Be Ow Φ T.len BM (Aa (pv 1) Ac)) (CY (v:=.int 6) Φ m1 ⟨_,U⟩) (AJ _))))) B6 AX) (Al (Av (pv 1))))),?_⟩;intro d hd;have s0:Same H (upd H d (.dK [])):=Same.new hd;refine⟨_,U,a,U,⟨_,Y.of (s0 _ _ ha)⟩,DI (K:=K) (a:=a) (λi σ j=>∃(v2:Option V) (kvs:List (Key×V)),σ = [some (.ref a),some (.ref d),v2]/\Same H j/\j d=some (.dK kvs)/\PlOk j (plc (rs.take i)) kvs) ⟨none,[],U,s0,Af,.nil⟩ (λi σ j _ a5=>by obtain⟨_,_,_,s2,_⟩:=a5;exact Y.of (s2 _ _ ha)) ?_ ?_⟩
 ·rintro i x σ j W ⟨v2,kvs,rfl,s2,e2,o⟩;rw[AU]at W;cases el:ls[i]? with
  | none=>rw[el]at W;cases W
  | some l=>
   rw[el]at W;cases W;obtain⟨c,h1,h2⟩:=ra.get el;have hi:=(AW.mp h1).1;have a0:=(AW.mp h1).2;have D:rs.take (i+1)=rs.take i++[c]:=by rw[BN hi,a0]
   have C:=s2 _ _ h2;obtain⟨w0,rest,y⟩:∃w0 rest,c.words=w0::c.name::rest:=by cases c <;> exact⟨_,_,U⟩
   have I:atI (c.words.map V.str) ((0:Nat):Int)=some (.str w0):=Au (by rw[y];rfl);have G:atI (c.words.map V.str) ((1:Nat):Int)=some (.str c.name):=Au (by rw[y];rfl);have a3:=o.length
   have a8:(plc (rs.take i)).length<=6:=by
    have:(plc rs).length=(plc (rs.take i)).length+(plc (rs.drop i)).length:=by rw[<- AM,<- F3,Gg]
    lia
   have u:Bj kvs (Sum.inr c.name:Key)=none:=by
    refine o.none λz=>?_;have X:((rs.take (i+1)).map Ro.name).Nodup:=by rw[FG];exact JC (Hr _ _) g.nd
    rw[D,AR]at X;exact(Dj.mp X).2.2 _ (LJ z) c.name (AF.mpr U) U
   have put:∀(p:Str×Bool×Option Str) (m:Addr) (H3:Hp),plc [c]=[p]->p.1=c.name->j m=none->H3=upd j m (.tup [.bl p.2.1,LD p.2.2])->Same H (upd H3 d (.dK (kvs++[(Sum.inr c.name,.ref m)]))) /\
     PlOk (upd H3 d (.dK (kvs++[(Sum.inr c.name,.ref m)]))) (plc (rs.take (i+1))) (kvs++[(Sum.inr c.name,.ref m)]):=λp m H3 ep en ht e3=>by
    subst e3
    have s3:Same j (upd j m (.tup [.bl p.2.1,LD p.2.2])):=Same.new ht
    refine⟨(s2.trans s3).put hd,?_⟩
    rw[D,F3,ep,<- en]
    refine PlOk.snoc (by rw[Ao (A1 e2 ht).symm];exact Af) (o.same λb xs e=>?_)
    rw[Ao (Ba e e2 nofun)]
    exact s3 _ _ e
   refine⟨_,U,l,_,_,_,U,U,Y.of C,I,U,_,U,?_⟩;refine Bq (λhe=>?_) (λhe=>?_)
   ·have N:=V.str.inj (Bp he)
    obtain⟨n,rfl⟩:∃n,c=.pl n:=by
     cases c with
     | pl n=>exact⟨n,U⟩
     | th n s=>cases y;exact absurd N Δ
     | bx n=>cases y;exact absurd N Δ
     | lk n k=>cases y;exact absurd N Δ
    refine⟨Ξ,λm r=>?_⟩;have s3:Same j (upd j m (.tup [.bl false,.non])):=Same.new r;obtain⟨R,S⟩:=put (n,false,none) m _ U U r U;refine⟨_,U,_,U,l,_,_,_,U,U,Y.of (s3 _ _ C),G,d,_,U,DPut.k (k:=(Sum.inr (Ro.pl n).name:Key)) (s3 _ _ e2) Ψ,?_⟩;rw[Er _ u];have ae:=R;have a1:(upd (upd j m (.tup [.bl false,.non])) d (.dK (kvs++[(Sum.inr (Ro.pl n).name,.ref m)]))) l=some (.lst ((Ro.pl n).words.map V.str)):=by rw[Ao (Ba C e2 (by intro z;cases z))];exact s3 _ _ C
    refine⟨_,U,l,_,_,_,U,U,Y.of a1,I,U,_,U,?_⟩;refine Bq (λL=>?_) (λ_=>⟨_,_,U,R,Af,S⟩);exfalso;cases y;exact absurd (V.str.inj (Bp L)) Δ
   refine⟨_,U,l,_,_,_,U,U,Y.of C,I,U,_,U,?_⟩;refine Bq (λL=>?_) (λL=>?_)
   ·have N:=V.str.inj (Bp L)
    have B:c.boxed=true:=by
     cases c with
     | pl n=>cases y;exact absurd N Δ
     | th n s=>cases y;exact absurd N Δ
     | bx n=>rfl
     | lk n k=>rfl
    have a4:=g.floor (by rw[<- a0,List.getElem_cons_drop,Gg]) B;refine⟨_,U,d,_,U,e2,U,_,U,?_⟩;refine Bq (λhz=>?_) (λ_=>?_)
    ·exfalso;have:=V.int.inj (Bp hz);exact a4 (Mp.mp Ψ)
    have ac:(c.words.map V.str).length=c.words.length:=Ah ..;refine⟨_,U,_,_,U,.inl ⟨_,Y.of C,U⟩,U,_,U,?_⟩;refine Bq (λh3=>?_) (λh3=>?_)
    ·obtain⟨n,k,rfl⟩:∃n k,c=.lk n k:=by
      cases c with
      | lk n k=>exact⟨n,k,U⟩
      | bx n=>exact absurd (show((2:Nat):Int)=3 from V.int.inj (Bp h3)) Ξ
      | pl n=>cases B
      | th n s=>cases B
     refine⟨_,U,l,_,_,_,U,U,Y.of C,Au U,by show 2<=sizeLine;decide,λm r=>?_⟩;have s3:Same j (upd j m (.tup [.bl true,.str k])):=Same.new r;obtain⟨R,S⟩:=put (n,true,some k) m _ U U r U;refine⟨_,U,_,U,l,_,_,_,U,U,Y.of (s3 _ _ C),G,d,_,U,DPut.k (k:=(Sum.inr (Ro.lk n k).name:Key)) (s3 _ _ e2) Ψ,?_⟩;rw[Er _ u];exact⟨_,_,U,R,Af,S⟩
    obtain⟨n,rfl⟩:∃n,c=.bx n:=by
     cases c with
     | bx n=>exact⟨n,U⟩
     | lk n k=>exact absurd Φ h3
     | pl n=>cases B
     | th n s=>cases B
    refine⟨Ξ,λm r=>?_⟩;have s3:Same j (upd j m (.tup [.bl true,.non])):=Same.new r;obtain⟨R,S⟩:=put (n,true,none) m _ U U r U;refine⟨_,U,_,U,l,_,_,_,U,U,Y.of (s3 _ _ C),G,d,_,U,DPut.k (k:=(Sum.inr (Ro.bx n).name:Key)) (s3 _ _ e2) Ψ,?_⟩;rw[Er _ u];exact⟨_,_,U,R,Af,S⟩
   refine⟨_,kvs,U,s2,e2,?_⟩
   have:plc (rs.take (i+1))=plc (rs.take i):=by
    rw[D,F3];cases c with
    | th n s=>exact BC _
    | pl n=>cases y;exact absurd (AV U) he
    | bx n=>cases y;exact absurd (AV U) L
    | lk n k=>cases y;exact absurd (AV U) L
   rw[this];exact o
 rintro σ j ⟨v2,kvs,rfl,s2,e2,o⟩;rw[show(ls.map V.ref).length=rs.length by rw[Ah,ra.length],BQ]at o;have a3:=o.length;obtain⟨n,t,a7⟩:=g.first;have a9:0<(plc rs).length:=by rw[a7];exact Nat.zero_lt_succ _
 refine⟨_,U,d,_,U,e2,U,_,U,?_⟩;refine Bq (λhz=>?_) (λ_=>?_)
 ·exfalso;have:=V.int.inj (Bp hz);lia
 refine⟨_,U,d,_,U,e2,_,_,U,U,_,U,?_⟩;refine Bq (λa2=>?_) (λ_=>⟨_,U,q d kvs j s2 hd e2 o⟩);exfalso;have:=Bp a2;lia
def hR (F:Fun K "check_keys" "check_keys" NG f fd):Aj P w K mg base CX0 1 f fd ["places", "shapes"] QK:=by
 refine F.oq scCheckKeys λa0 A D s H vs Q E X h=>?_;obtain⟨c,I,rs,kvs,rfl,d,r,N,ne,g,q⟩:=h;have R:=Dh X;refine⟨_,Al (CU C2 U (bN (Vh Jn PySem.F.slot_dict_values PySem.F.type_dict_values mI (pv 0))) (A0 (i:=2) scCheckKeys.nd) (Ai (AO (i:=3) scCheckKeys.nd (Ap Bf (pv 2) Ad (λ_ _=>U))) (Al (AY (PW.pt (U2 (AN Rz (pv 3) CW (AJ _)) (U1 (Kw (NV R (pv 3) (pv 1)))))) B6 AX)))),_,U,.inr (.inr (.inl ⟨U,.inl ⟨_,d⟩⟩)),c,kvs,U,U,d,λv L=>?_⟩;refine⟨v,c,kvs,U,Af,by rw[Ao (A1 d L)];exact d,λo=>?_⟩;have m:∀b u,H b=some u->b≠c->(upd (upd H v (HV v c)) c (.frz o (.dK kvs))) b=some u:=λb u e S=>by rw[Ao S,Ao (A1 e L)];exact e
 have e1:(upd (upd H v (HV v c)) c (.frz o (.dK kvs))) c=some (.frz o (.dK kvs)):=Af;generalize (upd (upd H v (HV v c)) c (.frz o (.dK kvs)))=H2 at m e1 ⊢;refine rA (a:=c) (o:=o) (λ_ n l=>∃B G:Option V,n = [some (.ref c),some (.ref I),B,G]/\l=H2) ⟨none,none,U,U⟩ (λi n l _ C=>by obtain⟨_,_,_,e⟩:=C;rw[e];exact e1) ?_ ?_
 ·rintro i k x n l hx ⟨B,G,rfl,rfl⟩;obtain⟨p,t,hp,rfl,T⟩:=(r.same λb xs e=>m _ _ e (Ba e d (by intro z;cases z))).get hx;refine⟨_,U,t,_,_,_,U,U,SqT.of T,Au U,?_⟩;cases hk:p.2.2 with
  | none=>refine⟨_,U,U,_,U,?_⟩;refine A7 ?_;exact A7 ⟨_,_,U,U⟩
  | some key=>
   refine⟨_,U,U,_,U,?_⟩;refine Bw ?_;refine⟨_,U,_,U,I,_,U,DGet.k (k:=(Sum.inr key:Key)) (m _ _ N ne.symm),_,U,?_⟩;have j:=g.keys p (Cc hp) key hk;obtain⟨y,M,ey⟩:=AK.mp j;have W:(Bj (shK rs) (Sum.inr key:Key)).isSome=true:=by rw[<- HY,Hn];exact⟨(Sum.inr y.1,.str y.2),AK.mpr ⟨y,M,U⟩,AV (by rw[ey])⟩
   rw[W];exact A7 ⟨_,_,U,U⟩
 rintro n l ⟨B,G,rfl,rfl⟩;exact q o _ m e1
def fZ (F:Fun K "__init__" "Room.__init__" QZ f fd)(L:Cl K C)(R:Df K mg "read_rows" Ii ["lines"] fR dR)(D:Df K mg "read_places" Nf ["rows"] fP dP)(y:Df K mg "read_things" Nd ["rows"] fT dT)(M:Df K mg "check_keys" NG ["places", "shapes"] fK dK)
  (GR:Aj P w K mg base CX0 3 fR dR ["lines"] PY)(GP:Aj P w K mg base CX0 1 fP dP ["rows"] PZ)(GT:Aj P w K mg base CX0 1 fT dT ["rows"] PX)(GK:Aj P w K mg base CX0 1 fK dK ["places", "shapes"] QK):Aj P w K mg base CX0 4 f fd ["self", "lines"] (Qp C):=by
 refine F.oq scInit λa0 A I s H vs Q E hr h=>?_
 obtain⟨x,p,a,rs,rfl,N,ha,g,B,q⟩:=h
 have c:Room 1 _:=hr.mono Ξ
 refine⟨_,Ai (AO (i:=2) scInit.nd (Cj GR hr Φ R.m R.F.kp R.b .nil Aq (Aa (pv 1) Ac))) (Ai (AO (i:=3) scInit.nd (Cj GP c Φ D.m D.F.kp D.b .nil Aq (Aa (pv 2) Ac))) (Ai (AO (i:=4) scInit.nd (Cj GT c Φ y.m y.F.kp y.b .nil Aq (Aa (pv 2) Ac))) (Ai (CV (Cj GK c Φ M.m M.F.kp M.b .nil Aq (Aa (pv 3) (Aa (pv 4) Ac)))) (Ai (DF (pv 0) (pv 3) U) (Al (DF (pv 0) (pv 4) U)))))),?_⟩
 refine⟨_,U,a,rs,U,ha,g,B,λl S H1 r el T=>?_⟩
 refine⟨_,U,l,rs,S,U,el,T,g,λd1 kvs H2 s2 f1 e1 d=>?_⟩
 refine⟨_,U,l,rs,S,U,s2 _ _ el,T.same s2,g,λd2 H3 s3 f2 e2=>?_⟩
 have n:d1≠d2:=A1 e1 f2
 refine⟨_,U,_,U,d1,d2,rs,kvs,U,s3 _ _ e1,d.same (λb xs e=>s3 _ _ e),e2,n,g,λo X v e4=>?_⟩
 have j:=(r.trans s2).trans s3
 have m:=j _ _ N
 have W:x≠d1:=λz=>by have:=r _ _ N;rw[z,f1]at this;cases this
 have x2:x≠d2:=λz=>by have:=(r.trans s2) _ _ N;rw[z,f2]at this;cases this
 refine⟨_,U,_,U,x,C,p,[],U,v _ _ m W,L.cl,L.nP,Ξ,?_⟩
 refine⟨_,U,_,U,x,C,p,_,U,Af,L.cl,L.nS,(by show 1<1000;decide),?_⟩
 rw[XX]
 have all:∀b u,X b=some u->b≠x->(upd X x (.ins C p (F2 d1 d2))) b=some u:=λb u e G=>by rw[Ao G];exact e
 refine q _ (λb u e G=>all b u (v b u (j _ _ e) ?_) G) ⟨p,d1,d2,o,kvs,Af,all _ _ e4 W.symm,?_,all _ _ (v _ _ e2 n.symm) x2.symm⟩
 ·intro z;have:=r _ _ e;rw[z,f1]at this;cases this
 refine d.same λb xs e=>all _ _ (v _ _ (s3 _ _ e) (Ba e e1 nofun)) ?_
 exact Ba (s3 _ _ e) m nofun
def eR (F:Fun K "places" "Room.places" QY f fd)(L:Cl K C)(T:Bl mg):Aj P w K mg base CX0 1 f fd ["self"] (FU C):=by refine F.oq Zk ?_;rintro e A a s H vs Q E m⟨x,rs,rfl,R,q⟩;obtain⟨j,c,h,o,kvs,d,g,i,n⟩:=R.ex;refine⟨_,Al (Av (CG (Ou U) Φ T.list DX (Aa (CA (pv 0) U) Ac))),_,U,x,C,j,_,_,U,d,L.cl,L.nP,UJ c h,c,kvs,U,.inr ⟨o,g⟩,λl b=>?_⟩;exact q l _ (Same.new b) b (by rw[Af,i.keys])
def Rf (b a:Addr):(F2 b a).lookup ("told_shapes" : Str)=some (.ref a):=by unfold F2;rw[A3,As rfl]
abbrev C4:=Str×Bool×Option Str
theorem UA :∀{l:List (Str×Str)},(l.map (·.1)).Nodup->x∈l->Bj (l.map λy=>((Sum.inr y.1:Key),V.str y.2)) (Sum.inr x.1:Key)=some (.str x.2)
 | y::l,nd,h=>by
  have a:=Du.mp (show((_::_:List Str)).Nodup from nd);rcases(Ar.mp h)with z | z
  ·subst z;exact HX U
  rw[Bg,Ep (λq=>a.1 (AK.mpr ⟨x,z,(DY q).symm⟩))];exact UA a.2 z
theorem Rg :∀{xs:List V}{ys:List Str},RdVs H xs (ys.map PyData.str)->xs=ys.map V.str
 | [],[],_=>rfl
 | _::_,[],h=>by cases h
 | [],_::_,h=>by cases h
 | x::xs,y::ys,h=>by
  cases h with
  | cons a b=>cases a;rw[Rg b];rfl
def Sy {ps:List Str}(b:ps.Nodup){i:Nat}{x:Str}(h:ps[i]? = some x):∀m,m<i->ps[m]?≠some x:=λm d e=>by obtain⟨c,a⟩:=AW.mp h;obtain⟨e1,e2⟩:=AW.mp e;have:=(Ho b).mp (e2.trans a.symm);lia
def RZ {H:Hp}{xs:List V}{e:List (List Str)}(r:RdVs H xs (e.map dH)){i:Nat}{f:List Str}(h:e[i]? = some f):∃t,xs[i]? = some (.ref t)/\H t=some (.tup (f.map V.str)):=by
 have g:=r.length;rw[Ah]at g;have j:=(AW.mp h).1;obtain⟨y,c⟩:∃y,xs[i]? = some y:=⟨xs[i],Ay Ψ⟩;obtain⟨d,b,rd⟩:=r.get c;rw[AU,h]at b;have a:=Bh b;subst a;cases rd with
 | tup eh rh=>rw[Rg rh]at eh;exact⟨_,c,eh⟩
def LU (h:RdV H v (dO o)):v=oV o:=by
 cases o with
 | none=>cases h;rfl
 | some x=>cases h;rfl
inductive Ie (C:Addr)(vs:List V)(H:Hp)(Q:VK)(E0_:XK):Prop
 | mk (x:Addr) (rs:List Ro) (v:V) (W:Wl) (i:Nat) (p:C4) (hp:List Str) (c0:vs=[.ref x,v,.str p.1]) (c1:RoomAt C H x rs) (c2:Good rs) (c3:RdV H v (dW W)) (c4:(plc rs)[i]? = some p) (c5:W.heaps[i]? = some hp) (c6:∀(t:Addr) (H':Hp),Same H H'->H t=some (.tup (hp.map V.str))->Q (.ref t) H'):Ie C vs H Q E0_
inductive MU (C:Addr)(vs:List V)(H:Hp)(Q:VK)(E0_:XK):Prop
 | mk (x:Addr) (rs:List Ro) (v:V) (W:Wl) (i:Nat) (p:C4) (l:Str) (c0:vs=[.ref x,v,.str p.1]) (c1:RoomAt C H x rs) (c2:Good rs) (c3:RdV H v (dW W)) (c4:(plc rs)[i]? = some p) (c5:W.lids[i]? = some l) (c6:∀H':Hp,Same H H'->Q (.str l) H'):MU C vs H Q E0_
abbrev EY:List Str:=["room", "world", "place"]
abbrev kS:List Str:=EY
def ZC:Aw kS EY (Ak GH):=AA
abbrev GW:List Str:=["room", "world", "place"]
abbrev jP:List Str:=GW
def Zq:Aw jP GW (Ak Ka):=AA
theorem Jb {a:Type}{g:a->PyData}:∀{xs:List a},(∀x∈xs,(g x).canLay0=true)->PyData.canLayAll0 (xs.map g)=true
 | [],_=>by rw[FF,PyData.canLayAll0]
 | x::xs,h=>by rw[Bg,PyData.canLayAll0,h x Bb,Jb λy b=>h y (Bc _ b)];rfl
theorem Oq {a:Type}{g:a->PyData}{n:Nat}:∀{xs:List a},(∀x∈xs,(g x).depth<=n)->PyData.depthAll (xs.map g)<=n
 | [],_=>by rw[FF,PyData.depthAll];exact Bt _
 | x::xs,h=>by have c:=h x Bb;have d:=Oq λy b=>h y (Bc _ b);rw[Bg,PyData.depthAll];lia
def Oe (h:strOk x=true):(PyData.str x).canLay0=true:=by rw[PyData.canLay0];exact h
def RM (h:∀x∈xs,strOk x=true):(dH xs).canLay0=true:=by unfold dH;rw[PyData.canLay0];exact Jb λx a=>Oe (h x a)
def Sd (xs:List Str):PyData.depthAll (xs.map PyData.str)<=0:=Oq λx _=>by rw[PyData.depth];exact An 0
def Se (xs:List Str):(dH xs).depth<=1:=by unfold dH;rw[PyData.depth];have:=Sd xs;lia
def M8 (a:d.canLay0=true)(b:d.depth<=64):shaped d=true:=by unfold shaped;rw[a,AV b];rfl
def FV {xs:List Str}(h:∀x∈xs,strOk x=true):shaped (.list (xs.map PyData.str))=true:=by
 refine M8 ?_ ?_
 ·rw[PyData.canLay0];exact Jb λx a=>Oe (h x a)
 rw[PyData.depth];have:=Sd xs;lia
def Y7 (h:Ok W):shaped (dW W)=true:=by
 have c:(dO W.hand).canLay0=true:=by
  cases hh:W.hand with
  | none=>decide +kernel
  | some x=>exact Oe (h.hand x hh).1
 have e:(dO W.hand).depth<=0:=by
  cases W.hand with
  | none=>rw[dO,PyData.depth];exact An 0
  | some x=>rw[dO,PyData.depth];exact An 0
 have d:=Oq (xs:=W.heaps) λx _=>Se x;have f:=Sd W.lids;refine M8 ?_ ?_
 ·unfold dW;rw[PyData.canLay0,PyData.canLayAll0,PyData.canLayAll0,PyData.canLayAll0,PyData.canLayAll0,c,PyData.canLay0,Jb (g:=dH) (xs:=W.heaps) λx a=>RM λy b=>(h.heaps x a y b).1,PyData.canLay0,(Jb (g:=PyData.str) (xs:=W.lids) λx a=>Oe (h.lids x a).1)];rfl
 unfold dW;rw[PyData.depth,PyData.depthAll,PyData.depthAll,PyData.depthAll,PyData.depthAll,PyData.depth,PyData.depth];lia
def placesK:List (Key×V):=[(Sum.inr "take",.int 1),(Sum.inr "put",.int 1),(Sum.inr "toss",.int 1),(Sum.inr "open",.int 1),(Sum.inr "shut",.int 1),(Sum.inr "lock",.int 1),(Sum.inr "unlock",.int 1),(Sum.inr "tip",.int 2),(Sum.inr "shake",.int 1)]
structure Dd (P:Program)(w:World)(K:W.Frag)(mg:Str->Option Value)(aP:Addr):Prop where
 pm:mg "PLACES" = some (.ref aP)
 pd:KD P w K aP placesK
def EX (a:Str):V:=(Bj placesK (Sum.inr a:Key)).getD .non
def XU {k:Key} (h:Bj kvs k=some v):∃c∈kvs,c.2=v:=by
 induction kvs with
 | nil=>cases h
 | cons p r ih=>
  by_cases e:p.1=k
  ·rw[HX e]at h;exact⟨p,Bb,Bh h⟩
  rw[Ep e]at h;obtain⟨c,a,b⟩:=ih h;exact⟨c,Bc _ a,b⟩
def bL (a:Str):EX a=.non\/EX a=.int 1\/EX a=.int 2:=by
 unfold EX;cases h:Bj placesK (Sum.inr a:Key)with
 | none=>exact .inl U
 | some v=>obtain⟨b,c,e⟩:=XU h;have:=(by decide +kernel:∀b∈placesK,b.2=V.int 1\/b.2=V.int 2) b c;rw[e]at this;exact .inr this
def uE:bootBuiltins "ValueError" = some (.type "ValueError"):=by decide +kernel
def XZ:typeOf (.type "ValueError")=pure (.type "type"):=by kernel_rfl
def Rp (x:Str):Prop:=(reprText x).length<=100000
structure Wd (line:Str)(ws:List Str):Prop where
 e:line=Txt.join blank ws
 ne:ws≠[]
 nb:∀w∈ws,32∉cs w
def Wd.split {ws:List Str}(h:Wd line ws):Txt.split line blank=ws:=by rw[h.e];exact Pz h.ne h.nb
def LX (rs:List Ro)(a:Str)(ps:List Str):Bool:=decide (EX a=V.int (ps.length:Int)) && ((ps.all λp=>decide (p∈(plc rs).map (·.1))) && decide ps.Nodup)
abbrev IG:List Str:=["room", "line"]
abbrev jF:List Str:=BG IG ["words", "places"]
def scReadDeed:Aw jF IG (Ak Ik):=AA
inductive MX (vs:List V)(H:Hp)(Q:VK)(E0_:XK):Prop
 | mk (v:V) (W:Wl) (c0:vs=[v]) (c1:RdV H v (dW W)) (c2:Q (.bl W.hand.isNone) H):MX  vs H Q E0_
abbrev GY:List Str:=["world"]
abbrev kN:List Str:=GY
def Zz:Aw kN GY (Ak Kj):=AA
inductive M3 (C:Addr)(vs:List V)(H:Hp)(Q:VK)(E0_:XK):Prop
 | mk (x:Addr) (rs:List Ro) (e:Addr) (xs:List V) (i:Nat) (p:C4) (y:V) (c0:vs=[.ref x,.ref e,.str p.1,y]) (c1:RoomAt C H x rs) (c2:Good rs) (c3:H e=some (.tup xs)) (c4:i<xs.length) (c5:xs.length<=100) (c6:(plc rs)[i]? = some p) (c7:∀(t:Addr) (H':Hp),Same H H'->H' t=some (.tup (xs.set i y))->Q (.ref t) H'):M3 C vs H Q E0_
abbrev G1:List Str:=["room", "entries", "place", "entry"]
abbrev lW:List Str:=BG G1 ["spot"]
def scChanged:Aw lW G1 (Ak Kr):=AA
def UF (n d:Nat):HT.sIx n d (some (-1))=n-1:=by show(if (-1:Int)<0 then((-1:Int)+(n:Int)).toNat else min (-1:Int).toNat n)=n-1;rw[As Ξ];lia
structure Pt (rs:List Ro)(W:Wl)(i:Nat)(p:C4)(hp:List Str)(l:Str):Prop where
 pl:(plc rs)[i]? = some p
 he:W.heaps[i]? = some hp
 li:W.lids[i]? = some l
 few:W.heaps.length<=100
 len:hp.length<=100
def Pt.of (g:Good rs)(b:Fw rs W)(sz:Sz W (plc rs).length)(h:i<(plc rs).length):∃p d l,Pt rs W i p d l:=by
 have a:i<W.heaps.length:=by have:=sz.1;lia
 have c:i<W.lids.length:=by have:=sz.2;lia
 have e:=g.fewP;exact⟨_,_,_,Ay h,Ay a,Ay c,by have:=sz.1;lia,(b.ok g sz).few _ (Cb a)⟩
inductive MW (C:Addr)(vs:List V)(H:Hp)(Q:VK)(E0_:XK):Prop
 | mk (x:Addr) (rs:List Ro) (v:V) (W:Wl) (i:Nat) (p:C4) (l:Str) (c0:vs=[.ref x,v,.str p.1]) (c1:RoomAt C H x rs) (c2:Good rs) (c3:RdV H v (dW W)) (c4:(plc rs)[i]? = some p) (c5:W.lids[i]? = some l) (c6:∀H':Hp,Same H H'->Q (.bl (decide (l = "open"))) H'):MW C vs H Q E0_
abbrev GX:List Str:=["room", "world", "place"]
abbrev kL:List Str:=GX
def Zw:Aw kL GX (Ak Kh):=AA
theorem Rh :∀{xs:List V}{ds:List PyData}(i:Nat) {x:V}{d:PyData},RdVs H xs ds->RdV H x d->RdVs H (xs.set i x) (ds.set i d)
 | _,_,_,_,_,.nil,_=>.nil
 | _,_,0,_,_,.cons _ b,r=>.cons r b
 | _,_,i+1,_,_,.cons a b,r=>.cons a (Rh i b r)
def ET (W:Wl)(i:Nat)(hp:List Str)(l:Str):List Wl:=if W.hand=none/\l = "open" /\ hp≠[]then [⟨hp.getLast?,W.heaps.set i hp.dropLast,W.lids⟩]else []
def LK (t1 t2 t3 t4:Addr):List (Key×V):=[(Sum.inr "open",.ref t1),(Sum.inr "shut",.ref t2),(Sum.inr "lock",.ref t3),(Sum.inr "unlock",.ref t4)]
structure Dl (P:Program)(w:World)(K:W.Frag)(mg:Str->Option Value)(aL t1 t2 t3 t4:Addr):Prop where
 lm:mg "LIDS_deeds" = some (.ref aL)
 ld:KD P w K aL (LK t1 t2 t3 t4)
 k1:∀H:Hp,SqT K H t1 [V.str "shut",V.str "open"]
 k2:∀H:Hp,SqT K H t2 [V.str "open",V.str "shut"]
 k3:∀H:Hp,SqT K H t3 [V.str "shut",V.str "locked"]
 k4:∀H:Hp,SqT K H t4 [V.str "locked",V.str "shut"]
def nV:List Str:=["open", "shut", "lock", "unlock"]
inductive MS (C:Addr)(vs:List V)(H:Hp)(Q:VK)(E0_:XK):Prop
 | mk (x:Addr) (rs:List Ro) (line a:Str) (ps:List Str) (c0:vs=[.ref x,.str line]) (c1:RoomAt C H x rs) (c2:Wd line (a::ps)) (c3:line.length<=1000) (c4:ps.length<=100) (c5:LX rs a ps=true) (c6:∀(l:Addr) (H':Hp),Same H H'->H' l=some (.lst ((a::ps).map V.str))->Q (.ref l) H'):MS C vs H Q E0_
abbrev IC:List Str:=["room", "line", "world"]
abbrev iT:List Str:=BG IC ["words"]
def scTurns:Aw iT IC (Ak J3):=AA
def WE {rs:List Ro}{a:Str}{i:Nat}{p:C4}(b:(plc rs)[i]? = some p)(c:EX a=V.int 1):LX rs a [p.1]=true:=by
 unfold LX;rw[show decide (EX a=V.int (([p.1].length:Nat):Int))=true from AV c];rw[show([p.1].all λp=>decide (p∈(plc rs).map (·.1)))=true from ?_]
 ·rw[AV Θ];rfl
 rw[E8];intro y d;rw[AF.mp d];exact AV (HM (Cc b))
def Of (t:Str)(W:Wl)(i:Nat):Wl:=⟨none,W.heaps.set i (W.heaps.getD i []++[t]),W.lids⟩
def putF (W:Wl)(i:Nat)(_:List Str)(l:Str):List Wl:=match W.hand with
 | some t=>if l = "open" then [Of t W i]else []
 | none=>[]
inductive J1 (C:Addr)(F:Wl->Nat->List Str->Str->List Wl)(vs:List V)(H:Hp)(Q:VK)(E0_:XK):Prop
 | mk (x:Addr) (rs:List Ro) (v:V) (W:Wl) (i:Nat) (p:C4) (hp:List Str) (l:Str) (c0:vs=[.ref x,v,.str p.1]) (c1:RoomAt C H x rs) (c2:Good rs) (c3:RdV H v (dW W)) (c4:Pt rs W i p hp l) (c5:(∀h∈W.heaps,h.length<=100)) (c6:∀(lw:Addr) (us:List V) (H':Hp),Same H H'->H lw=none->H' lw=some (.lst us)->RdVs H' us ((F W i hp l).map dW)->Q (.ref lw) H'):J1 C F vs H Q E0_
inductive QO (C:Addr)(vs:List V)(H:Hp)(Q:VK)(E0_:XK):Prop
 | mk (x:Addr) (rs:List Ro) (v:V) (W:Wl) (i:Nat) (p:C4) (l:Str) (c0:vs=[.ref x,v,.str p.1]) (c1:RoomAt C H x rs) (c2:Good rs) (c3:RdV H v (dW W)) (c4:(plc rs)[i]? = some p) (c5:W.lids[i]? = some l) (c6:∀H':Hp,Same H H'->Q (.bl (W.hand.isSome && decide (l = "open"))) H'):QO C vs H Q E0_
abbrev Lu:List Str:=["room", "world", "place"]
abbrev lX:List Str:=Lu
def ZV:Aw lX Lu (Ak NH):=AA
inductive Qi (C:Addr)(vs:List V)(H:Hp)(Q:VK)(E0_:XK):Prop
 | mk (x:Addr) (rs:List Ro) (v:V) (W:Wl) (i:Nat) (p:C4) (hp:List Str) (l t:Str) (c0:vs=[.ref x,v,.str p.1]) (c1:RoomAt C H x rs) (c2:Good rs) (c3:RdV H v (dW W)) (c4:Pt rs W i p hp l) (c5:W.hand=some t) (c6:∀(v':V) (H':Hp),Same H H'->RdV H' v' (dW (Of t W i))->Q v' H'):Qi C vs H Q E0_
abbrev KP:List Str:=["room", "world", "place"]
abbrev jR:List Str:=BG KP ["heap"]
def scLaid:Aw jR KP (Ak Nn):=AA
abbrev KG:List Str:=["room", "world", "place"]
abbrev jG:List Str:=KG
def Zj:Aw jG KG (Ak Nh):=AA
abbrev KC:List Str:=["room", "world", "place"]
abbrev iU:List Str:=BG KC ["heap"]
def scTake:Aw iU KC (Ak Nb):=AA
abbrev KL:List Str:=["room", "world", "word", "place"]
abbrev jL:List Str:=KL
def Zn:Aw jL KL (Ak Nk):=AA
def N6:List Str:=["take", "put", "toss", "tip", "shake"]
def mQ {w:Str}(h:w∈N6):w = "take" \/ w = "put" \/ w = "toss" \/ w = "tip" \/ w = "shake" := by simpa only [N6,Ar,AS,AQ] using h
def ER (w a b:Str):List Str:=if w = "tip" then [w,a,b]else [w,a]
def nU {b f c d:Addr}{w:Str}(h:w∈N6):Bj (LK b f c d) (Sum.inr w:Key)=none:=by
 unfold LK;have a:∀z∈nV,z≠w:=by rcases mQ h with e | e | e | e | e <;> (rw[e];decide +kernel)
 rw[Ep (Og (a "open" Δ)),Ep (Og (a "shut" Δ)),Ep (Og (a "lock" Δ)),Ep (Og (a "unlock" Δ))];rfl
def Pt.getD (h:Pt rs W i p hp l):W.heaps.getD i []=hp:=by rw[Cy,h.he];rfl
def gB (F:Fun K "heap_in" "heap_in" GH f fd)(L:Cl K C)(a:Binds K d_places ["self"] [])(d:B5 K C "places" f_places)(b:Aj P w K mg base CX0 1 f_places d_places ["self"] (FU C)):Aj P w K mg base CX0 2 f fd EY (Ie C):=by
 refine F.oq ZC ?_;rintro a0 A h s H vs Q E j⟨x,rs,v,W,i,p,hp,rfl,R,g,rv,G,u,q⟩;obtain⟨I,M,z,o,kvs,X,h2,h3,h4⟩:=R.ex;obtain⟨c,v0,D,cl,xs,ys,rfl,T,r0,N,y,ec,rc⟩:=parts rv;obtain⟨t,S,B⟩:=RZ y u;have e:((plc rs).map (·.1))[i]? = some p.1:=by rw[AU,G];rfl
 refine⟨_,(Al (Av (Ap Bf (Ap Bf (pv 1) Ad (λ_ _=>U)) (Dg OX JI OW RI (Cr (pv 0) L.cl d b j a .nil Aq) (Aa (pv 2) Ac)) (λ_ _=>U)))),?_⟩;refine⟨_,U,c,_,_,_,U,U,SqT.of T,Au U,_,U,x,I,_,U,X,DQ M z Δ Δ,x,rs,U,R,λl r n fl m=>?_⟩;exact⟨.inl ⟨U,_,Y.of m⟩,_,U,l,_,_,i,U,U,m,e,Sy g.ndP e,D,_,_,_,U,U,SqT.of (n _ _ N),Au S,q t r n B⟩
def fM (F:Fun K "lid_on" "lid_on" Ka f fd)(L:Cl K C)(a:Binds K d_places ["self"] [])(d:B5 K C "places" f_places)(b:Aj P w K mg base CX0 1 f_places d_places ["self"] (FU C)):Aj P w K mg base CX0 2 f fd GW (MU C):=by
 refine F.oq Zq ?_;rintro X A h s H vs Q E j⟨x,rs,v,W,i,p,l,rfl,R,g,rv,B,u,q⟩;obtain⟨D,G,y,o,kvs,N,h2,h3,h4⟩:=R.ex;obtain⟨c,v0,hb,cl,xs,ys,rfl,M,r0,eb,rb,S,I⟩:=parts rv;have m:=Rg I;subst m;have T:(W.lids.map V.str)[i]? = some (.str l):=by rw[AU,u];rfl
 have e:((plc rs).map (·.1))[i]? = some p.1:=by rw[AU,B];rfl
 refine⟨_,(Al (Av (Ap Bf (Ap Bf (pv 1) Ad (λ_ _=>U)) (Dg OX JI OW RI (Cr (pv 0) L.cl d b j a .nil Aq) (Aa (pv 2) Ac)) (λ_ _=>U)))),?_⟩;refine⟨_,U,c,_,_,_,U,U,SqT.of M,Au U,_,U,x,D,_,U,N,DQ G y Δ Δ,x,rs,U,R,λz r n fl e1=>?_⟩;exact⟨.inl ⟨U,_,Y.of e1⟩,_,U,z,_,_,i,U,U,e1,e,Sy g.ndP e,cl,_,_,_,U,U,SqT.of (n _ _ S),Au T,q r n⟩
def fW (F:Fun K "is_free" "is_free" Kj f fd):Aj P w K mg base CX0 1 f fd GY MX:=by
 refine F.oq Zz ?_;rintro d A a s H vs Q E i⟨v,W,rfl,e,q⟩;obtain⟨c,n,m,cl,xs,ys,rfl,h,g,o,l,j,p⟩:=parts e;have b:=LU g;subst b;refine⟨_,(Al (Av (Cn IZ (Ap Bf (pv 0) Ad (λ_ _=>U)) CW (AJ _)))),?_⟩;refine⟨_,U,c,_,_,_,U,U,SqT.of h,Au U,U,?_⟩;cases hh:W.hand with
 | none=>rw[hh]at q;exact q
 | some t=>rw[hh]at q;exact q
def fQ (F:Fun K "is_open" "is_open" Kh f fd)(a:Ca P w K mg base CX0 2 "lid_on" Ka GW (MU C)):Aj P w K mg base CX0 3 f fd GX (MW C):=by refine F.oq Zw ?_;rintro e A b s H vs Q E c⟨x,rs,v,W,i,p,l,rfl,R,g,h,m,n,q⟩;refine⟨_,(Al (Av (Cn By (Az a c Aq (Aa (pv 0) (Aa (pv 1) (Aa (pv 2) Ac)))) AC (AJ _)))),_,U,_,U,_,U,x,rs,v,W,i,p,l,U,R,g,h,m,n,λd j=>⟨U,?_⟩⟩;rw[Os];exact q d j
def hV (F:Fun K "changed" "changed" Kr f fd)(L:Cl K C)(a:Binds K d_places ["self"] [])(c:B5 K C "places" f_places)(b:Aj P w K mg base CX0 1 f_places d_places ["self"] (FU C)):Aj P w K mg base CX0 2 f fd G1 (M3 C):=by
 refine F.oq scChanged ?_;rintro a0 A r s H vs Q E z⟨x,rs,e,xs,i,p,y,rfl,R,g,D,hi,hx,d,q⟩;have W:=AB;obtain⟨dx,d1,X,o,kvs,h1,h2,h3,h4⟩:=R.ex;have h:((plc rs).map (·.1))[i]? = some p.1:=by rw[AU,d];rfl
 refine⟨_,(Ai (AO (i:=4) scChanged.nd (Dg OX JI OW RI (Cr (pv 0) L.cl c b z a .nil Aq) (Aa (pv 2) Ac))) (Al (Av (AD RB (AD RB (Ew M6 (pv 1) Eu (Et (pv 4))) (A6 (Aa (pv 3) Ac))) (Ew M6 (pv 1) (Et (AD DS (pv 4) Ad)) Eu))))),_,U,x,dx,_,U,h1,DQ d1 X Δ Δ,x,rs,U,R,λl T G fl N=>?_⟩;refine⟨.inl ⟨U,_,Y.of N⟩,_,U,l,_,_,i,U,U,N,h,Sy g.ndP h,?_⟩;have c1:BE xs none (some ((i:Nat):Int))=xs.take i:=by unfold BE;rw[HT.sIx_none,HT.sIx_nat,Ht,Nat.sub_zero];congr 1;lia
 have c2:BE xs (some (((i+1:Nat)):Int)) none=xs.drop (i+1):=LY Ψ;refine⟨_,U,_,U,_,U,e,xs,U,SqT.of (G _ _ D),?_,λp1 m=>?_⟩
 ·rw[HT.sIx_none,HT.sIx_nat];lia
 rw[c1];obtain⟨H2,u,s2,e2⟩:=DV (H:=T) (o:=.tup (xs.take i)) m;rw[u];refine⟨_,U,AG,λp2 v=>?_⟩;obtain⟨H3,u,s3,e3⟩:=DV (H:=H2) (o:=.tup [y]) v;rw[u];refine Sj (s3 _ _ e2) e3 (by rw[Bm];show _+1<=_;lia) λp3 M s4 e4=>?_;have j:=(G.trans s2).trans (s3.trans s4);have B:=j _ _ D;refine⟨_,U,_,U,_,_,U,U,_,U,e,xs,U,SqT.of B,?_,λp4 n=>?_⟩
 ·rw[show((i:Int)+1)=((i+1:Nat):Int) from U,HT.sIx_nat];lia
 rw[show((i:Int)+1)=((i+1:Nat):Int) from U,c2];have I:Same M (upd M p4 (.tup (xs.drop (i+1)))):=Same.new n;refine Sj (I _ _ e4) Af (by rw[AM,Bm,Dc];show _+1+_<=_;lia) λt S s6 e6=>q t S (j.trans (I.trans s6)) ?_;rw[e6,List.set_eq_take_append_cons_drop,As hi,B4];rfl
def eH (F:Fun K "read_deed" "read_deed" Ik f fd)(T:Bl mg)(L:Cl K C)(DD:Dd P w K mg aP)(d:Binds K d_places ["self"] [])(j:B5 K C "places" f_places)(g:Aj P w K mg base CX0 1 f_places d_places ["self"] (FU C)):Aj P w K mg base CX0 2 f fd IG (MS C):=by
 refine F.oq scReadDeed λa6 A a1 s H vs Q E a3 h=>?_;obtain⟨x,rs,a4,a,ps,rfl,R,hw,ln,pl,I,q⟩:=h;have a5:=AB;obtain⟨dx,d1,d2,o,kvs,h1,h2,h3,h4⟩:=R.ex;unfold LX at I;rw[Co,Co]at I;refine⟨_,(Ai (AO (i:=2) scReadDeed.nd (Dg Ek DJ EM EA (pv 1) (Aa AC Ac))) (Ai (AO (i:=3) scReadDeed.nd (Ew M7 (pv 2) (Et Ad) Eu)) (Ai (AY (AN Fn (bY (CY (v:=.ref aP) Φ DD.pm U) (Ap AL (pv 2) Ad (λ_ _=>U)) ⟨Φ,Φ,Φ,Φ⟩) (Be Cv Φ T.len BM (Aa (pv 3) Ac)) (AJ _)) B6 AX) (Ai (AY (C6 (CS (Be (Ox U) Φ T.all Jk (Aa (B1 (sc:=Ak Ik) (own:=["place"]) (js:=[0]) BA U (BB (pv 3)) (λ_ _ _ _=>A0 (i:=0) (show List.Nodup (["place", "room"]:List Str) by decide +kernel)) (λ_ _ _ _=>BV) (λ_ _ _ _=>(Cn (LB K U) (pv 0) (Cr (pv 1) L.cl j g a3 d .nil Aq) Φ))) Ac)))) B6 AX) (Ai (AY (AN IX (Be Sm Φ T.len BM (Aa (CG (Sl U) Φ T.set Oy (Aa (pv 3) Ac)) Ac)) (Be Cv Φ T.len BM (Aa (pv 3) Ac)) (AJ _)) B6 AX) (Al (Av (pv 2)))))))),?_⟩;refine⟨_,U,U,_,_,U,U,Φ,Ψ,λl hl=>?_⟩;refine Oa (a::ps) _ (by show(Txt.split _ blank).map V.str=_;rw[hw.split]) hl λM s1 el=>⟨_,U,_,U,l,_,U,Y.of el,λu S=>?_⟩;have c:(upd M u (.lst (BE ((a::ps).map V.str) (some 1) none))) u=some (.lst (ps.map V.str)):=by rw[Af,show((1:Int))=((1:Nat):Int) from U,LY Θ];rfl
 have s2:Same M (upd M u (.lst (BE ((a::ps).map V.str) (some 1) none))):=Same.new S;generalize (upd M u (.lst (BE ((a::ps).map V.str) (some 1) none)))=H2 at c s2 ⊢;have n:=s1.trans s2;have W:(ps.map V.str).length=ps.length:=Ah ..;refine⟨aP,_,U,DD.pd,_,U,l,_,_,_,U,U,Y.of (s2 _ _ el),Au U,(Sum.inr a:Key),U,_,U,_,_,U,.inl ⟨_,Y.of c,U⟩,?_,_,U,?_⟩
 ·show QV (EX a) _=true;rcases bL a with e | e | e <;> (rw[e];rfl)
 show if (!decide (EX a=V.int ((ps.map V.str).length:Int)))=true then _ else _
 rw[W,AV (Bp I.1)];refine A7 ⟨_,U,u,U,⟨_,Y.of c⟩,λD hD=>?_⟩
 refine BK (λi ys m=>ys=((ps.take i).map λp=>decide (p∈(plc rs).map (·.1))).map V.bl/\Same H2 m/\m D=some (.lst ys)) ⟨U,Same.new hD,Af⟩
  (λi ys m N r=>by obtain⟨_,s3,_⟩:=r;exact⟨_,.str ps[i],Y.of (s3 _ _ c),by simp[N]⟩) (λys m r=>by obtain⟨_,s3,_⟩:=r;exact⟨_,Y.of (s3 _ _ c),Θ⟩) ?_ ?_
 ·rintro i ys m y H4 N ⟨rfl,s3,e3⟩ ⟨rfl,hx⟩;have G:=hx _ (Y.of (s3 _ _ c));have a2:y=.str ps[i]:=by rw[AU,Ay N]at G;exact(Bh G).symm
  subst a2;refine BX ?_;refine⟨_,U,_,U,x,dx,_,U,(n.trans s3) _ _ h1,DQ d1 d2 Δ Δ,x,rs,U,R.same (n.trans s3),λl4 H5 s5 f5 e5=>?_⟩;refine⟨l4,_,U,.inl (Y.of e5),U,flat_strs _,_,s5 _ _ e3,by simp only[Ah,Bm];lia,?_,(s3.trans s5).put hD,Af⟩;rw[BN N,AR,AR];rw[DH];rfl
 rintro ys m ⟨rfl,s3,e3⟩;rw[BQ]at e3;refine⟨D,_,U,Y.of e3,_,U,?_⟩;have B:(ps.map λp=>decide (p∈(plc rs).map (·.1))).all (λb=>b)=ps.all λp=>decide (p∈(plc rs).map (·.1)):=by rw[List.all_map];rfl
 rw[B,I.2.1];refine A7 ?_;have ek:ps.map V.str=(ps.map (Sum.inr:Str->Key)).map kV:=by rw[Bk];rfl
 refine⟨_,U,u,ps.map Sum.inr,U,Y.of (by rw[<- ek];exact s3 _ _ c),by rw[Ah];lia,λst a0=>?_⟩;have X:Same m (upd m st (Ig P w st (SK.dd (B8 (ps.map (Sum.inr:Str->Key))) (ps.map (Sum.inr:Str->Key)).length).length)):=Same.new a0;refine⟨st,_,U,Af,_,U,_,_,U,.inl ⟨_,Y.of (X _ _ (s3 _ _ c)),U⟩,_,_,U,U,_,U,?_⟩;refine Bq (λz=>?_) (λ_=>?_)
 ·exfalso;have:=Bp z;rw[UB (Bp I.2.2)]at this;lia
 exact⟨_,U,q l _ ((n.trans s3).trans X) (X _ _ (s3 _ _ (s2 _ _ el)))⟩
def iB (F:Fun K "can_put" "can_put" NH f fd)(a:Ca P w K mg base CX0 1 "is_free" Kj GY MX)(b:Ca P w K mg base CX0 3 "is_open" Kh GX (MW C)):Aj P w K mg base CX0 4 f fd Lu (QO C):=by
 refine F.oq ZV ?_;rintro j A d s H vs Q E c⟨x,rs,v,W,i,p,l,rfl,R,g,e,n,o,q⟩;refine⟨_,(Al (Av (KB (NT (Az a (c.mono Ξ) Aq (Aa (pv 1) Ac))) (IA (Az b c Aq (Aa (pv 0) (Aa (pv 1) (Aa (pv 2) Ac)))))))),?_⟩;refine⟨_,U,v,W,U,e,_,U,_,U,?_⟩;cases hh:W.hand with
 | none=>rw[hh]at q;exact A7 (q H (Same.refl _))
 | some t=>rw[hh]at q;apply Bw;exact⟨_,U,_,U,_,U,x,rs,v,W,i,p,l,U,R,g,e,n,o,λh m=>q h m⟩
def fO (F:Fun K "laid" "laid" Nn f fd)(b:Ca P w K mg base CX0 2 "heap_in" GH EY (Ie C))(a:Ca P w K mg base CX0 2 "changed" Kr G1 (M3 C)):Aj P w K mg base CX0 3 f fd KP (Qi C):=by
 refine F.oq scLaid λa3 A B s H vs Q E m h=>?_;obtain⟨x,rs,v,W,i,p,y,l,t,rfl,R,g,M,pt,hh,q⟩:=h;have a1:=AB;have a0:=pt.len;have a2:=pt.few;have D:=M;obtain⟨c,v0,L,cl,xs,ys,rfl,G,r0,eb,N,ec,rc⟩:=parts M;have o:=LU r0;subst o;have z:=N.length;rw[Ah]at z;have hi:i<xs.length:=by have:=(AW.mp pt.he).1;lia
 have n:atI [oV W.hand,V.ref L,V.ref cl] ((0:Nat):Int)=some (.str t):=by rw[hh];exact Au U
 refine⟨_,(Ai (AO (i:=3) scLaid.nd (AD RB (Az b m Aq (Aa (pv 0) (Aa (pv 1) (Aa (pv 2) Ac)))) (A6 (Aa (Ap Bf (pv 1) Ad (λ_ _=>U)) Ac)))) (Al (Av (A6 (Aa CW (Aa (Az a m Aq (Aa (pv 0) (Aa (Ap Bf (pv 1) Ad (λ_ _=>U)) (Aa (pv 2) (Aa (pv 3) Ac))))) (Aa (Ap Bf (pv 1) Ad (λ_ _=>U)) Ac))))))),_,U,_,U,_,U,x,rs,_,W,i,p,y,U,R,g,D,pt.pl,pt.he,λt1 H1 r et=>?_⟩;refine⟨_,U,c,_,_,_,U,U,SqT.of (r _ _ G),n,AG,λp2 I=>?_⟩;obtain⟨H2,g0,s2,e2⟩:=DV (H:=H1) I;rw[g0];refine Sj (s2 _ _ (r _ _ et)) e2 (by rw[(Ah ..)];show _+1<=_;lia) λp3 H3 s3 e3=>?_;have e:=(r.trans s2).trans s3;refine⟨_,U,_,U,c,_,_,_,U,U,SqT.of (e _ _ G),Au U,_,U,_,U,x,rs,L,xs,i,p,.ref p3,U,R.same e,g,e _ _ eb,hi,Ψ,pt.pl,λt2 T S e4=>?_⟩;have d:=e.trans S;refine⟨_,U,c,_,_,_,U,U,SqT.of (d _ _ G),Au U,AG,λX u=>?_⟩;have j:Same T (upd T X (.tup [V.non,.ref t2,.ref cl])):=Same.new u;refine q (.ref X) _ (d.trans j) (Gy Af .non (j _ _ e4) ?_ (j _ _ (d _ _ ec)) ((d.trans j).rds rc));show RdVs _ _ ((W.heaps.set i (W.heaps.getD i []++[t])).map dH);rw[List.map_set,pt.getD];refine Rh i ((d.trans j).rds N) (.tup (j _ _ (S _ _ e3)) ?_);rw[show y.map V.str++[V.str t]=(y++[t]).map V.str by simp];exact RdVs.strs _
def eK (F:Fun K "put" "put" Nh f fd)(a:Ca P w K mg base CX0 4 "can_put" NH Lu (QO C))(c:Ca P w K mg base CX0 3 "laid" Nn KP (Qi C)):Aj P w K mg base CX0 5 f fd KG (J1 C putF):=by
 refine F.oq Zj ?_;rintro D A r s H vs Q E m⟨x,rs,v,W,i,p,z,l,rfl,R,g,y,pt,L,q⟩;have B:=AB;have b:putF W i z l=[]->∀H':Hp,Same H H'->∀n:Addr,H' n=none->Q (.ref n) (upd H' n (.lst [])):=λe H' s' n j=>q n [] _ (s'.trans (Same.new j)) (s'.free j) Af (e▸.nil);refine⟨_,(Al (Av (Fk (CS (Az a m Aq (Aa (pv 0) (Aa (pv 1) (Aa (pv 2) Ac))))) (Cu (Aa (Az c (m.mono Ξ) Aq (Aa (pv 0) (Aa (pv 1) (Aa (pv 2) Ac)))) Ac)) (Cu Ac)))),?_⟩;refine⟨_,U,_,U,_,U,x,rs,v,W,i,p,l,U,R,g,y,pt.pl,pt.li,λu h=>⟨_,U,?_⟩⟩;cases hh:W.hand with
 | none=>exact A7 ⟨Bt _,b (by unfold putF;rw[hh]) u h⟩
 | some t=>
  by_cases o:l = "open"
  ·rw[AV o];apply Bw;refine⟨_,U,_,U,_,U,x,rs,v,W,i,p,z,l,t,U,R.same h,g,h.rd y,pt,hh,λG M s2 rd=>⟨AG,λI d=>q I [G] _ ((h.trans s2).trans (Same.new d)) ((h.trans s2).free d) Af ?_⟩⟩;unfold putF;rw[hh];dsimp only;rw[As o];exact .cons ((Same.new d).rd rd) .nil
  rw[Bi o];refine A7 ⟨Bt _,b ?_ u h⟩;unfold putF;rw[hh];dsimp only;rw[Ag o]
def dJ {f1 f2 f3 f4:Addr} (F:Fun K "take" "take" Nb f fd)(T:Bl mg)(D_heap_in:Df K mg "heap_in" GH EY f1 d1)(D_is_free:Df K mg "is_free" Kj GY f2 d2)(D_is_open:Df K mg "is_open" Kh GX f3 d3)(D_changed:Df K mg "changed" Kr G1 f4 d4)
  (d:Aj P w K mg base CX0 2 f1 d1 EY (Ie C))(j:Aj P w K mg base CX0 1 f2 d2 GY MX)(a:Aj P w K mg base CX0 3 f3 d3 GX (MW C))(b:Aj P w K mg base CX0 2 f4 d4 G1 (M3 C)):Aj P w K mg base CX0 4 f fd KC (J1 C ET):=by
 refine F.oq scTake λaa A a4 s H vs Q E D h=>?_
 obtain⟨x,rs,v,W,i,p,u,l,rfl,R,g,rv,pt,fh,q⟩:=h
 have X:Room 2 _:=D.mono Ξ
 have a8:=AB
 have a7:=pt.len
 have m:ET W i u l=[]->∀H':Hp,Same H H'->∀L:Addr,H' L=none->Q (.ref L) (upd H' L (.lst [])):=λe H' s' L I=>q L [] _ (s'.trans (Same.new I)) (s'.free I) Af (e▸.nil)
 refine⟨_,(Ai (AO (i:=3) scTake.nd (Cj d X Φ D_heap_in.m D_heap_in.F.kp D_heap_in.b .nil Aq (Aa (pv 0) (Aa (pv 1) (Aa (pv 2) Ac))))) (Ai (AY (PW.pt (DE (C6 (CS (Cj j (D.mono Ξ) Φ D_is_free.m D_is_free.F.kp D_is_free.b .nil Aq (Aa (pv 1) Ac)))) (DE (C6 (CS (Cj a D Φ D_is_open.m D_is_open.F.kp D_is_open.b .nil Aq (Aa (pv 0) (Aa (pv 1) (Aa (pv 2) Ac)))))) (EW (AN By (Be Cv Φ T.len BM (Aa (pv 3) Ac)) Ad (AJ _)))))) (Al (Av (Cu Ac))) AX) (Al (Av (Cu (Aa (A6 (Aa (Ap Bf (pv 3) (Rr Pm Ad) (λ_ _=>U)) (Aa (Cj b X Φ D_changed.m D_changed.F.kp D_changed.b .nil Aq (Aa (pv 0) (Aa (Ap Bf (pv 1) Ad (λ_ _=>U)) (Aa (pv 2) (Aa (Ew M6 (pv 3) Eu (Et (Rr Pm Ad))) Ac))))) (Aa (Ap Bf (pv 1) Ad (λ_ _=>U)) Ac)))) Ac)))))),?_⟩
 refine⟨_,U,_,U,_,U,x,rs,v,W,i,p,u,U,R,g,rv,pt.pl,pt.he,λt H1 M et=>?_⟩
 refine⟨_,U,v,W,U,M.rd rv,_,U,?_⟩
 cases hh:W.hand with
 | some tt=>exact Bw (Bw ⟨Bt _,m (by unfold ET;rw[Ag (λz=>by rw[hh]at z;cases z.1)]) H1 M⟩)
 | none=>
  refine A7 ⟨_,U,_,U,_,U,x,rs,v,W,i,p,l,U,R.same M,g,M.rd rv,pt.pl,pt.li,λH2 s2=>⟨_,U,?_⟩⟩;have r:=M.trans s2;by_cases hl:l = "open"
  ·rw[AV hl];refine A7 ?_;have B:=r _ _ et;refine⟨_,U,_,_,U,.inr ⟨_,SqT.of B,U⟩,U,_,U,?_⟩;cases hl0:u.getLast? with
   | none=>have hn:u=[]:=Xi.mp hl0;subst hn;exact Bw ⟨Bt _,m (by unfold ET;rw[Ag (λz=>z.2.2 U)]) H2 r⟩
   | some y=>
    have N:u≠[]:=λe=>by rw[e]at hl0;cases hl0
    have a6:=List.length_pos_iff.mpr N;have a5:(u.map V.str).length=u.length:=Ah ..;refine Bq (λz=>?_) (λ_=>?_)
    ·exfalso;have:=V.int.inj (Bp z);lia
    obtain⟨c,v0,hb,cl,xs,ys,rfl,ea,r0,eb,rb,ec,rc⟩:=parts rv;have a3:=rb.length;rw[Ah]at a3;have a9:=pt.few;have hi:i<xs.length:=by have:=(AW.mp pt.he).1;lia
    have a1:BE (u.map V.str) none (some (-1))=(u.dropLast).map V.str:=by unfold BE;rw[HT.sIx_none,Ht,Nat.sub_zero,UF,a5,<- FG,List.dropLast_eq_take]
    refine⟨_,U,_,U,t,_,_,_,U,U,SqT.of B,vA (by rw[List.getLast?_map,hl0];rfl),?_⟩;refine⟨_,U,_,U,c,_,_,_,U,U,SqT.of (r _ _ ea),Au U,_,U,_,U,_,U,?_⟩;refine⟨_,U,t,_,U,SqT.of B,?_,λp1 a0=>?_⟩
    ·rw[HT.sIx_none,UF];lia
    rw[a1];obtain⟨H3,g0,s3,e3⟩:=DV (H:=H2) a0;rw[g0];have G:=r.trans s3;refine⟨x,rs,hb,xs,i,p,.ref p1,U,R.same G,g,G _ _ eb,hi,Ψ,pt.pl,λt2 H4 s4 e4=>?_⟩;have o:=G.trans s4;refine⟨_,U,c,_,_,_,U,U,SqT.of (o _ _ ea),Au U,AG,λtw a2=>⟨AG,λlw S=>?_⟩⟩;have s5:Same H4 (upd H4 tw (.tup [V.str y,.ref t2,.ref cl])):=Same.new a2;have s6:Same (upd H4 tw (.tup [V.str y,.ref t2,.ref cl])) (upd (upd H4 tw (.tup [V.str y,.ref t2,.ref cl])) lw (.lst [V.ref tw])):=Same.new S;have n:=s5.trans s6;refine q lw [.ref tw] _ (o.trans n) ((o.trans s5).free S) Af ?_;unfold ET;rw[As ⟨hh,hl,N⟩,hl0];refine .cons (Gy (s6 _ _ Af) (.str y) (n _ _ e4) ?_ (n _ _ (o _ _ ec)) ((o.trans n).rds rc)) .nil;rw[List.map_set];exact Rh i ((o.trans n).rds rb) (.tup (n _ _ (s4 _ _ e3)) (RdVs.strs _))
  rw[Bi hl];exact Bw (Bw ⟨Bt _,m (by unfold ET;rw[Ag (λz=>hl z.2.1)]) H2 r⟩)
def rP (x y:Str):PyData.eqv (.str x) (.str y)=decide (x=y):=by
 rw[PyData.eqv];by_cases h:x=y
 ·simp[h]
 simp[h]
def Zc (I:L2.St->Hp->Prop)(b:∀a H',I a H'->R D a H')(c:∀N:L2.St->Hp->Prop,(∀a H',I a H'->N a H')->s { D with nx:=N } σ H):Pq s R D σ H:=c (R D) b
def Fo:List Str:=["take", "put"]
def N5 {w:Str}(h:w∈Fo):w = "take" \/ w = "put" := by simpa only [Fo,Ar,AS,AQ] using h
def VB {w:Str}(h:w∈Fo):EX w=V.int 1:=by rcases N5 h with e | e <;> (rw[e];decide +kernel)
def VA {w:Str}(h:w∈Fo):¬w = "tip" := by rcases N5 h with e | e <;> (rw[e];decide +kernel)
def LI (w:Str)(W:Wl)(i:Nat)(hp:List Str)(l:Str):List Wl:=if w = "take" then ET W i hp l else putF W i hp l
def LH (w:Str)(_:C4)(W:Wl)(i:Nat)(hp:List Str)(l:Str)(_:Nat)(_:List Str)(_:Str):List Wl:=LI w W i hp l
inductive MN (C:Addr)(vs:List V)(H:Hp)(Q:VK)(E0_:XK):Prop
 | mk (x:Addr) (rs:List Ro) (v:V) (W:Wl) (line w:Str) (i:Nat) (p:C4) (hp:List Str) (l:Str) (j:Nat) (pj:C4) (hq:List Str) (lq:Str) (c0:vs=[.ref x,.str line,v]) (c1:RoomAt C H x rs) (c2:Good rs) (c3:RdV H v (dW W)) (c4:Wd line (ER w p.1 pj.1)) (c5:line.length<=1000) (c6:Pt rs W i p hp l) (c7:Pt rs W j pj hq lq) (c8:(w = "tip" -> i≠j)) (c9:w∈Fo) (c10:(∀h∈W.heaps,h.length<=100)) (c11:W.lids.length<=100) (c12:∀(lw:Addr) (us:List V) (H':Hp),Same H H'->H' lw=some (.lst us)->RdVs H' us ((LH w p W i hp l j hq lq).map dW)->Q (.ref lw) H'):MN C vs H Q E0_
inductive Qc (C:Addr)(vs:List V)(H:Hp)(Q:VK)(E0_:XK):Prop
 | mk (x:Addr) (rs:List Ro) (v:V) (W:Wl) (w:Str) (i:Nat) (p:C4) (hp:List Str) (l:Str) (c0:vs=[.ref x,v,.str w,.str p.1]) (c1:RoomAt C H x rs) (c2:Good rs) (c3:RdV H v (dW W)) (c4:Pt rs W i p hp l) (c5:w∈Fo) (c6:(∀h∈W.heaps,h.length<=100)) (c7:∀(lw:Addr) (us:List V) (H':Hp),Same H H'->H lw=none->H' lw=some (.lst us)->RdVs H' us ((LI w W i hp l).map dW)->Q (.ref lw) H'):Qc C vs H Q E0_
def R5 {a:List (List Str)}:∀{i:Nat}(_:i<a.length) (z:List Str),(a.set i z).flatten.Perm (z++(a.set i []).flatten):=by
 induction a with
 | nil=>intro i h;cases h
 | cons y r ih=>
  intro i h z;cases i with
  | zero=>exact .refl _
  | succ i=>show(y++(r.set i z).flatten).Perm (z++(y++(r.set i []).flatten));refine(S7 y (ih (Nat.lt_of_succ_lt_succ h) z)).trans ?_;(rw[<- B4,<- B4]);(exact Tb _ S6)
def Wk {xss:List (List Str)}{i:Nat}{a:List Str}(h:xss[i]? = some a):xss.flatten.Perm (a++(xss.set i []).flatten):=by
 (obtain⟨b,e⟩:=AW.mp h);have e2:xss.set i a=xss:=by rw[<- e];exact List.set_getElem_self b
 have:=R5 b a;rw[e2]at this;exact this
def Wf (b:Fw rs W)(sz:Sz W (plc rs).length)(c:(Z.hand.toList++Z.heaps.flatten).Perm (W.hand.toList++W.heaps.flatten))(d:Z.heaps.length=W.heaps.length)(a:Z.lids=W.lids):Fw rs Z/\Sz Z (plc rs).length:=
 ⟨⟨c.trans b.perm,a▸b.lids⟩,d.trans sz.1,a▸sz.2⟩
def oD {t:Str}{k:Nat}(d:Fw rs W)(sz:Sz W (plc rs).length)(c:W.hand=some t)(b:k<W.heaps.length):Fw rs (Of t W k)/\Sz (Of t W k) (plc rs).length:=by
 have a:W.heaps[k]? = some (W.heaps.getD k []):=by rw[Cy,Ay b];rfl
 refine Wf d sz ?_ (List.length_set ..) U;rw[c];refine(R5 b _).trans (List.Perm.trans ?_ (S7 [t] (Wk a).symm));rw[<- B4];(exact Tb _ S6)
def iS {w:Str} (d:Fw rs W)(sz:Sz W (plc rs).length)(pt:Pt rs W i p hp l)(n:Pt rs W j pj hq lq)(m:w = "tip" -> i≠j)(o:w∈Fo):∀a∈LH w p W i hp l j hq lq,Fw rs a/\Sz a (plc rs).length:=by
 have c:=(AW.mp pt.he).1;intro a b;unfold LH LI at b;split at b
 ·unfold ET at b;split at b
  ·rename_i g;rw[AF.mp b];refine Wf d sz ?_ (by rw[List.length_set]) U
   obtain⟨y,f⟩:∃y,hp.getLast? = some y:=by
    cases hg:hp.getLast? with
    | none=>exact absurd (Xi.mp hg) g.2.2
    | some y=>exact⟨y,U⟩
   obtain⟨ys,e⟩:=Xj.mp f;rw[g.1];rw[f];refine(S7 _ (R5 c _)).trans ?_;refine List.Perm.trans ?_ (Wk pt.he).symm;rw[<- B4];refine Tb _ ?_;rw[e,List.dropLast_concat];exact S6
  cases b
 unfold putF at b;split at b
 ·rename_i t h;split at b
  ·rw[AF.mp b];exact oD d sz h c
  cases b
 cases b
inductive MV (K:W.Frag)(vs:List V)(H:Hp)(Q:VK)(E0_:XK):Prop
 | mk (a:Addr) (ns:List Int) (c0:vs=[.ref a]) (c1:Y K H a (ns.map V.int)) (c2:ns.length<=63) (c3:∀H',Q (.bl true) H'):MV K vs H Q E0_
abbrev Vm:List Str:=["_law_script"]
abbrev jQ:List Str:=BG Vm ["_law_words_here", "_law_told", "_law_prices", "_law_room", "_law_deeds", "_law_atlas", "_law_first", "_law_second", "_law_goal", "_law_text", "_law_keep"]
def scLaw:Aw jQ Vm (Ak GG):=AA
def fC (F:Fun K "move_things" "move_things" Nk f fd)(a:Ca P w K mg base CX0 4 "take" Nb KC (J1 C ET))(b:Ca P w K mg base CX0 5 "put" Nh KG (J1 C putF)):Aj P w K mg base CX0 6 f fd KL (Qc C):=by
 refine F.oq Zn λr A e s H vs Q E c h=>?_;obtain⟨x,rs,v,W,w,i,p,o,l,rfl,R,g,j,pt,u,m,q⟩:=h;refine⟨_,(Ai (AY (AN By (pv 2) AC (AJ _)) (Al (Av (Az a (c.mono Ξ) Aq (Aa (pv 0) (Aa (pv 1) (Aa (pv 3) Ac)))))) AX) (Ai (AY (AN By (pv 2) AC (AJ _)) (Al (Av (Az b c Aq (Aa (pv 0) (Aa (pv 1) (Aa (pv 3) Ac)))))) AX) (Ai (AY (AN By (pv 2) AC (AJ _)) (Al NR) AX) (Al NR)))),?_⟩;unfold LI at q;refine⟨_,U,U,_,U,?_⟩;rcases N5 u with d | n
 ·rw[As d]at q;exact Fs d ⟨_,U,_,U,_,U,x,rs,v,W,i,p,o,l,U,R,g,j,pt,m,q⟩
 have d:¬w = "take" := by rw[n];decide +kernel
 rw[Ag d]at q;refine EZ d ⟨_,U,U,_,U,?_⟩;exact Fs n ⟨_,U,_,U,_,U,x,rs,v,W,i,p,o,l,U,R,g,j,pt,m,q⟩
def cY (F:Fun K "turns" "turns" J3 f fd)(D:Dl P w K mg aL t1 t2 t3 t4)(b:Ca P w K mg base CX0 2 "read_deed" Ik IG (MS C))(a:Ca P w K mg base CX0 6 "move_things" Nk KL (Qc C)):Aj P w K mg base CX0 7 f fd IC (MN C):=by
 refine F.oq scTurns λN A u s H vs Q E m h=>?_;obtain⟨x,rs,v,W,n,w,i,p,hp,l,j,pj,hq,lq,rfl,R,g,S,z,ln,pt,pq,T,c,G,M,q⟩:=h;refine⟨_,(Ai (AO (i:=3) scTurns.nd (Az b (m.mono Ξ) Aq (Aa (pv 0) (Aa (pv 1) Ac)))) (Ai (AY (AN By (Ap AL (pv 3) Ad (λ_ _=>U)) AC (AJ _)) (Al NR) AX) (Ai (AY (Kw (cD (Ap AL (pv 3) Ad (λ_ _=>U)) (CY (v:=.ref aL) Φ D.lm U))) (Al NR) AX) (Al (Av (Az a m Aq (Aa (pv 0) (Aa (pv 2) (Aa (Ap AL (pv 3) Ad (λ_ _=>U)) (Aa (Ap AL (pv 3) Ad (λ_ _=>U)) Ac)))))))))),?_⟩;have d:=VA c;unfold ER at z;rw[Ag d]at z;refine⟨_,U,_,U,x,rs,n,_,_,U,R,z,ln,by show 1<=100;decide,WE pt.pl (VB c),λr H1 B o=>?_⟩;have y:atI (([w,p.1]:List Str).map V.str) ((0:Nat):Int)=some (.str w):=Au U;refine⟨_,U,r,_,_,_,U,U,Y.of o,y,U,_,U,?_⟩;refine EZ d ⟨_,U,r,_,_,_,U,U,Y.of o,y,aL,_,(Sum.inr w:Key),U,D.ld,U,_,U,?_⟩;have I:w∈N6:=by rcases N5 c with e | e <;> (rw[e];decide +kernel)
 rw[nU I];refine A7 ?_;exact⟨_,U,_,U,_,U,r,_,_,_,U,U,Y.of o,y,_,U,r,_,_,_,U,U,Y.of o,Au U,x,rs,v,W,w,i,p,hp,l,U,R.same B,g,B.rd S,pt,c,G,λlr us X s2 _ e2 L=>q lr us X (B.trans s2) e2 L⟩
def Tz (ns:List Int):Prop:=∀n∈ns,0<=n/\n<200
def bt (ns:List Int):Nat:=ns.foldl (λm n=>m|||2^n.toNat) 0
def Vn (a b:Nat):Builtin.bitOr (a:Int) b=((a|||b:Nat):Int):=by
 have d:¬(0:Int)<=Builtin.bitNot a:=by unfold Builtin.bitNot;lia
 have e:¬(0:Int)<=Builtin.bitNot b:=by unfold Builtin.bitNot;lia
 have c:∀x:Int,Builtin.bitNot (Builtin.bitNot x)=x:=λx=>by unfold Builtin.bitNot;lia
 unfold Builtin.bitOr Builtin.bitAnd;rw[Bi d,Bi e];rw[c,c,c,CO,CO]
theorem Wi:∀(ns:List Int) (m i:Nat),(ns.foldl (λm n=>m|||2^n.toNat) m).testBit i=(m.testBit i || ns.any λn=>n.toNat == i)
 | [],m,i=>by simp
 | n::r,m,i=>by rw[Jr,Wi r,testBit_or,testBit_two_pow,Jq,Bool.or_assoc,Bool.beq_eq_decide_eq]
def uI (ns:List Int)(i:Nat):(bt ns).testBit i=ns.any λn=>n.toNat == i:=by unfold bt;rw[Wi,zero_testBit,Bool.false_or]
def W6 (ns:List Int)(n:Int):bt (ns++[n])=bt ns|||2^n.toNat:=by unfold bt;rw[List.foldl_append];rfl
def bG (k:Nat):(2:Int)^k=((2^k:Nat):Int):=by rw[Int.natCast_pow];rfl
def UC (I:L2.St->Hp->Prop)(d:∀a H',I a H'->R D a H')(e:∀N:L2.St->Hp->Prop,(∀a H',I a H'->N a H')->EC i v σ H λb c=>s { D with nx:=N } b c):EC i v σ H (Pq s R D):=e (R D) d
theorem Ks :∀ns:List Int,RdVs H (ns.map V.int) (ns.map PyData.int)
 | []=>.nil
 | n::r=>.cons (.int n) (Ks r)
def rQ (n:Int):PyData.eqv (.int n) (.int n)=true:=by simp[PyData.eqv]
theorem Wu:∀ns:List Int,PyData.eqvAll (ns.map PyData.int) (ns.map PyData.int)=true
 | []=>by simp[PyData.eqvAll]
 | n::r=>by rw[Bg,PyData.eqvAll,rQ,Wu r];rfl
def Wt (ns:List Int):PyData.eqv (.list (ns.map PyData.int)) (.list (ns.map PyData.int))=true:=by rw[PyData.eqv,Wu]
theorem VO:∀ns:List Int,PyData.canLayAll0 (ns.map PyData.int)=true
 | []=>by rw[FF,PyData.canLayAll0]
 | n::r=>by rw[Bg,PyData.canLayAll0,VO r,PyData.canLay0];rfl
theorem WG:∀ns:List Int,PyData.depthAll (ns.map PyData.int)<=0
 | []=>by rw[FF,PyData.depthAll];exact Bt _
 | n::r=>by have h:=WG r;rw[Bg,PyData.depthAll,PyData.depth];lia
def M9 (ns:List Int):shaped (.list (ns.map PyData.int))=true:=by unfold shaped;rw[PyData.canLay0,VO,PyData.depth];have:=WG ns;(rw[AV Ψ]);rfl
def sV (ns:List Int):∃ds:List Int,SK.dd (B8 (ns.map (Sum.inl:Int->Key))) (ns.map (Sum.inl:Int->Key)).length=ds.map Sum.inl/\ds.Nodup/\(∀n,n∈ds↔n∈ns)/\ds.length<=ns.length:=by
 rw[(Ah ..)]
 have o:∀i,i<=ns.length->∃ds:List Int,SK.dd (B8 (ns.map (Sum.inl:Int->Key))) i=ds.map Sum.inl/\ds.Nodup/\(∀n,n∈ds↔n∈ns.take i)/\ds.length<=i:=by
  intro i;induction i with
  | zero=>exact λ_=>⟨[],U,nodup_nil,λn=>by simp,An _⟩
  | succ i ih=>
   intro p;have c:i<ns.length:=p;obtain⟨ds,e,g,a,j⟩:=ih Ψ;have l:B8 (ns.map (Sum.inl:Int->Key)) i=Sum.inl ns[i]:=by simp[B8,List.getD,c]
   have d:=BN c;have f:(Sum.inl ns[i]:Key)∈ds.map (Sum.inl:Int->Key)↔ns[i]∈ds:=by rw[AK];exact⟨λ⟨m,b,e⟩=>by cases e;exact b,λh=>⟨_,h,U⟩⟩
   by_cases b:ns[i]∈ds
   ·refine⟨ds,?_,g,λn=>?_,Ψ⟩
    ·unfold SK.dd;rw[e,l,As (f.mpr b)]
    rw[d,Br,AF,a n];exact⟨.inl,λz=>z.elim id λz=>by rw[z];exact(a _).mp b⟩
   refine⟨ds++[ns[i]],?_,VC g b,λn=>?_,by rw[AM];exact Nat.succ_le_succ j⟩
   ·unfold SK.dd;rw[e,l,Ag λz=>b (f.mp z),AR];rfl
   rw[d,Br,Br,a n]
 obtain⟨ds,e,g,a,j⟩:=o ns.length (An _);rw[BQ]at a;exact⟨ds,e,g,a,j⟩
inductive GC (K:W.Frag)(vs:List V)(H:Hp)(Q:VK)(E0_:XK):Prop
 | mk (a:Addr) (ns:List Int) (c0:vs=[.ref a]) (c1:Y K H a (ns.map V.int)) (c2:Tz ns) (c3:Q (.int (bt ns:Nat)) H):GC K vs H Q E0_
abbrev Fm:List Str:=["worlds"]
abbrev iX:List Str:=BG Fm ["some", "world"]
def scSetOf:Aw iX Fm (Ak FX):=AA
abbrev KZ:List Str:=["_law_worlds_here", "_law_order"]
abbrev kD:List Str:=KZ
def Zt:Aw kD KZ (Ak Kg):=AA
def dX (F:Fun K "set_of" "set_of" FX f fd):Aj P w K mg base CX0 1 f fd Fm (GC K):=by
 refine F.oq scSetOf ?_;rintro p A l s H vs Q E v⟨a,ns,rfl,o,wd,q⟩;refine⟨_,(Ai (AO (i:=1) scSetOf.nd Ad) (Ai (CU C2 U (BB (pv 0)) (A0 (i:=2) scSetOf.nd) (Al (AO (i:=1) scSetOf.nd (AD Vp (pv 1) (AD Vo Ad (pv 2)))))) (Al (Av (pv 1))))),_,U,a,U,⟨_,o⟩,DI (K:=K) (a:=a) (xs:=ns.map V.int) (λi c b=>∃g:Option V,c = [some (.ref a),some (.int (bt (ns.take i):Nat)),g]/\b=H) ⟨none,U,U⟩ (λi c b _ h=>by obtain⟨_,_,e⟩:=h;rw[e];exact o) ?_ ?_⟩
 ·rintro i x c b m ⟨g,rfl,e⟩;rw[AU]at m;obtain⟨n,d,rfl⟩:=Mj.mp m;have u:=(AW.mp d).1;have r:=wd n (Cc d);have j:Builtin.bitOr ((bt (ns.take i):Nat):Int) (1*2^n.toNat)=((bt (ns.take (i+1)):Nat):Int):=by rw[BN u,(AW.mp d).2,W6,one_mul,bG,Vn]
  exact⟨_,U,_,U,_,_,U,U,⟨r.1,Ψ,Ξ⟩,_,_,U,U,some (.int n),by rw[<- j];rfl,e⟩
 rintro c b ⟨g,rfl,e⟩;rw[show(ns.map V.int).length=ns.length from Ah ..,BQ,e];exact⟨_,U,q⟩
structure Mc (mg:Str->Option Value):Prop where
 mw:∃t,mg "MOST_WORLDS" = some (.int 200 t)
 ms:∃t,mg "MOST_STEPS" = some (.int 40 t)
 mn:∃t,mg "MOST_SIGNS" = some (.int 30 t)
 mp:∃t,mg "MOST_PRICE" = some (.int 1000000000 t)
inductive StV (H:Hp)(v:V)(n:Str)(p:Int)(t:Addr):Prop
 | mk (a:Addr) (e:v=.ref a) (h:H a=some (.tup [.str n,.int p,.ref t])):StV H v n p t
structure A2 {α:Type}(R:V->α->Prop)(vs:List V)(ts:List α):Prop where
 len:vs.length=ts.length
 got:∀(i:Nat) v t,vs[i]? = some v->ts[i]? = some t->R v t
def A2.mono {b:Type}{R S:V->b->Prop}{vs:List V}{ts:List b}(h:A2 R vs ts)(m:∀v t,v∈vs->R v t->S v t):A2 S vs ts:=⟨h.len,λi v t a c=>m v t (Cc a) (h.got i v t a c)⟩
def A2.at {c:Type}{R:V->c->Prop}{vs:List V}{ts:List c}(h:A2 R vs ts){i:Nat}{v:V}(b:vs[i]? = some v):∃t,ts[i]? = some t/\t∈ts/\R v t:=by
 have a:i<ts.length:=by rw[<- h.len];exact ((AW.mp b).1)
 exact⟨ts[i],Ay a,Cb a,h.got i v _ b (Ay a)⟩
def A2.app {f:Type}{R:V->f->Prop}{vs a:List V}{ts b:List f}(h:A2 R vs ts)(h':A2 R a b):A2 R (vs++a) (ts++b):=⟨by rw[AM,AM,h.len,h'.len],λi v t d c=>by
 by_cases e:i<vs.length
 ·rw[CQ e]at d;rw[CQ (by rw[<- h.len];exact e)]at c;exact h.got i v t d c
 rw[DK Ψ]at d;rw[DK (by rw[<- h.len];lia),<- h.len]at c;exact h'.got _ v t d c⟩
structure Dee where
 name:Str
 price:Int
 tab:List (List Int)
structure Loo where
 name:Str
 price:Int
 tab:List (Option Str)
def oS:Option Str->V
 | none=>.non
 | some x=>.str x
inductive EnV (H:Hp)(v:V)(ns:List Int):Prop
 | mk (b:Addr) (e:v=.ref b) (h:H b=some (.lst (ns.map V.int))):EnV H v ns
inductive DeV (H:Hp)(v:V)(d:Dee):Prop
 | mk (t:Addr) (es:List V) (s:StV H v d.name d.price t) (ht:H t=some (.lst es)) (he:A2 (EnV H) es d.tab):DeV H v d
inductive LoV (H:Hp)(v:V)(l:Loo):Prop
 | mk (t:Addr) (s:StV H v l.name l.price t) (ht:H t=some (.lst (l.tab.map oS))):LoV H v l
inductive QJ (vs:List V)(H:Hp)(Q:VK)(E0_:XK):Prop
 | mk (m:Int) (c0:vs=[.int m]) (c1:1<=m) (c2:m<=200) (c3:Q .non H):QJ  vs H Q E0_
inductive QI (vs:List V)(H:Hp)(Q:VK)(E0_:XK):Prop
 | mk (x:Str) (c0:vs=[.str x]) (c1:1<=x.length) (c2:x.length<=30) (c3:Q .non H):QI  vs H Q E0_
inductive QH (vs:List V)(H:Hp)(Q:VK)(E0_:XK):Prop
 | mk (p:Int) (c0:vs=[.int p]) (c1:1<=p) (c2:p<=1000000000) (c3:Q .non H):QH  vs H Q E0_
inductive MZ (vs:List V)(H:Hp)(Q:VK)(E0_:XK):Prop
 | mk (m:Int) (n:V) (t:Addr) (xs:List V) (c0:vs=[.int m,n,.ref t]) (c1:H t=some (.lst xs)) (c2:(xs.length:Int)=m) (c3:Q .non H):MZ  vs H Q E0_
inductive QL (vs:List V)(H:Hp)(Q:VK)(E0_:XK):Prop
 | mk (m:Int) (n:V) (b:Addr) (ns:List Int) (c0:vs=[.int m,n,.ref b]) (c1:H b=some (.lst (ns.map V.int))) (c2:ns.Pairwise (· < ·)) (c3:(∀x∈ns,0<=x/\x<m)) (c4:ns.length<=60) (c5:∀H':Hp,Same H H'->Q .non H'):QL  vs H Q E0_
abbrev IT:List Str:=["many"]
abbrev lL:List Str:=IT
def ZL:Aw lL IT (Ak NF):=AA
abbrev Lj:List Str:=["name"]
abbrev lJ:List Str:=Lj
def ZK:Aw lJ Lj (Ak ND):=AA
abbrev Li:List Str:=["price"]
abbrev lH:List Str:=Li
def ZJ:Aw lH Li (Ak NC):=AA
abbrev IS:List Str:=["many", "name", "table"]
abbrev lE:List Str:=IS
def ZI:Aw lE IS (Ak Ko):=AA
abbrev Lk:List Str:=["many", "name", "entry"]
abbrev lM:List Str:=Lk
def ZM:Aw lM Lk (Ak Kp):=AA
abbrev G0:List Str:=["deeds", "looks"]
abbrev lG:List Str:=BG G0 ["steps", "names", "step"]
def scCheckSteps:Aw lG G0 (Ak Ir):=AA
structure Mv (s:Str×Int):Prop where
 n1:1<=s.1.length
 n2:s.1.length<=30
 p1:1<=s.2
 p2:s.2<=1000000000
def Xt (H:Hp)(v:V)(s:Str×Int):Prop:=∃(a:Addr) (r:List V),v=V.ref a/\H a=some (.tup (.str s.1::.int s.2::r))
inductive M0 (vs:List V)(H:Hp)(Q:VK)(E0_:XK):Prop
 | mk (a b:Addr) (ds ls:List V) (st:List (Str×Int)) (c0:vs=[.ref a,.ref b]) (c1:H a=some (.lst ds)) (c2:H b=some (.lst ls)) (c3:A2 (Xt H) (ds++ls) st) (c4:ds.length<=40) (c5:ls.length<=40) (c6:(st.map (·.1)).Nodup) (c7:(∀s∈st,Mv s)) (c8:∀H':Hp,Same H H'->Q .non H'):M0  vs H Q E0_
structure KA {α:Type}(nm:α->Str)(R:V->α->Prop)(kvs:List (Key×V))(ds:List α):Prop where
 len:kvs.length=ds.length
 got:∀(i:Nat) kv d,kvs[i]? = some kv->ds[i]? = some d->kv.1=Sum.inr (nm d)/\R kv.2 d
def KA.nil {a:Type}{nm:a->Str}{R:V->a->Prop}:KA nm R [] []:=⟨U,λi b d h _=>by cases h⟩
def KA.mono {b:Type}{nm:b->Str}{R S:V->b->Prop}{kvs:List (Key×V)}{ds:List b}(h:KA nm R kvs ds)(m:∀v d,d∈ds->R v d->S v d):KA nm S kvs ds:=⟨h.len,λi e d c a=>⟨(h.got i e d c a).1,m _ _ (Cc a) (h.got i e d c a).2⟩⟩
def KA.snoc {c:Type}{nm:c->Str}{R:V->c->Prop}{kvs:List (Key×V)}{ds:List c}{d:c}{v:V}(h:KA nm R kvs ds)(r:R v d):KA nm R (kvs++[(Sum.inr (nm d),v)]) (ds++[d]):=⟨by simp[h.len],λi g x a b=>by
 by_cases e:i<kvs.length
 ·rw[CQ e]at a;rw[CQ (by rw[<- h.len];exact e)]at b;exact h.got i g x a b
 rw[DK Ψ]at a;rw[DK (by rw[<- h.len];lia),<- h.len]at b;have f:i-kvs.length=0:=by have:=(AW.mp a).1;simp at this;lia
 rw[f]at a b;cases a;cases b;exact⟨U,r⟩⟩
def KA.keysE {b:Type}{nm:b->Str}{R:V->b->Prop}{kvs:List (Key×V)}{ds:List b}(h:KA nm R kvs ds):kvs.map (·.1)=ds.map λd=>(Sum.inr (nm d):Key):=by
 apply List.ext_getElem?;intro i;rw[AU,AU];cases hk:kvs[i]? with
 | none=>have:=List.getElem?_eq_none_iff.mp hk;rw[OO (by rw[<- h.len];exact this)];rfl
 | some kv=>
  have a:i<ds.length:=by rw[<- h.len];exact ((AW.mp hk).1)
  rw[Ay a];show some kv.1=some _;rw[(h.got i kv _ hk (Ay a)).1]
theorem KA.none {a:Type}{nm:a->Str}{R:V->a->Prop}{kvs:List (Key×V)}{ds:List a}(h:KA nm R kvs ds){x:Str}(f:x∉ds.map nm):Bj kvs (Sum.inr x:Key)=none:=by
 cases e:Bj kvs (Sum.inr x:Key)with
 | none=>rfl
 | some v=>exfalso;have:=MD e;rw[h.keysE]at this;obtain⟨d,c,b⟩:=AK.mp this;exact f (AK.mpr ⟨d,c,DY b⟩)
def T2 {kvs:List (Key×V)}(b:(kvs.map (·.1)).Nodup){i:Nat}{a:Key×V}(h:kvs[i]? = some a):Bj kvs a.1=some a.2:=by
 induction (kvs) generalizing i with
 | nil=>cases h
 | cons p r ih=>
  rw[Bg]at b;(obtain⟨c,d⟩:=Du.mp b);cases i with
  | zero=>cases h;exact HX U
  | succ i=>have h':=h;rw[Ep (λe=>c (e▸AK.mpr ⟨a,Cc h',U⟩))];exact ih d h'
def KA.val {a:Type}{nm:a->Str}{R:V->a->Prop}{kvs:List (Key×V)}{ds:List a}(h:KA nm R kvs ds)(j:(ds.map nm).Nodup){d:a}(g:d∈ds):∃v,Bj kvs (Sum.inr (nm d):Key)=some v/\R v d:=by
 obtain⟨i,c⟩:=Hu g;have b:i<kvs.length:=by rw[h.len];exact ((AW.mp c).1)
 have f:=Ay b;obtain⟨e,r⟩:=h.got i _ d f c;refine⟨kvs[i].2,?_,r⟩;rw[<- e];refine T2 ?_ f;rw[h.keysE];have:(ds.map λd=>(Sum.inr (nm d):Key))=(ds.map nm).map Sum.inr:=by rw[Bk];rfl
 rw[this];exact Ma.mpr (SM (λh e=>h (DY e)) j)
inductive OuV (H:Hp)(v:V)(d:Dee):Prop
 | mk (t:Addr) (e:v=.ref t) (h:H t=some (.tup (d.tab.map λn=>V.int (bt n:Nat)))):OuV H v d
inductive AnV (H:Hp)(v:V)(l:Loo):Prop
 | mk (t:Addr) (e:v=.ref t) (h:H t=some (.tup (l.tab.map oS))):AnV H v l
structure DeOk (many:Nat)(d:Dee):Prop where
 len:d.tab.length=many
 up:∀e∈d.tab,e.Pairwise (· < ·)
 inn:∀e∈d.tab,∀x∈e,0<=x/\x<(many:Int)
 few:∀e∈d.tab,e.length<=60
def DeOk.wd (h:DeOk many d)(m:many<=200):∀e∈d.tab,Tz e:=λe a n b=>⟨(h.inn e a n b).1,by have:=(h.inn e a n b).2;lia⟩
inductive P2 (vs:List V)(H:Hp)(Q:VK)(E0_:XK):Prop
 | mk (m:Nat) (a:Addr) (us:List V) (ds:List Dee) (c0:vs=[.int (m:Int),.ref a]) (c1:m<=200) (c2:H a=some (.lst us)) (c3:A2 (DeV H) us ds) (c4:(∀d∈ds,DeOk m d)) (c5:(ds.map Dee.name).Nodup) (c6:ds.length<=40) (c7:∀(d:Addr) (kvs:List (Key×V)) (H':Hp),Same H H'->H d=none->H' d=some (.dK kvs)->KA Dee.name (OuV H') kvs ds->Q (.ref d) H'):P2  vs H Q E0_
inductive P0 (vs:List V)(H:Hp)(Q:VK)(E0_:XK):Prop
 | mk (m:Nat) (a:Addr) (us:List V) (ls:List Loo) (c0:vs=[.int (m:Int),.ref a]) (c1:m<=200) (c2:H a=some (.lst us)) (c3:A2 (LoV H) us ls) (c4:(∀l∈ls,l.tab.length=m)) (c5:(ls.map Loo.name).Nodup) (c6:ls.length<=40) (c7:∀(d:Addr) (kvs:List (Key×V)) (H':Hp),Same H H'->H d=none->H' d=some (.dK kvs)->KA Loo.name (AnV H') kvs ls->Q (.ref d) H'):P0  vs H Q E0_
abbrev IF:List Str:=["many", "deeds"]
abbrev jE:List Str:=BG IF ["found", "deed", "name", "table", "entry"]
def scReadDeeds:Aw jE IF (Ak J6):=AA
abbrev ID:List Str:=["many", "looks"]
abbrev jA:List Str:=BG ID ["found", "look"]
def scReadLooks:Aw jA ID (Ak Ng):=AA
def OuV.keep (k:∀b xs,H b=some (.tup xs)->H' b=some (.tup xs))(h:OuV H v d):OuV H' v d:=by obtain⟨t,e,h⟩:=h;exact⟨t,e,k _ _ h⟩
def AnV.keep (k:∀b xs,H b=some (.tup xs)->H' b=some (.tup xs))(h:AnV H v l):AnV H' v l:=by obtain⟨t,e,h⟩:=h;exact⟨t,e,k _ _ h⟩
def hL (F:Fun K "check_many" "check_many" NF f fd)(M:Mc mg):Aj P w K mg base CX0 1 f fd IT QJ:=by obtain⟨h,e⟩:=M.mw;refine F.oq ZL ?_;rintro d A a s H vs Q E g⟨m,rfl,b,c,q⟩;refine⟨_,(Al (AY (C6 (Rm G2 G2 Ad (pv 0) (CY (v:=.int 200) Φ e ⟨_,U⟩))) B6 AX)),_,U,_,_,U,U,_,U,?_⟩;rw[AV b];apply Bw;refine⟨_,_,U,U,_,U,?_⟩;rw[AV c];exact A7 q
def hJ (F:Fun K "check_name" "check_name" ND f fd)(T:Bl mg)(M:Mc mg):Aj P w K mg base CX0 1 f fd Lj QI:=by obtain⟨h,d⟩:=M.mn;refine F.oq ZK ?_;rintro b A a s H vs Q E e⟨x,rfl,g,i,q⟩;have c:=AB;refine⟨_,(Al (AY (C6 (Rm G2 G2 Ad (Be Cv Φ T.len BM (Aa (pv 0) Ac)) (CY (v:=.int 30) Φ d ⟨_,U⟩))) B6 AX)),_,U,_,_,U,⟨Ψ,U⟩,_,_,U,U,_,U,?_⟩;rw[AV (show(1:Int)<=(x.length:Int) by lia)];apply Bw;refine⟨_,_,U,U,_,U,?_⟩;rw[AV (show(x.length:Int)<=30 by lia)];exact A7 q
def hH (F:Fun K "check_price" "check_price" NC f fd)(M:Mc mg):Aj P w K mg base CX0 1 f fd Li QH:=by obtain⟨h,e⟩:=M.mp;refine F.oq ZJ ?_;rintro d A a s H vs Q E g⟨m,rfl,b,c,q⟩;refine⟨_,(Al (AY (C6 (Rm G2 G2 Ad (pv 0) (CY (v:=.int 1000000000) Φ e ⟨_,U⟩))) B6 AX)),_,U,_,_,U,U,_,U,?_⟩;rw[AV b];apply Bw;refine⟨_,_,U,U,_,U,?_⟩;rw[AV c];exact A7 q
def hE (F:Fun K "check_table" "check_table" Ko f fd)(T:Bl mg):Aj P w K mg base CX0 1 f fd IS MZ:=by refine F.oq ZI ?_;rintro b A a s H vs Q E e⟨m,n,t,xs,rfl,d,c,q⟩;refine⟨_,(Al (AY (AN Fn (Be Cv Φ T.len BM (Aa (pv 2) Ac)) (pv 0) (AJ _)) B6 AX)),_,U,_,_,U,.inl ⟨_,Y.of d,U⟩,_,U,U,_,U,?_⟩;rw[c];refine Bq (λz=>?_) (λ_=>q);simp at z
def hQ (F:Fun K "check_entry" "check_entry" Kp f fd)(T:Bl mg):Aj P w K mg base CX0 1 f fd Lk QL:=by
 refine F.oq ZM λa0 A C s H vs Q E hr h=>?_;obtain⟨m,n,b,ns,rfl,u,R,hx,hl,q⟩:=h;have W:=AB;refine⟨_,(Ai (AY (AN (cO hr.units) (CG LZ Φ T.list DX (Aa (pv 2) Ac)) (Be (tW U) Φ T.sorted Sr (Aa (CG (tX U) Φ T.set Oy (Aa (pv 2) Ac)) Ac)) (AJ _)) B6 AX) (Al (AY (C6 (CS (Be (Ox U) Φ T.all Jk (Aa (B1 (N:=["world", "many"]) (sc:=Ak Kp) (own:=["world"]) (js:=[0]) BA U (BB (pv 2)) (λ_ _ _ _=>A0 (i:=0) (show List.Nodup (["world", "many"]:List Str) by decide +kernel)) (λ_ _ _ _=>BV) (λ_ _ _ _=>(cC G2 IX Ad (pv 0) (pv 1)))) Ac)))) B6 AX))),?_⟩;refine⟨_,U,b,_,U,.inl (Y.of u),λl1 x=>?_⟩;obtain⟨g,g0,L,e1⟩:=DV (H:=H) (o:=.lst (ns.map V.int)) x;rw[g0];have r:=L _ _ u;obtain⟨ds,ed,M,X,ld⟩:=sV ns;have S:ns.map V.int=(ns.map (Sum.inl:Int->Key)).map kV:=by rw[Bk];rfl
 refine⟨_,U,b,ns.map Sum.inl,U,Y.of (by rw[<- S];exact r),by rw[Ah];lia,λst z=>?_⟩;rw[ed];have s2:Same g (upd g st (FW P w st (ds.map Sum.inl))):=Same.new z;refine⟨st,ds,U,Af,M,Ψ,λp d B pm so=>?_⟩;have hz:d=ns:=by have pn:ds.Perm ns:=(perm_ext_iff_of_nodup M (R.imp λh=>Int.ne_of_lt h)).mpr X;exact List.Perm.eq_of_pairwise (λa b _ _ h1 h2=>by lia) so (R.imp λh=>Int.le_of_lt h) (pm.trans pn)
 subst hz;have s3:Same g (upd (upd g st (FW P w st (ds.map Sum.inl))) p (.lst (d.map V.int))):=Same.put (H':=upd g st (FW P w st (ds.map Sum.inl))) (o:=.lst (d.map V.int)) s2 (s2.free B);have e3:(upd (upd g st (FW P w st (ds.map Sum.inl))) p (.lst (d.map V.int))) p=some (.lst (d.map V.int)):=Af;refine⟨l1,p,_,_,_,_,U,U,s3 _ _ e1,e3,Ks _,Ks _,M9 _,M9 _,_,U,?_⟩;rw[Wt];refine A7 ?_;have c:=s3 _ _ r;refine⟨_,U,b,U,⟨_,Y.of c⟩,λD hD=>?_⟩
 refine BK (λi ys l=>ys=(replicate i true).map V.bl/\Same (upd (upd g st (FW P w st (ds.map Sum.inl))) p (.lst (d.map V.int))) l/\l D=some (.lst ys)) ⟨U,Same.new hD,Af⟩
  (λi ys l v j=>by obtain⟨_,e,_⟩:=j;exact⟨_,.int d[i],Y.of (e _ _ c),by simp[v]⟩) (λys l j=>by obtain⟨_,e,_⟩:=j;exact⟨_,Y.of (e _ _ c),Θ⟩) ?_ ?_
 ·rintro i ys l y H4 v ⟨rfl,e,I⟩ ⟨rfl,hy⟩;refine BX ?_;have G:y=.int d[i]:=by have:=hy _ (Y.of (e _ _ c));rw[AU,Ay v]at this;(exact(Bh this).symm)
  subst G;obtain⟨x0,x1⟩:=hx _ (Cb v);refine⟨_,U,_,_,U,U,_,U,?_⟩;rw[AV x0];refine Bw ⟨_,U,_,_,U,U,?_⟩;rw[AV x1];refine⟨_,I,by rw[Ah,Jz];lia,?_,e.put hD,Af⟩;rw[List.replicate_succ',AR];rfl
 rintro ys l ⟨rfl,e,I⟩;refine⟨D,_,U,Y.of I,_,U,?_⟩;rw[show(replicate d.length true).all (λb=>b)=true from E8.mpr λb u=>(List.mem_replicate.mp u).2];exact A7 (q l ((L.trans s3).trans e))
def hF (F:Fun K "check_steps" "check_steps" Ir f fd)(T:Bl mg)(M:Mc mg)(d:Ca P w K mg base CX0 1 "check_name" ND Lj QI)(c:Ca P w K mg base CX0 1 "check_price" NC Li QH):Aj P w K mg base CX0 2 f fd G0 M0:=by
 obtain⟨t1,m1⟩:=M.ms;refine F.oq scCheckSteps λad A a7 s H vs Q E a0 h=>?_;obtain⟨a,b,ds,ls,st,rfl,ha,hb,R,ac,fl,nd,ok,q⟩:=h;have aa:=AB;refine⟨_,(Ai (AY (PW.pt (DE (AN F7 (Be Cv Φ T.len BM (Aa (pv 0) Ac)) (CY (v:=.int 40) Φ m1 ⟨_,U⟩) (AJ _)) (EW (AN F7 (Be Cv Φ T.len BM (Aa (pv 1) Ac)) (CY (v:=.int 40) Φ m1 ⟨_,U⟩) (AJ _))))) B6 AX) (Ai (AO (i:=2) scCheckSteps.nd (AD G3 (CG LZ Φ T.list DX (Aa (pv 0) Ac)) (CG LZ Φ T.list DX (Aa (pv 1) Ac)))) (Ai (Iy (i:=3) (N:=["step"]) (sc:=Ak Ir) (own:=["step"]) (fr:=[]) (js:=[]) scCheckSteps.nd U U BA U (BB (pv 2)) (λ_ _ _ _=>A0 (i:=0) (show List.Nodup (["step"]:List Str) by decide +kernel)) (λ_ _ _ _=>BV) (λ_ _ _ _=>(Ap (C8 K U) (pv 0) Ad (λ_ _=>U)))) (Ai (AY (AN IX (Be Sm Φ T.len BM (Aa (CG (Sl U) Φ T.set Oy (Aa (pv 3) Ac)) Ac)) (Be Cv Φ T.len BM (Aa (pv 3) Ac)) (AJ _)) B6 AX) (Al (CU C2 U (BB (pv 2)) (A0 (i:=4) scCheckSteps.nd) (Ai (CV (Az d a0 Aq (Aa (Ap Bf (pv 4) Ad (λ_ _=>U)) Ac))) (Al (CV (Az c a0 Aq (Aa (Ap Bf (pv 4) Ad (λ_ _=>U)) Ac))))))))))),_,U,_,_,U,.inl ⟨_,Y.of ha,U⟩,_,_,U,U,_,U,?_⟩;refine Bq (λz=>?_) (λ_=>?_)
 ·exfalso;have:=Bp z;lia
 refine⟨_,U,_,_,U,.inl ⟨_,Y.of hb,U⟩,_,_,U,U,_,U,?_⟩;refine Bq (λz=>?_) (λ_=>?_)
 ·exfalso;have:=Bp z;lia
 refine⟨_,U,a,_,U,.inl (Y.of ha),λl1 a4=>?_⟩;obtain⟨H1,W,s1,e1⟩:=DV (H:=H) a4;rw[W];refine⟨_,U,b,_,U,.inl (Y.of (s1 _ _ hb)),λl2 a2=>?_⟩;obtain⟨H2,W,s2,e2⟩:=DV (H:=H1) a2;rw[W];refine⟨l1,l2,_,_,U,U,s2 _ _ e1,e2,Ψ,λl3 a8=>?_⟩;obtain⟨H3,W,s3,e3⟩:=DV (H:=H2) a8;rw[W];have G:=(s1.trans s2).trans s3;have j:=R.mono λv s _ ⟨a,r,e,h⟩=>(⟨a,r,e,G _ _ h⟩:Xt H3 v s);have m:=R.len;have a6:(ds++ls).length<=80:=by rw[AM];lia
 generalize ds++ls=xs at e3 j m a6;refine⟨_,U,l3,U,⟨_,Y.of e3⟩,λD hD=>?_⟩
 refine BK (λi ys p=>ys=((st.take i).map (·.1)).map V.str/\Same H3 p/\p D=some (.lst ys)) ⟨U,Same.new hD,Af⟩
  (λi ys p hi g=>by obtain⟨_,l,_⟩:=g;exact⟨_,xs[i],Y.of (l _ _ e3),by simp[hi]⟩) (λys p g=>by obtain⟨_,l,_⟩:=g;exact⟨_,Y.of (l _ _ e3),Θ⟩) ?_ ?_
 ·rintro i ys p y H5 hi ⟨rfl,l,e4⟩ ⟨rfl,hy⟩;refine BX ?_;obtain⟨B,S,n,a',r',rfl,et⟩:=j.at (hy _ (Y.of (l _ _ e3)));have a9:atI (V.str B.1::V.int B.2::r') ((0:Nat):Int)=some (.str B.1):=Au U;refine⟨_,U,a',_,_,_,U,U,SqT.of (l _ _ et),a9,_,e4,by simp only[Ah,Bm];lia,?_,l.put hD,Af⟩;obtain⟨a5,e⟩:=AW.mp S;rw[BN a5,AR,AR,e];rfl
 rintro ys p ⟨rfl,l,e4⟩;rw[m,BQ]at e4;have ae:(st.map (·.1)).length=st.length:=Ah ..;have ek:(st.map (·.1)).map V.str=((st.map (·.1)).map (Sum.inr:Str->Key)).map kV:=by rw[Bk,Bk,Bk];rfl
 have ab:((st.map (·.1)).map (Sum.inr:Str->Key)).length=st.length:=by rw[Ah,Ah]
 refine⟨_,U,D,(st.map (·.1)).map Sum.inr,U,Y.of (by rw[<- ek];exact e4),Ψ,λu L=>?_⟩;have s5:Same p (upd p u (Ig P w u (SK.dd (B8 ((st.map (·.1)).map (Sum.inr:Str->Key))) ((st.map (·.1)).map (Sum.inr:Str->Key)).length).length)):=Same.new L;refine⟨u,_,U,Af,_,U,_,_,U,.inl ⟨_,Y.of (s5 _ _ e4),U⟩,_,_,U,U,_,U,?_⟩;have a3:((st.map (·.1)).map V.str).length=(st.map (·.1)).length:=Ah ..;refine Bq (λa1=>?_) (λ_=>?_)
 ·exfalso;have:=Bp a1;rw[a3,(UB nd)]at this;lia
 have I:=l.trans s5;refine⟨_,U,l3,U,⟨_,Y.of (I _ _ e3)⟩,DI (K:=K) (a:=l3) (λi σ C=>∃v4:Option V,σ = [some (.ref a),some (.ref b),some (.ref l3),some (.ref D),v4]/\Same H3 C) ⟨none,U,I⟩ (λi σ C _ g=>by obtain⟨_,_,x⟩:=g;exact Y.of (x _ _ e3)) ?_ ?_⟩
 ·rintro i y σ C hy ⟨v4,rfl,x⟩;obtain⟨B,S,n,a',r',rfl,et⟩:=j.at hy;have X:=x _ _ et;have o:=ok _ n;refine⟨_,U,a',_,_,_,U,U,SqT.of X,Au U,B.1,U,o.n1,o.n2,?_⟩;refine⟨_,U,a',_,_,_,U,U,SqT.of X,Au U,B.2,U,o.p1,o.p2,?_⟩;exact⟨_,U,x⟩
 rintro σ C ⟨v4,rfl,x⟩;exact q C (G.trans x)
def eA (F:Fun K "read_looks" "read_looks" Ng f fd)(T:Bl mg)(c:Ca P w K mg base CX0 1 "check_table" Ko IS MZ):Aj P w K mg base CX0 2 f fd ID P0:=by
 refine F.oq scReadLooks λa2 A S s H vs Q E G h=>?_;obtain⟨m,a,us,ls,rfl,hm,ha,hl,ok,nd,few,q⟩:=h;have a1:=AB;refine⟨_,(Ai (AO (i:=2) scReadLooks.nd IB) (Ai (CU C2 U (BB (pv 1)) (A0 (i:=3) scReadLooks.nd) (Ai (CV (Az c G Aq (Aa (pv 0) (Aa (Ap Bf (pv 3) Ad (λ_ _=>U)) (Aa (Ap Bf (pv 3) Ad (λ_ _=>U)) Ac))))) (Al (Fj (Dh G) (pv 2) (Ap Bf (pv 3) Ad (λ_ _=>U)) (CG W2 Φ T.tuple Sq (Aa (Ap Bf (pv 3) Ad (λ_ _=>U)) Ac)) U)))) (Al (Av (pv 2))))),?_⟩;intro d hd;have s0:Same H (upd H d (.dK [])):=Same.new hd;refine⟨_,U,a,U,⟨_,Y.of (s0 _ _ ha)⟩,DI (K:=K) (a:=a) (λi M j=>∃(v3:Option V) (kvs:List (Key×V)),M = [some (.int (m:Int)),some (.ref a),some (.ref d),v3]/\Same H j/\j d=some (.dK kvs)/\KA Loo.name (AnV j) kvs (ls.take i)) ⟨none,[],U,s0,Af,by rw[EO];exact KA.nil⟩ (λi M j _ N=>by obtain⟨_,_,_,s2,_⟩:=N;exact Y.of (s2 _ _ ha)) ?_ ?_⟩
 ·rintro i y M j hy ⟨v3,kvs,rfl,s2,e2,o⟩;obtain⟨l,X,a0,t,⟨L,rfl,et⟩,ht⟩:=hl.at hy;have I:atI [V.str l.name,V.int l.price,V.ref t] ((0:Nat):Int)=some (.str l.name):=Au U;have C:atI [V.str l.name,V.int l.price,V.ref t] ((2:Nat):Int)=some (.ref t):=Au U;have g:=s2 _ _ et;have B:=s2 _ _ ht;have R:(l.tab.map oS).length=m:=by rw[Ah];exact ok l a0
  have W:=o.len;rw[Bm]at W;obtain⟨p,ei⟩:=AW.mp X
  have n:=o.none λz=>by
   have D:((ls.take (i+1)).map Loo.name).Nodup:=by rw[FG];exact JC (Hr _ _) nd
   rw[BN p,ei,AR]at D;exact(Dj.mp D).2.2 _ z l.name (AF.mpr U) U
  refine⟨_,U,_,U,L,_,_,_,U,U,SqT.of g,I,_,U,L,_,_,_,U,U,SqT.of g,C,_,_,t,_,U,B,by rw[R],_,U,L,_,_,_,U,U,SqT.of g,C,t,_,U,.inl ⟨Y.of B,λtp u=>?_⟩⟩;have s3:Same j (upd j tp (.tup (l.tab.map oS))):=Same.new u;refine⟨_,U,_,U,L,_,_,_,U,U,SqT.of (s3 _ _ g),I,d,_,U,DPut.k (k:=(Sum.inr l.name:Key)) (s3 _ _ e2) Ψ,?_⟩;rw[Er _ n];refine⟨_,_,U,(s2.trans s3).put hd,Af,?_⟩;rw[BN p,ei];refine KA.snoc (o.mono λv x _ r=>r.keep λb xs e=>?_) ⟨tp,U,by rw[Ao ((A1 e2 u).symm)];exact Af⟩;rw[Ao (Ba e e2 nofun)];exact s3 _ _ e
 rintro M j ⟨v3,kvs,rfl,s2,e2,o⟩;rw[hl.len,BQ]at o;exact⟨_,U,q d kvs j s2 hd e2 o⟩
def eF (F:Fun K "read_deeds" "read_deeds" J6 f fd)(T:Bl mg)(g:Ca P w K mg base CX0 1 "check_table" Ko IS MZ)(c:Ca P w K mg base CX0 1 "check_entry" Kp Lk QL)(u:Ca P w K mg base CX0 1 "set_of" FX Fm (GC K)):Aj P w K mg base CX0 2 f fd IF P2:=by
 refine F.oq scReadDeeds λaf A ac s H vs Q E N h=>?_;obtain⟨m,a,us,ds,rfl,hm,ha,hl,ok,nd,few,q⟩:=h;have ae:=AB;refine⟨_,(Ai (AO (i:=2) scReadDeeds.nd IB) (Ai (CU C2 U (BB (pv 1)) (A0 (i:=3) scReadDeeds.nd) (Ai (AO (i:=4) scReadDeeds.nd (Ap Bf (pv 3) Ad (λ_ _=>U))) (Ai (AO (i:=5) scReadDeeds.nd (Ap Bf (pv 3) Ad (λ_ _=>U))) (Ai (CV (Az g N Aq (Aa (pv 0) (Aa (pv 4) (Aa (pv 5) Ac))))) (Ai (CU C2 U (BB (pv 5)) (A0 (i:=6) scReadDeeds.nd) (Al (CV (Az c N Aq (Aa (pv 0) (Aa (pv 4) (Aa (pv 6) Ac))))))) (Al (Fj (Dh N) (pv 2) (pv 4) (CG W2 Φ T.tuple Sq (Aa (B1 (sc:=Ak J6) (own:=["entry"]) (js:=[]) BA U (BB (pv 5)) (λ_ _ _ _=>A0 (i:=0) (show List.Nodup (["entry"]:List Str) by decide +kernel)) (λ_ _ _ _=>BV) (λ_ _ _ _=>(Az u N Aq (Aa (pv 0) Ac)))) Ac)) U))))))) (Al (Av (pv 2))))),?_⟩;intro d hd;have s0:Same H (upd H d (.dK [])):=Same.new hd;refine⟨_,U,a,U,⟨_,Y.of (s0 _ _ ha)⟩,DI (K:=K) (a:=a) (λi I R=>∃(v3 v4 v5 v6:Option V) (kvs:List (Key×V)),I = [some (.int (m:Int)),some (.ref a),some (.ref d),v3,v4,v5,v6]/\Same H R/\R d=some (.dK kvs)/\KA Dee.name (OuV R) kvs (ds.take i)) ⟨none,none,none,none,[],U,s0,Af,by rw[EO];exact KA.nil⟩ (λi I R _ p=>by obtain⟨_,_,_,_,_,_,s2,_⟩:=p;exact Y.of (s2 _ _ ha)) ?_ ?_⟩
 ·rintro i y I R hy ⟨v3,v4,v5,v6,kvs,rfl,s2,e2,ka⟩;obtain⟨l,aa,ad,t,es,⟨a',rfl,et⟩,ht,he⟩:=hl.at hy;have a3:=s2 _ _ et;have G:=s2 _ _ ht;have o:=ok l ad;have a7:=he.len;have a9:=ka.len;rw[Bm]at a9;obtain⟨a4,ei⟩:=AW.mp aa
  have a1:=ka.none λz=>by
   have a8:((ds.take (i+1)).map Dee.name).Nodup:=by rw[FG];exact JC (Hr _ _) nd
   rw[BN a4,ei,AR]at a8;exact(Dj.mp a8).2.2 _ z l.name (AF.mpr U) U
  refine⟨_,U,a',_,_,_,U,U,SqT.of a3,Au U,?_⟩;refine⟨_,U,a',_,_,_,U,U,SqT.of a3,Au U,?_⟩;refine⟨_,U,_,U,_,U,_,_,t,_,U,G,by rw[a7,o.len],_,U,t,U,⟨_,Y.of G⟩,DI (K:=K) (a:=t) (xs:=es) (λj I H3=>(∃W:Option V,I = [some (.int (m:Int)),some (.ref a),some (.ref d),some (.ref a'),some (.str l.name),some (.ref t),W])/\Same R H3) ⟨⟨_,U⟩,Same.refl _⟩ (λj I H3 _ p=>by obtain⟨_,s3⟩:=p;exact Y.of (s3 _ _ G)) ?_ ?_⟩
  ·rintro j y I H3 S ⟨⟨W,rfl⟩,s3⟩;obtain⟨ns,a2,C,b,rfl,eb⟩:=he.at S;exact⟨_,U,_,U,_,U,_,_,b,ns,U,(s2.trans s3) _ _ eb,o.up ns C,o.inn ns C,o.few ns C,λL B=>⟨⟨_,U⟩,s3.trans B⟩⟩
  rintro I H3 ⟨⟨W,rfl⟩,s3⟩;have M:=s3 _ _ G;refine⟨_,U,t,U,⟨_,Y.of M⟩,λD hD=>?_⟩
  refine BK (λj ys L=>ys=(l.tab.take j).map (λn=>V.int (bt n:Nat))/\Same H3 L/\L D=some (.lst ys)) ⟨U,Same.new hD,Af⟩
   (λj ys L hj p=>by obtain⟨_,B,_⟩:=p;exact⟨_,es[j],Y.of (B _ _ M),by simp[hj]⟩) (λys L p=>by obtain⟨_,B,_⟩:=p;exact⟨_,Y.of (B _ _ M),Θ⟩) ?_ ?_
  ·rintro j ys L y H5 hj ⟨rfl,B,e4⟩ ⟨rfl,S⟩;refine BX ?_;obtain⟨ns,a2,C,b,rfl,eb⟩:=he.at (S _ (Y.of (B _ _ M)));refine⟨_,U,b,ns,U,Y.of (((s2.trans s3).trans B) _ _ eb),o.wd hm ns C,_,e4,by rw[Ah,Bm,o.len];lia,?_,B.put hD,Af⟩;obtain⟨ab,ej⟩:=AW.mp a2;rw[BN ab,AR,ej];rfl
  rintro ys L ⟨rfl,B,e4⟩;rw[a7,BQ]at e4;refine⟨D,_,U,.inl ⟨Y.of e4,λtp a6=>?_⟩⟩;have X:=s3.trans B;have a0:Same L (upd L tp (.tup (l.tab.map λn=>V.int (bt n:Nat)))):=Same.new a6;have a5:=X _ _ e2;refine⟨_,U,_,U,d,_,U,DPut.k (k:=(Sum.inr l.name:Key)) (a0 _ _ a5) Ψ,?_⟩;rw[Er _ a1];refine⟨_,_,_,_,_,U,((s2.trans X).trans a0).put hd,Af,?_⟩;rw[BN a4,ei];refine KA.snoc (ka.mono λv x _ r=>r.keep λb xs e=>?_) ⟨tp,U,by rw[Ao ((A1 a5 a6).symm)];exact Af⟩;rw[Ao (Ba e e2 nofun)];exact a0 _ _ (X _ _ e)
 rintro I R ⟨v3,v4,v5,v6,kvs,rfl,s2,e2,ka⟩;rw[hl.len,BQ]at ka;exact⟨_,U,q d kvs R s2 hd e2 ka⟩
def Ss:bootBuiltins "enumerate" = some (.type "enumerate"):=by decide +kernel
def W7:bootBuiltins "dict" = some (.type "dict"):=by decide +kernel
def Od {c:It} (d:Nat->List V->Hp->Prop)(r:d 0 [] (upd H0 D (.lst [])))
  (A:∀i ys H,i<n->d i ys H->c.go i H)(j:∀ys H,d n ys H->c.stop n H)
  (z:∀i ys H x g,i<n->d i ys H->c.yld i H x g->∃(a:Addr) (u v:V),x=.ref a/\SqT K g a [u,v]/\tc (some u::some v::ρ) g λb q=>if b=true then te (some u::some v::ρ) q λy o=>∃l,o D=some (.lst l)/\l.length<sizeLine/\d (i+1) (l++[y]) (upd o D (.lst (l++[y])))else d (i+1) ys q)
  (E:∀ys H,d n ys H->fin H):∃W:Nat->Nat->List V->Hp->Prop,(∃m,W 0 m [] (upd H0 D (.lst [])))/\GB c D (none::none::ρ) (Jd K 2 (Je (EC 0) (Je (EC 1) R3))) tc te fin W:=by
 refine⟨λi m ys H=>m=n-i/\i<=n/\d i ys H,⟨n,U,Bt _,r⟩,?_⟩
 rintro i m ys H ⟨rfl,F,p⟩
 by_cases f:i<n
 ·refine .inr ⟨A i ys H f p,d (i+1),λB H' s=>⟨n-(i+1),Ψ,U,f,s⟩,λx g y=>?_⟩;obtain⟨a,u,v,rfl,C,h⟩:=z i ys H x g f p y;exact⟨a,_,U,C,U,_,_,U,_,_,U,U,YO,h⟩
 have e:i=n:=by lia
 subst e
 exact .inl ⟨j ys H p,E ys H p⟩
def rB {a:Addr}{xs:List V}{g:TG}{n:TS}{D:Gw}{b:L2.St}{H:Hp}(c:Nat->L2.St->Hp->Prop)(u:c 0 b H)(z:∀i b H,i<=xs.length->c i b H->SqT K H a xs)
  (C:∀i x p b H,xs[i]? = some x->c i b H->H p=none->g (.ref p) b (upd H p (.tup [.int (i:Nat),x])) λf j=>n { D with nx:=c (i+1),ct:=c (i+1),bk:=D.nx } f j)(A:∀b H,c xs.length b H->D.nx b H) :
  ∃W:Nat->Nat->L2.St->Hp->Prop,(∃m,W 0 m b H)/\∀i m b H,W i m b H ->
   ((JR K a).stop i H/\D.nx b H)\/((JR K a).go i H/\∃N:L2.St->Hp->Prop,(∀d H',N d H'->∃l,l<m/\W (i+1) l d H')/\∀x H',(JR K a).yld i H x H'->g x b H' λf j=>n { D with nx:=N,ct:=N,bk:=D.nx } f j):=by
 refine⟨λi m b H=>m=xs.length-i/\i<=xs.length/\c i b H,⟨xs.length,Θ,Bt _,u⟩,?_⟩
 rintro i m b H ⟨rfl,v,p⟩
 have q:=z i b H v p
 by_cases h:i<xs.length
 ·refine .inr ⟨⟨xs,xs[i],q,by simp[h]⟩,c (i+1),λd H' B=>⟨xs.length-(i+1),Ψ,U,h,B⟩,λx H' y=>?_⟩;obtain⟨o,s,rfl,E,rfl,r⟩:=y;exact C i s o b H (r xs q) p E
 have e:i=xs.length:=by lia
 subst e
 exact .inl ⟨⟨xs,q,U⟩,A b H p⟩
def Wh {a:Addr}{o:Obj}{kvs:List (Key×V)}{g:TG}{r:TS}{D:Gw}{b:L2.St}{H:Hp}(c:Nat->L2.St->Hp->Prop)(z:c 0 b H)(A:∀i b H,i<=kvs.length->c i b H->H a=some (.frz o (.dK kvs)))
  (C:∀i j p b H,kvs[i]? = some j->c i b H->H p=none->g (.ref p) b (upd H p (.tup [kV j.1,j.2])) λf l=>r { D with nx:=c (i+1),ct:=c (i+1),bk:=D.nx } f l)(F:∀b H,c kvs.length b H->D.nx b H) :
  ∃W:Nat->Nat->L2.St->Hp->Prop,(∃m,W 0 m b H)/\∀i m b H,W i m b H ->
   ((JQ a o kvs).stop i H/\D.nx b H)\/((JQ a o kvs).go i H/\∃N:L2.St->Hp->Prop,(∀d H',N d H'->∃n,n<m/\W (i+1) n d H')/\∀x H',(JQ a o kvs).yld i H x H'->g x b H' λf l=>r { D with nx:=N,ct:=N,bk:=D.nx } f l):=by
 refine⟨λi m b H=>m=kvs.length-i/\i<=kvs.length/\c i b H,⟨kvs.length,Θ,Bt _,z⟩,?_⟩
 rintro i m b H ⟨rfl,u,p⟩
 have q:=A i b H u p
 by_cases h:i<kvs.length
 ·refine .inr ⟨⟨h,q⟩,c (i+1),λd H' B=>⟨kvs.length-(i+1),Ψ,U,h,B⟩,λx H' y=>?_⟩;obtain⟨s,k,v,rfl,G,rfl,E⟩:=y;exact C i (k,v) s b H E p G
 have e:i=kvs.length:=by lia
 subst e
 exact .inl ⟨⟨An _,q⟩,F b H p⟩
def DU (tab:List (Option Str))(s:Str):List Int:=((List.range tab.length).filter λi=>decide (tab[i]? = some (some s))).map λi:Nat=>(i:Int)
def RU (a:List (Option Str))(x:Option Str)(s:Str):DU (a++[x]) s=DU a s++(if x=some s then [(a.length:Int)]else []):=by
 unfold DU;rw[AM,Gu,L4,Me,AR];congr 1
 ·congr 1;refine L9 λi b=>?_;rw[CQ (Dz.mp b)]
 by_cases h:x=some s
 ·rw[As h,OV (by simp[h])];rfl
 rw[Ag h,OU (by simp[h])];rfl
structure PsOk (tab:List (Option Str))(ps:List (Str×V)):Prop where
 nd:(ps.map (·.1)).Nodup
 val:∀p∈ps,p.2=V.int (bt (DU tab p.1):Nat)
 has:∀s,some s∈tab↔s∈ps.map (·.1)
abbrev kf (p:Str×V):Key×V:=(Sum.inr p.1,p.2)
def PsOk.zero:PsOk [] []:=⟨nodup_nil,(λp h=>nomatch h),λs=>⟨(λh=>nomatch h),(λh=>nomatch h)⟩⟩
def PsOk.skip (h:PsOk tab ps):PsOk (tab++[none]) ps:=⟨h.nd,λp a=>by
 rw[RU,Ag Θ,BC];exact h.val p a,λs=>by
 rw[<- h.has s];simp⟩
def T3 {ps:List (Str×V)}{s:Str}(h:s∉ps.map (·.1)):Bj (ps.map kf) (Sum.inr s:Key)=none:=by
 cases e:Bj (ps.map kf) (Sum.inr s:Key)with
 | none=>rfl
 | some v=>exfalso;have:=MD e;rw[Bk]at this;obtain⟨p,a,ep⟩:=AK.mp this;exact h (AK.mpr ⟨p,a,DY ep⟩)
def PsOk.old (h:PsOk tab ps)(s:Str):(Bj (ps.map kf) (Sum.inr s:Key)).getD (.int 0)=V.int (bt (DU tab s):Nat):=by
 by_cases a:s∈ps.map (·.1)
 ·obtain⟨p,c,ep⟩:=AK.mp a;obtain⟨i,b⟩:=Hu c;have d:(ps.map kf)[i]? = some (kf p):=by rw[AU,b];rfl
  have f:((ps.map kf).map (·.1)).Nodup:=by rw[Bk,show((λx:Key×V=>x.1) ∘ kf)=(Sum.inr ∘ λp:Str×V=>p.1) from U,<- Bk];exact Ma.mpr (SM (λh e=>h (DY e)) h.nd)
  have:=T2 f d;rw[show(kf p).1=(Sum.inr s:Key) from by rw[<- ep]]at this;rw[this,<- ep];exact h.val p c
 rw[T3 a]
 have e:DU tab s=[]:=by
  unfold DU;rw[filter_eq_nil_iff.mpr λi b z=>?_]
  ·rfl
  exact a ((h.has s).mp (Cc (Bp z)))
 rw[e];rfl
def PsOk.put (h:PsOk tab ps)(s:Str):∃ps':List (Str×V),Cq (ps.map kf) (Sum.inr s:Key) (V.int (bt (DU (tab++[some s]) s):Nat))=ps'.map kf/\PsOk (tab++[some s]) ps':=by
 generalize hv:V.int (bt (DU (tab++[some s]) s):Nat)=v;have c:∀x,x≠s->DU (tab++[some s]) x=DU tab x:=λx q=>by rw[RU,Ag (λe=>q (Bh e).symm),BC]
 have d:∀x,some x∈tab++[some s]↔(some x∈tab\/x=s):=λx=>by rw[Br,AF,Option.some.injEq]
 by_cases f:s∈ps.map (·.1)
 ·refine⟨ps.map λp=>if p.1=s then(p.1,v)else p,?_,?_⟩
  ·unfold Cq;rw[As]
   ·rw[Bk,Bk];refine map_congr_left λp _=>?_;show(if (Sum.inr p.1:Key)=Sum.inr s then((Sum.inr p.1:Key),v)else(Sum.inr p.1,p.2))=kf (if p.1=s then(p.1,v)else p);by_cases e:p.1=s
    ·rw[As (by rw[e]),As e]
    rw[Ag (λz=>e (DY z)),Ag e]
   obtain⟨p,g,ep⟩:=AK.mp f;exact Hn.mpr ⟨kf p,AK.mpr ⟨p,g,U⟩,AV (by rw[<- ep])⟩
  have m:(ps.map λp=>if p.1=s then(p.1,v)else p).map (·.1)=ps.map (·.1):=by rw[Bk];refine map_congr_left λp _=>?_;show(if p.1=s then(p.1,v)else p).1=p.1;split <;> rfl
  refine⟨m▸h.nd,λp g=>?_,λx=>?_⟩
  ·obtain⟨n,l,e⟩:=AK.mp g;by_cases i:n.1=s
   ·rw[As i]at e;rw[<- e];rw[<- hv,i]
   rw[Ag i]at e;rw[<- e,c _ i];exact h.val n l
  rw[m,d,h.has];exact⟨λz=>z.elim id (λe=>by rw[e];exact f),.inl⟩
 refine⟨ps++[(s,v)],?_,?_⟩
 ·rw[Er _ (T3 f),AR];rfl
 refine⟨?_,λp g=>?_,λx=>?_⟩
 ·rw[AR];exact Dj.mpr ⟨h.nd,Θ,λa r b o e=>f (by have j:b=s:=AF.mp o;rw[<- j,<- e];exact r)⟩
 ·rcases(Br.mp g)with z | z
  ·rw[c _ (λe=>f (by rw[<- e];exact AK.mpr ⟨p,z,U⟩))];exact h.val p z
  rw[AF.mp z];exact hv.symm
 rw[d,h.has,AR,Br];simp
inductive P5 (vs:List V)(H:Hp)(Q:VK)(E0_:XK):Prop
 | mk (t:Addr) (tab:List (Option Str)) (as:List Str) (c0:vs=[.ref t]) (c1:H t=some (.tup (tab.map oS))) (c2:tab.length<=200) (c3:(∀s,some s∈tab->s∈as)) (c4:as.length<=3) (c5:as.Nodup) (c6:∀(r:Addr) (ro:Obj) (ts:List Addr) (ps zs:List (Str×V)) (H':Hp),Same H H'->ro.dict=none->H' r=some (.frz ro (.tup (ts.map V.ref)))->O8 H' ts zs->zs.Perm ps->N9 zs=true->PsOk tab ps->Q (.ref r) H'):P5  vs H Q E0_
abbrev IH:List Str:=["answers"]
abbrev jH:List Str:=BG IH ["found", "world", "answer"]
def scParted:Aw jH IH (Ak Ni):=AA
def eU (F:Fun K "parted" "parted" Ni f fd)(T:Bl mg)(b:Ca P w K mg base CX0 1 "set_of" FX Fm (GC K)):Aj P w K mg base CX0 2 f fd IH P5:=by
 refine F.oq scParted λa5 A S s H vs Q E C h=>?_;obtain⟨t,c,as,rfl,ht,hl,y,a3,a1,q⟩:=h;have hu:=Dh C;have a2:=AB;refine⟨_,(Ai (AO (i:=1) scParted.nd IB) (Ai (CU C2 U (Rq Φ T.enumerate Ss (Aa (pv 0) Ac)) (GO U (DG (A0 (i:=2) scParted.nd) (DG (A0 (i:=3) scParted.nd) GN))) (Al (AY (AN Rz (pv 3) CW (AJ _)) (Al (Fj hu (pv 1) (pv 3) (AD Vp (cB hu (pv 1) (pv 3) Ad ⟨Φ,Φ,Φ,Φ⟩) (Az b C Aq (Aa (Cu (Aa (pv 2) Ac)) Ac))) U)) AX))) (Al (Av (CG tR Φ T.tuple Sq (Aa (Be (tV U) Φ T.sorted Sr (Aa (Vh Jn JH Th mM (pv 1)) Ac)) Ac)))))),?_⟩;intro d hd;have s0:Same H (upd H d (.dK [])):=Same.new hd;refine⟨_,U,t,U,⟨_,SqT.of (s0 _ _ ht)⟩,rB (K:=K) (a:=t) (λi D g=>∃(M L:Option V) (ps:List (Str×V)),D = [some (.ref t),some (.ref d),M,L]/\Same H g/\g d=some (.dK (ps.map kf))/\PsOk (c.take i) ps) ⟨none,none,[],U,s0,Af,by rw[EO];exact PsOk.zero⟩ (λi D g _ N=>by obtain⟨_,_,_,_,s2,_⟩:=N;exact SqT.of (s2 _ _ ht)) ?_ ?_⟩
 ·rintro i x p D g B ⟨M,L,ps,rfl,s2,e2,e⟩ hp;rw[AU]at B;cases hti:c[i]? with
  | none=>rw[hti]at B;cases B
  | some o=>
   rw[hti]at B;have a0:x=oS o:=(Bh B).symm;subst a0;obtain⟨hi,ei⟩:=AW.mp hti;have j:c.take (i+1)=c.take i++[o]:=by rw[BN hi,ei]
   have s3:Same g (upd g p (.tup [.int (i:Nat),oS o])):=Same.new hp;refine⟨p,_,U,SqT.of Af,U,_,_,U,_,_,U,U,?_⟩;generalize (upd g p (.tup [.int (i:Nat),oS o]))=H3 at s3 ⊢;have e3:=s3 _ _ e2;cases o with
   | none=>refine⟨_,U,U,_,U,?_⟩;refine A7 ⟨_,_,ps,U,s2.trans s3,e3,?_⟩;rw[j];exact e.skip
   | some sa=>
    refine⟨_,U,U,_,U,?_⟩;refine Bw ⟨_,U,d,U,.inl ⟨_,.inl e3⟩,_,U,_,DGet.k (k:=(Sum.inr sa:Key)) e3,?_⟩;rw[e.old sa];refine⟨_,U,AG,λlb R=>?_⟩;have G:Same H3 (upd H3 lb (.lst [.int (i:Nat)])):=Same.new R;refine⟨lb,[(i:Int)],U,Y.of Af,λn hn=>by rw[AF.mp hn];exact⟨Ψ,Ψ⟩,_,_,U,U,?_⟩;have X:Builtin.bitOr ((bt (DU (c.take i) sa):Nat):Int) ((bt [(i:Int)]:Nat):Int)=((bt (DU (c.take (i+1)) sa):Nat):Int):=by rw[Vn,j,RU,As U,Bm,Mi Ψ,W6,show bt [(i:Int)]=2^((i:Int)).toNat from by unfold bt;simp]
    rw[X];obtain⟨W,e',u⟩:=e.put sa;rw[<- j]at e' u;have a4:(ps.map kf).length<=200:=by have m:=Tv e.nd λz hz=>y z (mem_of_mem_take ((e.has z).mpr hz));rw[Ah]at m ⊢;lia
    refine⟨_,U,_,U,d,_,U,DPut.k (k:=(Sum.inr sa:Key)) (G _ _ e3) Ψ,?_⟩;rw[e'];exact⟨_,_,W,U,((s2.trans s3).trans G).put hd,Af,u⟩
 rintro D g ⟨M,L,ps,rfl,s2,e2,e⟩;rw[Ah,BQ]at e;have h3:ps.length<=3:=by have m:=Tv e.nd λz hz=>y z ((e.has z).mpr hz);rw[Ah]at m;lia
 refine⟨_,U,.inr (.inr (.inl ⟨U,.inl ⟨_,e2⟩⟩)),d,_,U,U,e2,λv hv=>?_⟩;have s3:Same g (upd g v (BO v d)):=Same.new hv;refine⟨v,d,ps,U,Af,s3 _ _ e2,h3,λl ts zs H4 G a6 pm lt el pr=>⟨l,_,U,Y.of el,λr ro hr I=>?_⟩⟩;have s5:Same H4 (upd H4 r (.frz ro (.tup (ts.map V.ref)))):=Same.new hr;exact q r ro ts ps zs _ (((s2.trans s3).trans G).trans s5) I Af ⟨pr.1,λi a p m h2=>s5 _ _ (pr.2 i a p m h2)⟩ pm lt e
abbrev IR:List Str:=["outs", "answers"]
abbrev lA:List Str:=BG IR ["found", "name", "sets", "told"]
def scDoableSets:Aw lA IR (Ak Iq):=AA
def Dq {α:Type}(p:α->Bool)(tab:List α):List Int:=((List.range tab.length).filter λi=>(tab[i]?.map p).getD false).map λi:Nat=>(i:Int)
def WC {b:Type}(p:b->Bool)(a:List b)(x:b):Dq p (a++[x])=Dq p a++(if p x=true then [(a.length:Int)]else []):=by
 unfold Dq;rw[AM,Gu,L4,Me,AR];congr 1
 ·congr 1;refine L9 λi c=>?_;rw[CQ (Dz.mp c)]
 by_cases h:p x=true
 ·rw[As h,OV (by simp[h])];rfl
 rw[Ag h,OU (by simp[h])];rfl
def WB {b:Type}(p:b->Bool){a:List b}(h:a.length<=200):Tz (Dq p a):=λn d=>by obtain⟨i,c,rfl⟩:=AK.mp d;have:=Dz.mp (Hm.mp c).1;exact⟨Ψ,Ψ⟩
def sO {b:Type}(p:b->Bool)(a:List b):(Dq p a).length<=a.length:=by unfold Dq;rw[Ah];exact Ed (Hx _ _) (Dv▸An _)
inductive QC (vs:List V)(H:Hp)(Q:VK)(E0_:XK):Prop
 | mk (a b:Addr) (ka kb:List (Key×V)) (ds:List Dee) (ls:List Loo) (o2:Obj) (c0:vs=[.ref a,.ref b]) (c1:a≠b) (c2:H a=some (.dK ka)) (c3:H b=some (.frz o2 (.dK kb))) (c4:KA Dee.name (OuV H) ka ds) (c5:KA Loo.name (AnV H) kb ls) (c6:(ds.map Dee.name++ls.map Loo.name).Nodup) (c7:ds.length<=40) (c8:ls.length<=40) (c9:(∀d∈ds,d.tab.length<=200)) (c10:(∀l∈ls,l.tab.length<=200)) (c11:∀(d:Addr) (kvs:List (Key×V)) (H':Hp) (o1:Obj),(∀c u,H c=some u->c≠a->H' c=some u)->H d=none->H' d=some (.dK kvs)->H' a=some (.frz o1 (.dK ka)) ->     KA (λp:Str×Nat=>p.1) (λv p=>v=V.int (p.2:Int)) kvs (ds.map (λd=>(d.name,bt (Dq (λn=>decide (bt n≠0)) d.tab)))++ls.map λl=>(l.name,bt (Dq isSome l.tab)))->Q (.ref d) H'):QC  vs H Q E0_
def KA.snoc2 {k:Nat}(h:KA (λp:Str×Nat=>p.1) (λv p=>v=V.int (p.2:Int)) kvs L):KA (λp:Str×Nat=>p.1) (λv p=>v=V.int (p.2:Int)) (kvs++[(Sum.inr n,V.int (k:Int))]) (L++[(n,k)]):=KA.snoc (d:=(n,k)) h U
def HZ {a:Type}{xs:List a}{i:Nat}{x:a}(h:xs[i]? = some x):xs.take (i+1)=xs.take i++[x]:=by (obtain⟨b,e⟩:=AW.mp h);rw[BN b,e]
def WA {v:Type}(p:v->Bool){K:W.Frag}{t D:Addr}{xs:List V}{a:List v}{o:Hp}(l:xs.length=a.length)(f:o t=some (.tup xs))(M:a.length<=200){g:Hp->Prop}{G:TT}{F:L2.St}(hD:o D=none)
  (n:∀(j:Nat) (x:V) (y:v) (c:Hp) (A B:Hp->Prop),xs[j]? = some x->a[j]? = some y->(p y=true->A c)->(¬p y=true->B c)->G (some (.int (j:Nat))::some x::F) c λb z=>if b=true then A z else B z)
  (q:∀c:Hp,Same o c->c D=some (.lst ((Dq p a).map V.int))->g c):∃W:Nat->Nat->List V->Hp->Prop,(∃m,W 0 m [] (upd o D (.lst [])))/\GB (JR K t) D (none::none::F) (Jd K 2 (Je (EC 0) (Je (EC 1) R3))) G (Ia 0) g W:=by
 have I:=AB
 refine Od (K:=K) (λj ys c=>ys=(Dq p (a.take j)).map V.int/\Same o c/\c D=some (.lst ys)) ⟨U,Same.new hD,Af⟩
  (λj ys c H e=>by obtain⟨_,d,_⟩:=e;exact⟨_,xs[j],SqT.of (d _ _ f),by simp[H]⟩) (λys c e=>by obtain⟨_,d,_⟩:=e;exact⟨_,SqT.of (d _ _ f),U⟩) ?_ ?_
 ·rintro j ys c x z H ⟨rfl,d,r⟩ ⟨pp,x',rfl,hpp,rfl,hx⟩;have u:j<a.length:=by lia
  have E:=Ay u;have s:Same c (upd c pp (.tup [.int (j:Nat),x'])):=Same.new hpp;have i:=HZ E;have C:(a.take j).length=j:=by rw[Bm];lia
  have L:=sO p (a.take j);refine⟨pp,_,_,U,SqT.of Af,n j x' _ _ _ _ (hx _ (SqT.of (d _ _ f))) E (λh=>?_) (λh=>⟨?_,d.trans s,s _ _ r⟩)⟩
  ·refine⟨_,U,_,s _ _ r,by rw[Ah];lia,?_,(d.trans s).put hD,Af⟩;rw[i,WC,As h,AR,C];rfl
  rw[i,WC,Ag h,BC]
 rintro ys c ⟨rfl,d,r⟩
 rw[l,BQ]at r
 exact q c d r
def gV (F:Fun K "doable_sets" "doable_sets" Iq f fd)(T:Bl mg)(m:Ca P w K mg base CX0 1 "set_of" FX Fm (GC K)):Aj P w K mg base CX0 2 f fd IR QC:=by
 refine F.oq scDoableSets λaq A an s H vs Q E a4 h=>?_;obtain⟨a,b,ka,kb,ds,ls,o2,rfl,ab,ha,hb,ad,ae,nd,ar,fl,td,tl,q⟩:=h;have hu:=Dh a4;have ap:=AB;refine⟨_,(Ai (AO (i:=2) scDoableSets.nd IB) (Ai (CU C2 U (Rn (Rt (pv 0))) (GO U (DG (A0 (i:=3) scDoableSets.nd) (DG (A0 (i:=4) scDoableSets.nd) GN))) (Al (Fj hu (pv 2) (pv 3) (Az m a4 Aq (Aa (B1 (sc:=Ak Iq) (own:=["world", "some"]) (js:=[]) BA U (Rq Φ T.enumerate Ss (Aa (pv 4) Ac)) (λ_ _ _ _=>Oi K U (GO (n:=2) U (DG (A0 (i:=0) (show List.Nodup (["world", "some"]:List Str) by decide +kernel)) (DG (A0 (i:=1) (show List.Nodup (["world", "some"]:List Str) by decide +kernel)) GN)))) (λ_ _ _ _=>GM (AN Fn (pv 1) Ad (AJ _))) (λ_ _ _ _=>(pv 0))) Ac)) U))) (Ai (CU C2 U (Rn (Rt (pv 1))) (GO U (DG (A0 (i:=3) scDoableSets.nd) (DG (A0 (i:=5) scDoableSets.nd) GN))) (Al (Fj hu (pv 2) (pv 3) (Az m a4 Aq (Aa (B1 (sc:=Ak Iq) (own:=["world", "answer"]) (js:=[]) BA U (Rq Φ T.enumerate Ss (Aa (pv 5) Ac)) (λ_ _ _ _=>Oi K U (GO (n:=2) U (DG (A0 (i:=0) (show List.Nodup (["world", "answer"]:List Str) by decide +kernel)) (DG (A0 (i:=1) (show List.Nodup (["world", "answer"]:List Str) by decide +kernel)) GN)))) (λ_ _ _ _=>GM (AN Rz (pv 1) CW (AJ _))) (λ_ _ _ _=>(pv 0))) Ac)) U))) (Al (Av (pv 2)))))),?_⟩;intro d hd;have s0:Same H (upd H d (.dK [])):=Same.new hd;have da:a≠d:=A1 ha hd;have db:b≠d:=A1 hb hd;refine⟨_,U,a,ka,U,.inl (s0 _ _ ha),λv hv=>?_⟩;have s1:Same (upd H d (.dK [])) (upd (upd H d (.dK [])) v (BO v a)):=Same.new hv;have ag:=s0.trans s1;have vd:d≠v:=λz=>by rw[<- z,Af]at hv;cases hv
 refine⟨v,a,ka,U,Af,.inl ⟨ag _ _ ha,λo1=>?_⟩⟩;have aa:∀c u,H c=some u->c≠a->(upd (upd (upd H d (.dK [])) v (BO v a)) a (.frz o1 (.dK ka))) c=some u:=λc u e X=>by rw[Ao X];exact ag _ _ e
 have a9:(upd (upd (upd H d (.dK [])) v (BO v a)) a (.frz o1 (.dK ka))) a=some (.frz o1 (.dK ka)):=Af;have ai:(upd (upd (upd H d (.dK [])) v (BO v a)) a (.frz o1 (.dK ka))) d=some (.dK []):=by rw[Ao da.symm,Ao vd];exact Af
 generalize (upd (upd (upd H d (.dK [])) v (BO v a)) a (.frz o1 (.dK ka)))=H1 at aa a9 ai ⊢;have al:=ad.len;have ac:=ae.len
 refine Wh (a:=a) (o:=o1) (λi σ g=>∃(v3 v4 v5:Option V) (kvs:List (Key×V)),σ = [some (.ref a),some (.ref b),some (.ref d),v3,v4,v5]/\(∀c u,H c=some u->c≠a->g c=some u)/\g a=some (.frz o1 (.dK ka))/\g d=some (.dK kvs)/\KA (λp:Str×Nat=>p.1) (λv p=>v=V.int (p.2:Int)) kvs ((ds.map (λd=>(d.name,bt (Dq (λn=>decide (bt n≠0)) d.tab)))).take i)) ⟨none,none,none,[],U,aa,a9,ai,by rw[EO];exact KA.nil⟩
  (λi σ g _ a3=>by obtain⟨_,_,_,_,_,_,e,_⟩:=a3;exact e) ?_ ?_
 ·rintro i kv p σ g W ⟨v3,v4,v5,kvs,rfl,kp,ea,ed,kk⟩ hp;have S:i<ds.length:=by have:=(AW.mp W).1;lia
  have r:=Ay S;obtain⟨ek,t,ev,ht⟩:=ad.got i kv _ W r;have M:=Cb S;generalize ds[i]=de at r ek ht M;obtain⟨k0,v0⟩:=kv;have a7:=ek;have a2:=ev;subst a7 a2;have s3:Same g (upd g p (.tup [kV (Sum.inr de.name:Key),V.ref t])):=Same.new hp;refine⟨p,_,U,SqT.of Af,U,_,_,U,_,_,U,U,?_⟩;have ta:t≠a:=Ba ht ha nofun;have G:=s3 _ _ (kp _ _ ht ta);have a0:=s3 _ _ ed;have I:=s3 _ _ ea;have R:=λc u e X=>s3 _ _ (kp c u e X);generalize (upd g p (.tup [kV (Sum.inr de.name:Key),V.ref t]))=H3 at G a0 I R ⊢;have N:=td de M;refine⟨_,U,t,U,⟨_,SqT.of G⟩,λD hD=>WA (λn=>decide (bt n≠0)) (Ah ..) G N hD (λj x y H4 A B hx hy h1 h2=>?_) λH4 s4 e4=>?_⟩
  ·rw[AU,hy]at hx;have a5:x=V.int (bt y:Nat):=(Bh hx).symm;subst a5;refine⟨_,U,U,_,U,?_⟩;refine Bq (λz=>h1 (AV λe=>?_)) (λz=>h2 λe=>z ?_)
   ·rw[e]at z;exact absurd z Ξ
   have:=Bp e;rw[Bi λw=>this (by have:=V.int.inj w;lia)];rfl
  refine⟨D,_,U,Y.of e4,WB _ N,?_⟩;have ao:=s4 _ _ a0;have C:Bj kvs (Sum.inr de.name:Key)=none:=kk.none λz=>?_
  ·have L:=kk.len;rw[Bm,Ah]at L;refine⟨_,U,_,U,d,_,U,DPut.k ao Ψ,?_⟩;rw[Er _ C];refine⟨_,_,_,_,U,λc u e X=>?_,?_,Af,?_⟩
   ·rw[Ao (λz=>by rw[z,hd]at e;cases e)];exact s4 _ _ (R c u e X)
   ·rw[Ao da];exact s4 _ _ I
   rw[HZ (by rw[AU,r];rfl)];exact kk.snoc2
  rw[<- FG,Bk]at z;have a1:((ds.take (i+1)).map Dee.name).Nodup:=by rw[FG];exact JC (Hr _ _) ((Dj.mp nd).1)
  rw[HZ r,AR]at a1;exact(Dj.mp a1).2.2 _ z de.name (AF.mpr U) U
 rintro σ g ⟨v3,v4,v5,ah,rfl,kp,ea,ed,ak⟩;rw[al,FA (by rw[Ah];exact An _)]at ak;have a6:=kp _ _ hb ab.symm;refine⟨_,U,b,kb,U,.inr ⟨o2,a6⟩,λv hv=>?_⟩;have s1:Same g (upd g v (BO v b)):=Same.new hv;refine⟨v,b,kb,U,Af,.inr ⟨o2,s1 _ _ a6,?_⟩⟩;have am:=s1 _ _ a6;have af:=λc u e X=>s1 _ _ (kp c u e X);have aj:=s1 _ _ ea;have a8:=s1 _ _ ed;generalize (upd g v (BO v b))=H1 at af aj a8 am ⊢
 refine Wh (a:=b) (o:=o2) (λi σ g=>∃(v3 v4 v5:Option V) (kvs:List (Key×V)),σ = [some (.ref a),some (.ref b),some (.ref d),v3,v4,v5]/\(∀c u,H c=some u->c≠a->g c=some u)/\g a=some (.frz o1 (.dK ka))/\g d=some (.dK kvs)/\KA (λp:Str×Nat=>p.1) (λv p=>v=V.int (p.2:Int)) kvs (ds.map (λd=>(d.name,bt (Dq (λn=>decide (bt n≠0)) d.tab)))++(ls.map λl=>(l.name,bt (Dq isSome l.tab))).take i)) ⟨_,_,_,ah,U,af,aj,a8,by rw[EO,BC];exact ak⟩
  (λi σ g _ a3=>by obtain⟨_,_,_,_,_,k,_⟩:=a3;exact k _ _ hb ab.symm) ?_ ?_
 ·rintro i kv p σ g W ⟨v3,v4,v5,kvs,rfl,kp,ea,ed,kk⟩ hp;have S:i<ls.length:=by have:=(AW.mp W).1;lia
  have r:=Ay S;obtain⟨ek,t,ev,ht⟩:=ae.got i kv _ W r;have M:=Cb S;generalize ls[i]=de at r ek ht M;obtain⟨k0,v0⟩:=kv;have a7:=ek;have a2:=ev;subst a7 a2;have s3:Same g (upd g p (.tup [kV (Sum.inr de.name:Key),V.ref t])):=Same.new hp;refine⟨p,_,U,SqT.of Af,U,_,_,U,_,_,U,U,?_⟩;have G:=s3 _ _ (kp _ _ ht (Ba ht ha (by intro z;cases z)));have a0:=s3 _ _ ed;have I:=s3 _ _ ea;have R:=λc u e X=>s3 _ _ (kp c u e X);generalize (upd g p (.tup [kV (Sum.inr de.name:Key),V.ref t]))=H3 at G a0 I R ⊢;have N:=tl de M;refine⟨_,U,t,U,⟨_,SqT.of G⟩,λD hD=>WA isSome (Ah ..) G N hD (λj x y H4 A B hx hy h1 h2=>?_) λH4 s4 e4=>?_⟩
  ·rw[AU,hy]at hx;have a5:x=oS y:=(Bh hx).symm;subst a5;refine⟨_,U,U,_,U,?_⟩;cases y with
   | none=>exact A7 (h2 Ξ)
   | some z=>exact Bw (h1 U)
  refine⟨D,_,U,Y.of e4,WB _ N,?_⟩;have C:Bj kvs (Sum.inr de.name:Key)=none:=kk.none λz=>?_
  ·have L:=kk.len;rw[AM,Bm,Ah,Ah]at L;refine⟨_,U,_,U,d,_,U,DPut.k (s4 _ _ a0) Ψ,?_⟩;rw[Er _ C];refine⟨_,_,_,_,U,λc u e X=>?_,?_,Af,?_⟩
   ·rw[Ao (λz=>by rw[z,hd]at e;cases e)];exact s4 _ _ (R c u e X)
   ·rw[Ao da];exact s4 _ _ I
   rw[HZ (by rw[AU,r];rfl),<- B4];exact kk.snoc2
  rw[AR,Bk,<- FG,Bk]at z;have a1:(ds.map Dee.name++(ls.take (i+1)).map Loo.name).Nodup:=by rw[FG];exact JC (List.Sublist.append (List.Sublist.refl _) (Hr _ _)) nd
  rw[HZ r,AR,<- B4]at a1;exact(Dj.mp a1).2.2 _ z de.name (AF.mpr U) U
 rintro σ g ⟨v3,v4,v5,kvs,rfl,kp,ea,ed,kk⟩;rw[ac,FA (by rw[Ah];exact An _)]at kk;exact⟨_,U,q d kvs g o1 kp hd ed ea kk⟩
structure FP (K:W.Frag)(C:Addr):Prop where
 cl:Cls K C
 n1:NoAttr K C "many"
 n2:NoAttr K C "prices"
 n3:NoAttr K C "told_outs"
 n4:NoAttr K C "told_answers"
 n5:NoAttr K C "told_parts"
 n6:NoAttr K C "told_doable"
def f1 (m:Int):List (Str×V):=L2.putF "many" (.int m) []
def f2 (m:Int)(p:Addr):List (Str×V):=L2.putF "prices" (.ref p) (f1 m)
def f3 (m:Int)(p o:Addr):List (Str×V):=L2.putF "told_outs" (.ref o) (f2 m p)
def f4 (m:Int)(p o a:Addr):List (Str×V):=L2.putF "told_answers" (.ref a) (f3 m p o)
def f5 (m:Int)(p o a q:Addr):List (Str×V):=L2.putF "told_parts" (.ref q) (f4 m p o a)
def f6 (m:Int)(p o a q d:Addr):List (Str×V):=L2.putF "told_doable" (.ref d) (f5 m p o a q)
structure wA (m:Nat)(ds:List Dee)(ls:List Loo)(as:List Str):Prop where
 m1:1<=m
 m2:m<=200
 fd:ds.length<=40
 fl:ls.length<=40
 nd:(ds.map Dee.name++ls.map Loo.name).Nodup
 so:∀d∈ds,Mv (d.name,d.price)
 sl:∀l∈ls,Mv (l.name,l.price)
 de:∀d∈ds,DeOk m d
 lo:∀l∈ls,l.tab.length=m
 an:∀l∈ls,∀s,some s∈l.tab->s∈as
 a3:as.length<=3
 ad:as.Nodup
abbrev CF (ds:List Dee)(ls:List Loo):List (Str×Int):=ds.map (λd=>(d.name,d.price))++ls.map λl=>(l.name,l.price)
abbrev sL (ds:List Dee)(ls:List Loo):List (Str×Nat):=ds.map (λd=>(d.name,bt (Dq (λn=>decide (bt n≠0)) d.tab)))++ls.map λl=>(l.name,bt (Dq isSome l.tab))
inductive PaV (H:Hp)(v:V)(l:Loo):Prop
 | mk (r:Addr) (ro:Obj) (ts:List Addr) (ps zs:List (Str×V)) (e:v=.ref r) (d0:ro.dict=none) (h:H r=some (.frz ro (.tup (ts.map V.ref)))) (hp:O8 H ts zs) (pm:zs.Perm ps) (lt:N9 zs=true) (ok:PsOk l.tab ps):PaV H v l
structure ChAt (C:Addr)(H:Hp)(x:Addr)(m:Nat)(ds:List Dee)(ls:List Loo):Prop where
 ex:∃(dx p o a q d:Addr) (kp ko ka kq kd:List (Key×V)) (o1 o2:Obj),H x=some (.ins C dx (f6 (m:Int) p o a q d))/\H p=some (.dK kp)/\H o=some (.frz o1 (.dK ko))/\H a=some (.frz o2 (.dK ka))/\H q=some (.dK kq)/\H d=some (.dK kd) /\
  KA (λs:Str×Int=>s.1) (λv s=>v=V.int s.2) kp (CF ds ls)/\KA Dee.name (OuV H) ko ds/\KA Loo.name (AnV H) ka ls/\KA Loo.name (PaV H) kq ls/\KA (λs:Str×Nat=>s.1) (λv s=>v=V.int (s.2:Int)) kd (sL ds ls)
inductive Qo (C:Addr)(vs:List V)(H:Hp)(Q:VK)(E0_:XK):Prop
 | mk (x dx a b:Addr) (m:Nat) (us ws:List V) (ds:List Dee) (ls:List Loo) (as:List Str) (c0:vs=[.ref x,.int (m:Int),.ref a,.ref b]) (c1:H x=some (.ins C dx [])) (c2:H a=some (.lst us)) (c3:H b=some (.lst ws)) (c4:A2 (DeV H) us ds) (c5:A2 (LoV H) ws ls) (c6:wA m ds ls as) (c7:∀H':Hp,(∀c u,H c=some u->c≠x->H' c=some u)->ChAt C H' x m ds ls->Q .non H'):Qo C vs H Q E0_
abbrev Lp:List Str:=["self", "many", "deeds", "looks"]
abbrev lT:List Str:=Lp
def ZR:Aw lT Lp (Ak Kq):=AA
def StV.kx {fs:List (Str×V)}(k:∀c u,H c=some u->c≠x->H' c=some u)(b:H x=some (.ins C dx fs)) {t:Addr}(h:StV H v n p t):StV H' v n p t:=by obtain⟨a,e,h⟩:=h;exact⟨a,e,k _ _ h (Ba h b nofun)⟩
def EnV.kx {fs:List (Str×V)}(k:∀c u,H c=some u->c≠x->H' c=some u)(b:H x=some (.ins C dx fs)) (h:EnV H v ns):EnV H' v ns:=by obtain⟨a,e,h⟩:=h;exact⟨a,e,k _ _ h (Ba h b nofun)⟩
def DeV.kx {fs:List (Str×V)}(k:∀c u,H c=some u->c≠x->H' c=some u)(a:H x=some (.ins C dx fs)) (h:DeV H v d):DeV H' v d:=by obtain⟨t,f,st,b,e⟩:=h;exact⟨t,f,st.kx k a,k _ _ b (Ba b a nofun),e.mono λv t _ r=>r.kx k a⟩
def LoV.kx {fs:List (Str×V)}(k:∀c u,H c=some u->c≠x->H' c=some u)(b:H x=some (.ins C dx fs)) (h:LoV H v l):LoV H' v l:=by obtain⟨t,st,a⟩:=h;exact⟨t,st.kx k b,k _ _ a (Ba a b nofun)⟩
def A2.map {b c:Type}{R:V->b->Prop}{S:V->c->Prop}{g:b->c}{vs:List V}{ts:List b}(h:A2 R vs ts)(m:∀v t,R v t->S v (g t)):A2 S vs (ts.map g):=⟨by rw[Ah];exact h.len,λi v t d a=>by
 rw[AU]at a;cases e:ts[i]? with
 | none=>rw[e]at a;cases a
 | some x=>rw[e]at a;cases a;exact m v x (h.got i v x d e)⟩
def bA (kvs:List (Key×V)):∀a:List (Key×V),((a++kvs).map (·.1)).Nodup->kvs.foldl (λm c=>Cq m c.1 c.2) a=a++kvs:=by
 induction kvs with
 | nil=>exact λa _=>(BC _).symm
 | cons p r ih=>
  intro a b;have e:a++p::r=(a++[p])++r:=by simp
  rw[Jr,Er,ih]
  ·rw[e]
  ·rw[<- e];exact b
  cases hv:Bj a p.1 with
  | none=>rfl
  | some v=>exfalso;rw[AR,Bg]at b;exact(Dj.mp b).2.2 _ (MD hv) p.1 Bb U
def U4 (b:(kvs.map (·.1)).Nodup):L2.putAll kvs=kvs:=by show kvs.foldl (λm a=>Cq m a.1 a.2) []=kvs;rw[bA kvs [] (by simpa using b)];rfl
def VQ {a:Type}{g:a->Str}{xs:List a}(b:(xs.map g).Nodup):(xs.map λx=>(Sum.inr (g x):Key)).Nodup:=by
 have:(xs.map λx=>(Sum.inr (g x):Key))=(xs.map g).map Sum.inr:=by rw[Bk];rfl
 rw[this];exact Ma.mpr (SM (λh e=>h (DY e)) b)
def Pw (ds:List Dee)(a:List Loo):(CF ds a).map (λs=>s.1)=ds.map Dee.name++a.map Loo.name:=by rw[AR,Bk,Bk];rfl
def PaV.same (s:Same H H') (h:PaV H v l):PaV H' v l:=by obtain⟨r,m,ts,ps,g,e,j,h,b,f,lt,ok⟩:=h;exact⟨r,m,ts,ps,g,e,j,s _ _ h,⟨b.1,λi a p c d=>s _ _ (b.2 i a p c d)⟩,f,lt,ok⟩
def PaV.keep (k:∀b xs,H b=some (.tup xs)->H' b=some (.tup xs))(k2:∀b o xs,H b=some (.frz o (.tup xs))->H' b=some (.frz o (.tup xs))) (h:PaV H v l):PaV H' v l:=by obtain⟨r,n,ts,ps,j,e,m,h,c,g,lt,ok⟩:=h;exact⟨r,n,ts,ps,j,e,m,k2 _ _ _ h,⟨c.1,λi a p d f=>k _ _ (c.2 i a p d f)⟩,g,lt,ok⟩
def KA.of_map {a:Type}{nm:a->Str}{R:V->a->Prop}{g:a->V}(xs:List a)(r:∀x,R (g x) x):KA nm R (xs.map λx=>((Sum.inr (nm x):Key),g x)) xs:=⟨Ah ..,λi e d b c=>by rw[AU,c]at b;cases b;exact⟨U,r d⟩⟩
def fY (F:Fun K "__init__" "Chart.__init__" Kq f fd)(L:FP K C)(T:Bl mg)(D_check_many:Df K mg "check_many" NF IT f1' d1)(I:Aj P w K mg base CX0 1 f1' d1 IT QJ)(D_check_steps:Df K mg "check_steps" Ir G0 f2' d2)(G:Aj P w K mg base CX0 2 f2' d2 G0 M0)
  (D_read_deeds:Df K mg "read_deeds" J6 IF f3' d3)(M:Aj P w K mg base CX0 2 f3' d3 IF P2)(D_read_looks:Df K mg "read_looks" Ng ID f4' d4)(N:Aj P w K mg base CX0 2 f4' d4 ID P0)(D_parted:Df K mg "parted" Ni IH f5' d5)(a1:Aj P w K mg base CX0 2 f5' d5 IH P5)
  (D_doable_sets:Df K mg "doable_sets" Iq IR f6' d6)(B:Aj P w K mg base CX0 2 f6' d6 IR QC):Aj P w K mg base CX0 3 f fd Lp (Qo C):=by
 refine F.oq ZR λc8 A c2 s H vs Q E a0 h=>?_
 obtain⟨x,g,a,b,m,us,ws,ds,W,as,rfl,hx,ha,hb,hd,hl,ok,q⟩:=h
 have c7:=AB
 refine⟨_,(Ai (CV (Cj I (a0.mono Ξ) Φ D_check_many.m D_check_many.F.kp D_check_many.b .nil Aq (Aa (pv 1) Ac))) (Ai (CV (Cj G a0 Φ D_check_steps.m D_check_steps.F.kp D_check_steps.b .nil Aq (Aa (pv 2) (Aa (pv 3) Ac)))) (Ai (DF (pv 0) (pv 1) U) (Ai (DF (pv 0) (CG (W5 U) Φ T.dict W7 (Aa (B1 (sc:=Ak Kq) (own:=["step"]) (js:=[]) BA U (BB (AD G3 (CG LZ Φ T.list DX (Aa (pv 2) Ac)) (CG LZ Φ T.list DX (Aa (pv 3) Ac)))) (λ_ _ _ _=>A0 (i:=0) (show List.Nodup (["step"]:List Str) by decide +kernel)) (λ_ _ _ _=>BV) (λ_ _ _ _=>(A6 (Aa (Ap (C8 K U) (pv 0) Ad (λ_ _=>U)) (Aa (Ap (C8 K U) (pv 0) Ad (λ_ _=>U)) Ac))))) Ac)) U) (Ai (DF (pv 0) (Cj M a0 Φ D_read_deeds.m D_read_deeds.F.kp D_read_deeds.b .nil Aq (Aa (pv 1) (Aa (pv 2) Ac))) U) (Ai (DF (pv 0) (Cj N a0 Φ D_read_looks.m D_read_looks.F.kp D_read_looks.b .nil Aq (Aa (pv 1) (Aa (pv 3) Ac))) U) (Ai (DF (pv 0) (CG (W5 U) Φ T.dict W7 (Aa (B1 (sc:=Ak Kq) (own:=["name", "answers"]) (js:=[]) BA U (Rn (Rt (CA (pv 0) U))) (λ_ _ _ _=>Oi K U (GO (n:=2) U (DG (A0 (i:=0) (show List.Nodup (["name", "answers"]:List Str) by decide +kernel)) (DG (A0 (i:=1) (show List.Nodup (["name", "answers"]:List Str) by decide +kernel)) GN)))) (λ_ _ _ _=>BV) (λ_ _ _ _=>(A6 (Aa (pv 0) (Aa (Cj a1 a0 Φ D_parted.m D_parted.F.kp D_parted.b .nil Aq (Aa (pv 1) Ac)) Ac))))) Ac)) U) (Al (DF (pv 0) (Cj B a0 Φ D_doable_sets.m D_doable_sets.F.kp D_doable_sets.b .nil Aq (Aa (CA (pv 0) U) (Aa (CA (pv 0) U) Ac))) U))))))))),?_⟩
 refine⟨_,U,(m:Int),U,by have:=ok.m1;lia,by have:=ok.m2;lia,?_⟩
 have az:A2 (λv s=>∃t,StV H v s.1 s.2 t) (us++ws) (CF ds W):=A2.app (hd.map λv d r=>by obtain⟨t,es,st,_⟩:=r;exact⟨t,st⟩) (hl.map λv l r=>by obtain⟨t,st,_⟩:=r;exact⟨t,st⟩)
 have bg:=ok.fd
 have bb:=ok.fl
 have c9:=hd.len
 have ca:=hl.len
 have bf:((CF ds W).map (λs=>s.1)).Nodup:=by rw[Pw];exact ok.nd
 refine⟨_,U,_,U,a,b,us,ws,CF ds W,U,ha,hb,(az.mono λv s _ bi=>by obtain⟨t,a,e,h⟩:=bi;exact⟨a,[.ref t],e,h⟩),Ψ,Ψ,bf,λs hs=>?_,λH1 s1=>?_⟩
 ·rcases(Br.mp hs)with z | z
  ·obtain⟨d,av,rfl⟩:=AK.mp z;exact ok.so d av
  obtain⟨l,ay,rfl⟩:=AK.mp z;exact ok.sl l ay
 refine⟨_,U,_,U,x,C,g,[],U,s1 _ _ hx,L.cl,L.n1,Ξ,?_⟩
 have a8:∀c u,H c=some u->c≠x->(upd H1 x (.ins C g (L2.putF "many" (.int (m:Int)) []))) c=some u:=λc u e p=>by rw[Ao p];exact s1 _ _ e
 have aw:(upd H1 x (.ins C g (L2.putF "many" (.int (m:Int)) []))) x=some (.ins C g (L2.putF "many" (.int (m:Int)) [])):=Af
 generalize (upd H1 x (.ins C g (L2.putF "many" (.int (m:Int)) [])))=H2 at a8 aw ⊢
 have ax:a≠x:=Ba ha hx nofun
 have bx:b≠x:=Ba hb hx nofun
 refine⟨_,U,a,_,U,.inl (Y.of (a8 _ _ ha ax)),λl1 bl=>?_⟩
 obtain⟨H3,g0,s3,e3⟩:=DV (H:=H2) bl
 rw[g0]
 refine⟨_,U,b,_,U,.inl (Y.of (s3 _ _ (a8 _ _ hb bx))),λl2 bo=>?_⟩
 obtain⟨H4,g0,s4,e4⟩:=DV (H:=H3) bo
 rw[g0]
 refine⟨l1,l2,_,_,U,U,s4 _ _ e3,e4,Ψ,λl3 c4=>?_⟩
 obtain⟨H5,g0,s5,e5⟩:=DV (H:=H4) c4
 rw[g0]
 have ap:=(s3.trans s4).trans s5
 have b2:A2 (λv s=>∃t,StV H5 v s.1 s.2 t) (us++ws) (CF ds W):=az.mono λv s _ ⟨t,r⟩=>⟨t,r.kx (λc u e p=>ap _ _ (a8 c u e p)) hx⟩
 have af:=az.len
 have cc:(us++ws).length<=80:=by rw[AM];lia
 refine⟨l3,U,⟨_,Y.of e5⟩,λD hD=>?_⟩
 refine BK (λi ys H6=>∃ts:List Addr,ys=ts.map V.ref/\ts.length=i/\(∀(j:Nat) t s,ts[j]? = some t->(CF ds W)[j]? = some s->H6 t=some (.tup [.str s.1,.int s.2]))/\Same H5 H6/\H6 D=some (.lst ys)) ⟨[],U,U,(λj t s h=>by cases h),Same.new hD,Af⟩
  (λi ys H6 hi ⟨_,_,_,_,s6,_⟩=>⟨_,(us++ws)[i],Y.of (s6 _ _ e5),Ay hi⟩) (λys H6 a2=>by obtain⟨_,_,_,_,s6,_⟩:=a2;exact⟨_,Y.of (s6 _ _ e5),An _⟩) ?_ ?_
 ·rintro i ys H6 y H7 hi ⟨ts,rfl,S,ht,s6,e6⟩ ⟨rfl,hy⟩;refine BX ?_;obtain⟨sp,c0,c6,t,a',rfl,et⟩:=b2.at (hy _ (Y.of (s6 _ _ e5)));have ba:=s6 _ _ et;refine⟨_,U,a',_,_,_,U,U,SqT.of ba,Au U,_,U,a',_,_,_,U,U,SqT.of ba,Au U,AG,λtp a6=>?_⟩;have s7:Same H7 (upd H7 tp (.tup [.str sp.1,.int sp.2])):=Same.new a6;have tD:tp≠D:=(A1 e6 a6).symm;refine⟨_,s7 _ _ e6,by rw[Ah];lia,ts++[tp],by rw[AR];rfl,by rw[AM,S];rfl,λj t' s' h1 X=>?_,(s6.trans s7).put hD,Af⟩;by_cases hj:j<ts.length
  ·rw[CQ hj]at h1;have:=ht j t' s' h1 X;rw[Ao (Ba this e6 nofun)];exact s7 _ _ this
  rw[DK Ψ]at h1;have h0:j-ts.length=0:=by have:=(AW.mp h1).1;simp at this;lia
  rw[h0]at h1;cases h1;have ej:j=i:=by lia
  subst ej;rw[c0]at X;cases X;rw[Ao tD];exact Af
 rintro ys H6 ⟨ts,rfl,S,ht,s6,e6⟩
 have nk:(((CF ds W).map λs=>((Sum.inr s.1:Key),V.int s.2)).map (·.1)).Nodup:=by rw[Bk];exact VQ bf
 refine⟨D,ts,(CF ds W).map λs=>((Sum.inr s.1:Key),V.int s.2),U,e6,by rw[Ah,S,af],by rw[Ah,<- af];lia,λi t k v h1 X=>?_,λdp be=>?_⟩
 ·rw[AU]at X;cases hs:(CF ds W)[i]? with
  | none=>rw[hs]at X;cases X
  | some s=>rw[hs]at X;cases X;exact ht i t s h1 hs
 rw[U4 nk]
 have b3:KA (λs:Str×Int=>s.1) (λv s=>v=V.int s.2) ((CF ds W).map λs=>((Sum.inr s.1:Key),V.int s.2)) (CF ds W):=KA.of_map _ λ_=>rfl
 generalize ((CF ds W).map λs=>((Sum.inr s.1:Key),V.int s.2))=kp at b3 ⊢
 have s7:Same H6 (upd H6 dp (.dK kp)):=Same.new be
 have bd:=(ap.trans s6).trans s7
 have xp:x≠dp:=λz=>by have:=(ap.trans s6) _ _ aw;rw[z,be]at this;cases this
 refine⟨_,U,x,C,g,_,U,bd _ _ aw,L.cl,L.n2,by show 1<1000;decide,?_⟩
 have a9:∀c u,H c=some u->c≠x->(upd (upd H6 dp (.dK kp)) x (.ins C g (L2.putF "prices" (.ref dp) (L2.putF "many" (.int (m:Int)) [])))) c=some u:=λc u e p=>by rw[Ao p];exact bd _ _ (a8 c u e p)
 have ac:(upd (upd H6 dp (.dK kp)) x (.ins C g (L2.putF "prices" (.ref dp) (L2.putF "many" (.int (m:Int)) [])))) x=some (.ins C g (f2 (m:Int) dp)):=Af
 have pA:(upd (upd H6 dp (.dK kp)) x (.ins C g (L2.putF "prices" (.ref dp) (L2.putF "many" (.int (m:Int)) [])))) dp=some (.dK kp):=by rw[Ao xp.symm];exact Af
 generalize (upd (upd H6 dp (.dK kp)) x (.ins C g (L2.putF "prices" (.ref dp) (L2.putF "many" (.int (m:Int)) []))))=HA at a9 ac pA ⊢
 have bc:=(Dj.mp ok.nd).2.1
 refine⟨_,U,_,U,m,a,us,ds,U,ok.m2,a9 _ _ ha ax,hd.mono (λv d _ r=>r.kx a9 hx),ok.de,(Dj.mp ok.nd).1,bg,λdO kO HB sB fB eB bw=>?_⟩
 have xO:x≠dO:=λz=>by rw[z,fB]at ac;cases ac
 refine⟨_,U,x,C,g,_,U,sB _ _ ac,L.cl,L.n3,by show 2<1000;decide,?_⟩
 have aa:∀c u,H c=some u->c≠x->(upd HB x (.ins C g (L2.putF "told_outs" (.ref dO) (f2 (m:Int) dp)))) c=some u:=λc u e p=>by rw[Ao p];exact sB _ _ (a9 c u e p)
 have ad:(upd HB x (.ins C g (L2.putF "told_outs" (.ref dO) (f2 (m:Int) dp)))) x=some (.ins C g (f3 (m:Int) dp dO)):=Af
 have pC:(upd HB x (.ins C g (L2.putF "told_outs" (.ref dO) (f2 (m:Int) dp)))) dp=some (.dK kp):=by rw[Ao xp.symm];exact sB _ _ pA
 have oC:(upd HB x (.ins C g (L2.putF "told_outs" (.ref dO) (f2 (m:Int) dp)))) dO=some (.dK kO):=by rw[Ao xO.symm];exact eB
 have al:KA Dee.name (OuV (upd HB x (.ins C g (L2.putF "told_outs" (.ref dO) (f2 (m:Int) dp))))) kO ds:=bw.mono λv d _ r=>r.keep λb xs e=>by rw[Ao (Ba e (sB _ _ ac) nofun)];exact e
 generalize (upd HB x (.ins C g (L2.putF "told_outs" (.ref dO) (f2 (m:Int) dp))))=HC at aa ad pC oC al ⊢
 refine⟨_,U,_,U,m,b,ws,W,U,ok.m2,aa _ _ hb bx,hl.mono (λv d _ r=>r.kx aa hx),ok.lo,bc,bb,λdA kA HD sD fD eD bm=>?_⟩
 have xA:x≠dA:=λz=>by rw[z,fD]at ad;cases ad
 have ar:dO≠dA:=λz=>by rw[z,fD]at oC;cases oC
 refine⟨_,U,x,C,g,_,U,sD _ _ ad,L.cl,L.n4,by show 3<1000;decide,?_⟩
 have b6:∀c u,H c=some u->c≠x->(upd HD x (.ins C g (L2.putF "told_answers" (.ref dA) (f3 (m:Int) dp dO)))) c=some u:=λc u e p=>by rw[Ao p];exact sD _ _ (aa c u e p)
 have ao:(upd HD x (.ins C g (L2.putF "told_answers" (.ref dA) (f3 (m:Int) dp dO)))) x=some (.ins C g (f4 (m:Int) dp dO dA)):=Af
 have pE:(upd HD x (.ins C g (L2.putF "told_answers" (.ref dA) (f3 (m:Int) dp dO)))) dp=some (.dK kp):=by rw[Ao xp.symm];exact sD _ _ pC
 have oE:(upd HD x (.ins C g (L2.putF "told_answers" (.ref dA) (f3 (m:Int) dp dO)))) dO=some (.dK kO):=by rw[Ao xO.symm];exact sD _ _ oC
 have aE:(upd HD x (.ins C g (L2.putF "told_answers" (.ref dA) (f3 (m:Int) dp dO)))) dA=some (.dK kA):=by rw[Ao xA.symm];exact eD
 have am:∀b xs,HD b=some (.tup xs)->(upd HD x (.ins C g (L2.putF "told_answers" (.ref dA) (f3 (m:Int) dp dO)))) b=some (.tup xs):=λb xs e=>by rw[Ao (Ba e (sD _ _ ad) nofun)];exact e
 have an:=al.mono λv d _ r=>OuV.keep (λb xs e=>am b xs (sD _ _ e)) r
 have ak:=bm.mono λv d _ r=>AnV.keep am r
 generalize (upd HD x (.ins C g (L2.putF "told_answers" (.ref dA) (f3 (m:Int) dp dO))))=HE at b6 ao pE oE aE an ak ⊢
 have bp:(f4 (m:Int) dp dO dA).lookup ("told_answers" : Str)=some (.ref dA):=by unfold f4;rw[A3,As rfl]
 refine⟨_,U,x,C,g,_,_,U,ao,L.cl,L.n4,bp,dA,kA,U,.inl aE,λv hv=>?_⟩
 have sv:Same HE (upd HE v (BO v dA)):=Same.new hv
 refine⟨v,dA,kA,U,Af,.inl ⟨sv _ _ aE,λo2=>?_⟩⟩
 have kF:∀c u,HE c=some u->c≠dA->(upd (upd HE v (BO v dA)) dA (.frz o2 (.dK kA))) c=some u:=λc u e p=>by rw[Ao p];exact sv _ _ e
 have aF:(upd (upd HE v (BO v dA)) dA (.frz o2 (.dK kA))) dA=some (.frz o2 (.dK kA)):=Af
 generalize (upd (upd HE v (BO v dA)) dA (.frz o2 (.dK kA)))=HF at kF aF ⊢
 have c5:dp≠dA:=λz=>by rw[z,fD]at pC;cases pC
 have xF:=kF _ _ ao xA
 have oF:=kF _ _ oE ar
 have ah:∀b xs,HE b=some (.tup xs)->HF b=some (.tup xs):=λb xs e=>kF _ _ e (Ba e aE nofun)
 have a7:=ak.mono λv d _ r=>AnV.keep ah r
 have bq:=a7.len
 intro D hD
 refine Od (K:=K) (λi ys R=>∃(ts:List Addr) (kvs:List (Key×V)),ys=ts.map V.ref/\ts.length=kvs.length/\(∀(j:Nat) t k v,ts[j]? = some t->kvs[j]? = some (k,v)->R t=some (.tup [kV k,v]))/\KA Loo.name (PaV R) kvs (W.take i)/\Same HF R/\R D=some (.lst ys)) ⟨[],[],U,U,(λj t k v h=>by cases h),by rw[EO];exact KA.nil,Same.new hD,Af⟩
  (λi ys R hi a2=>by obtain⟨_,_,_,_,_,_,sG,_⟩:=a2;exact⟨hi,sG _ _ aF⟩) (λys R a2=>by obtain⟨_,_,_,_,_,_,sG,_⟩:=a2;exact⟨An _,sG _ _ aF⟩) ?_ ?_
 ·rintro i ys R y HH hi ⟨ts,kvs,rfl,S,ht,kk,sG,eG⟩ ⟨pp,k,v,rfl,hpp,rfl,hx2⟩;have b8:i<W.length:=by lia
  have aq:=Ay b8;have au:=Cb b8;obtain⟨ek,t,ev,b4⟩:=a7.got i _ _ hx2 aq;generalize W[i]=lo at aq au ek b4;have br:=ek;have bh:=ev;subst br bh;have sP:Same R (upd R pp (.tup [kV (Sum.inr lo.name:Key),V.ref t])):=Same.new hpp;refine⟨pp,_,_,U,SqT.of Af,BX ?_⟩;have lt:=ok.lo lo au;have m2:=ok.m2;refine⟨_,U,_,U,t,lo.tab,as,U,(sG.trans sP) _ _ b4,Ψ,ok.an lo au,ok.a3,ok.ad,λr ro bz ps zs HI sI bu er pr pm c3 po=>⟨AG,λtp a6=>?_⟩⟩;have sT:Same HI (upd HI tp (.tup [.str lo.name,.ref r])):=Same.new a6;have eI:=(sP.trans sI) _ _ eG;have bj:=kk.len;rw[Bm]at bj;have a4:=(sP.trans sI).trans sT;have ab:∀b xs (o:HO),(upd HI tp (.tup [.str lo.name,.ref r])) b=some (.tup xs)->(upd (upd HI tp (.tup [.str lo.name,.ref r])) D o) b=some (.tup xs):=λb xs o e=>by rw[Ao (Ba e (sT _ _ eI) nofun)];exact e
  have ag:∀b ob xs (o:HO),(upd HI tp (.tup [.str lo.name,.ref r])) b=some (.frz ob (.tup xs))->(upd (upd HI tp (.tup [.str lo.name,.ref r])) D o) b=some (.frz ob (.tup xs)):=λb ob xs o e=>by rw[Ao (Ba e (sT _ _ eI) nofun)];exact e
  refine⟨_,sT _ _ eI,by rw[Ah];lia,ts++[tp],kvs++[(Sum.inr lo.name,.ref r)],by rw[AR];rfl,by rw[AM,AM,S];rfl,λj t' k' v' h1 X=>?_,?_,(sG.trans a4).put hD,Af⟩
  ·by_cases hj:j<ts.length
   ·rw[CQ hj]at h1;rw[CQ Ψ]at X;exact ab _ _ _ (a4 _ _ (ht j t' k' v' h1 X))
   rw[DK Ψ]at h1;rw[DK Ψ,<- S]at X;have h0:j-ts.length=0:=by have:=(AW.mp h1).1;simp at this;lia
   rw[h0]at h1 X;cases h1;cases X;rw[Ao ((A1 eI a6).symm)];exact Af
  rw[HZ aq];refine KA.snoc (kk.mono λv d _ rr=>(rr.same a4).keep (λb xs e=>ab _ _ _ e) (λb o xs e=>ag _ _ _ _ e)) ?_;have pv:PaV HI (V.ref r) lo:=⟨r,ro,bz,ps,zs,U,bu,er,pr,pm,c3,po⟩;exact(pv.same sT).keep (λb xs e=>ab _ _ _ e) (λb o xs e=>ag _ _ _ _ e)
 rintro ys R ⟨ts,kq,rfl,S,ht,kk,sG,eG⟩
 rw[bq,BQ]at kk
 have bv:(kq.map (·.1)).Nodup:=by rw[kk.keysE];exact VQ bc
 have cb:=kk.len
 refine⟨D,ts,kq,U,eG,S,Ψ,ht,λdq b0=>?_⟩
 rw[U4 bv]
 have sq:Same R (upd R dq (.dK kq)):=Same.new b0
 have b5:=sG.trans sq
 have xq:x≠dq:=λz=>by have:=sG _ _ xF;rw[z,b0]at this;cases this
 refine⟨_,U,x,C,g,_,U,b5 _ _ xF,L.cl,L.n5,by show 4<1000;decide,?_⟩
 have xI:(upd (upd R dq (.dK kq)) x (.ins C g (L2.putF "told_parts" (.ref dq) (f4 (m:Int) dp dO dA)))) x=some (.ins C g (f5 (m:Int) dp dO dA dq)):=Af
 have kI:∀c u,HF c=some u->c≠x->(upd (upd R dq (.dK kq)) x (.ins C g (L2.putF "told_parts" (.ref dq) (f4 (m:Int) dp dO dA)))) c=some u:=λc u e p=>by rw[Ao p];exact b5 _ _ e
 have qI:(upd (upd R dq (.dK kq)) x (.ins C g (L2.putF "told_parts" (.ref dq) (f4 (m:Int) dp dO dA)))) dq=some (.dK kq):=by rw[Ao xq.symm];exact Af
 have ae:∀b xs,R b=some (.tup xs)->(upd (upd R dq (.dK kq)) x (.ins C g (L2.putF "told_parts" (.ref dq) (f4 (m:Int) dp dO dA)))) b=some (.tup xs):=λb xs e=>by rw[Ao (Ba e (sG _ _ xF) nofun)];exact sq _ _ e
 have b9:∀b ob xs,R b=some (.frz ob (.tup xs))->(upd (upd R dq (.dK kq)) x (.ins C g (L2.putF "told_parts" (.ref dq) (f4 (m:Int) dp dO dA)))) b=some (.frz ob (.tup xs)):=λb ob xs e=>by rw[Ao (Ba e (sG _ _ xF) nofun)];exact sq _ _ e
 have b7:=kk.mono λv d _ r=>PaV.keep ae b9 r
 generalize (upd (upd R dq (.dK kq)) x (.ins C g (L2.putF "told_parts" (.ref dq) (f4 (m:Int) dp dO dA))))=HI at xI kI qI ae b7 ⊢
 have pI:=kI _ _ (kF _ _ pE c5) xp.symm
 have oI:=kI _ _ oF xO.symm
 have aI:=kI _ _ aF xA.symm
 have a5:=λb xs e=>ae b xs (sG _ _ e)
 have aj:=(an.mono λv d _ r=>OuV.keep ah r).mono λv d _ r=>OuV.keep a5 r
 have ai:=a7.mono λv d _ r=>AnV.keep a5 r
 have c1:(f5 (m:Int) dp dO dA dq).lookup ("told_outs" : Str)=some (.ref dO):=by unfold f5 f4 f3;rw[A3,Ag Δ,A3,Ag Δ,A3,As rfl]
 have b1:(f5 (m:Int) dp dO dA dq).lookup ("told_answers" : Str)=some (.ref dA):=by unfold f5 f4;rw[A3,Ag Δ,A3,As rfl]
 have m2:=ok.m2
 refine⟨_,U,x,C,g,_,_,U,xI,L.cl,L.n3,c1,_,U,x,C,g,_,_,U,xI,L.cl,L.n4,b1,dO,dA,kO,kA,ds,W,o2,U,ar,oI,aI,aj,ai,ok.nd,bg,bb,(λd av=>by rw[(ok.de d av).len];exact m2),(λl ay=>by rw[ok.lo l ay];exact m2),λdd kd HJ o1 kJ fJ eJ oJ bn=>?_⟩
 have xJ:=kJ _ _ xI xO
 have xd:x≠dd:=λz=>by rw[z,fJ]at xI;cases xI
 refine⟨_,U,x,C,g,_,U,xJ,L.cl,L.n6,by show 5<1000;decide,?_⟩
 have pO:dp≠dO:=λz=>by rw[z,fB]at pA;cases pA
 have qO:dq≠dO:=λz=>by have:=sG _ _ oF;rw[<- z,b0]at this;cases this
 have keep:∀c u,HJ c=some u->c≠x->(upd HJ x (.ins C g (L2.putF "told_doable" (.ref dd) (f5 (m:Int) dp dO dA dq)))) c=some u:=λc u e p=>by rw[Ao p];exact e
 have a3:∀b xs,HI b=some (.tup xs)->(upd HJ x (.ins C g (L2.putF "told_doable" (.ref dd) (f5 (m:Int) dp dO dA dq)))) b=some (.tup xs):=λb xs e=>keep _ _ (kJ _ _ e (Ba e oI nofun)) (Ba e xI nofun)
 refine q _ (λc u e p=>keep c u (kJ c u (kI c u (kF c u (b6 c u e p) ?_) p) ?_) p) ⟨g,dp,dO,dA,dq,dd,kp,kO,kA,kq,kd,o1,o2,Af,keep _ _ (kJ _ _ pI pO) xp.symm,keep _ _ oJ xO.symm,keep _ _ (kJ _ _ aI ar.symm) xA.symm,keep _ _ (kJ _ _ qI qO) xq.symm,keep _ _ eJ xd.symm,b3,aj.mono λv d _ r=>OuV.keep a3 r,ai.mono λv d _ r=>AnV.keep a3 r,b7.mono λv d _ r=>PaV.keep a3 (λb ob xs e=>keep _ _ (kJ _ _ e (Ba e oI (by intro z;cases z))) (Ba e xI (by intro z;cases z))) r,bn⟩
 ·intro z;have:=aa c u e p;rw[z,fD]at this;cases this
 intro z
 have:=a9 c u e p
 rw[z,fB]at this
 cases this
end
end K52
namespace K52
open PySem L2 Tx Rk PyProof.Rows PySem.SeqAt
open PySem.PyData (strOk)
end K52
namespace K52
open PySem L2 Tx Rk PyProof.Rows PySem.SeqAt
open PySem.PyData (strOk)
section
variable {P:Program}{w:World}{K:W.Frag}{mg:Str->Option Value}{base:Heap}
mutual
theorem US :∀{x:V}{d:PyData},RdV H x d->WK.okT d=true->RdD H x d
 | _,_,.non,_=>.non
 | _,_,.int i,ok=>nomatch ok
 | _,_,.str x,_=>.str x
 | _,_,.tup e rs,ok=>.tup e (UR rs ok)
theorem UR :∀{xs:List V}{ds:List PyData},RdVs H xs ds->WK.okTs ds=true->RdDs H xs ds
 | _,_,.nil,_=>.nil
 | _,_,.cons (d:=d) (ds:=ds) a b,ok=>by
  have c:WK.okT d=true/\WK.okTs ds=true:=by simpa [WK.okTs] using ok
  exact .cons (US a c.1) (UR b c.2)
end
mutual
theorem Iv :∀{x:V}{d:PyData},RdD H x d->RdV H x d
 | _,_,.non=>.non
 | _,_,.str x=>.str x
 | _,_,.tup e rs=>.tup e (UP rs)
theorem UP :∀{xs:List V}{ds:List PyData},RdDs H xs ds->RdVs H xs ds
 | _,_,.nil=>.nil
 | _,_,.cons a b=>.cons (Iv a) (UP b)
end
theorem N2 {a:Type}{f:a->PyData}:∀{l:List a},(∀x∈l,WK.okT (f x)=true)->WK.okTs (l.map f)=true
 | [],_=>rfl
 | x::r,h=>by rw[Bg,WK.okTs,h x Bb,N2 λy b=>h y (Bc _ b)];rfl
def iM (xs:List Str):WK.okT (dH xs)=true:=by unfold dH;rw[WK.okT];exact N2 λ_ _=>by rw[WK.okT]
def Vt (W:Wl):WK.okT (dW W)=true:=by
 have a:WK.okT (dO W.hand)=true:=by cases W.hand <;> (unfold dO;rw[WK.okT])
 have b:WK.okTs (W.heaps.map dH)=true:=N2 λx _=>iM x
 unfold dW;rw[WK.okT,WK.okTs,WK.okTs,WK.okTs,WK.okTs,a,WK.okT,WK.okT,b,(N2 λ_ _=>by rw[WK.okT])];rfl
theorem Sb {a:Type}{f:a->PyData}{n:Nat}:∀{l:List a},(∀x∈l,WK.dpD (f x)<=n)->WK.dpDs (l.map f)<=n
 | [],_=>by rw[FF,WK.dpDs];exact Bt _
 | x::r,h=>by rw[Bg,WK.dpDs];exact Nat.max_le.mpr ⟨h x Bb,Sb λy b=>h y (Bc _ b)⟩
def sJ (W:Wl):WK.dpD (dW W)<=12:=by
 have a:∀xs:List Str,WK.dpDs (xs.map PyData.str)<=0:=λxs=>Sb λ_ _=>le_of_eq U;have c:∀xs:List Str,WK.dpD (dH xs)<=4:=λxs=>by unfold dH;rw[WK.dpD];have:=a xs;lia
 have d:WK.dpDs (W.heaps.map dH)<=4:=Sb λx _=>c x;have e:=a W.lids;have b:WK.dpD (dO W.hand)=0:=by cases W.hand <;> rfl
 unfold dW;rw[WK.dpD,WK.dpDs,WK.dpDs,WK.dpDs,WK.dpDs,b,WK.dpD,WK.dpD];lia
theorem Sf {a:Type}{f:a->PyData}{n:Nat}:∀{l:List a},(∀x∈l,(f x).depth<=n)->PyData.depthAll (l.map f)<=n
 | [],_=>by rw[FF,PyData.depthAll];exact Bt _
 | x::r,h=>by rw[Bg,PyData.depthAll];exact Nat.max_le.mpr ⟨h x Bb,Sf λy b=>h y (Bc _ b)⟩
def sU (W:Wl):(dW W).depth<=8:=by
 have a:∀xs:List Str,PyData.depthAll (xs.map PyData.str)<=1:=λxs=>Sf λ_ _=>by simp[PyData.depth]
 have b:∀xs:List Str,(dH xs).depth<=2:=λxs=>by unfold dH;rw[PyData.depth];have:=a xs;lia
 have d:PyData.depthAll (W.heaps.map dH)<=2:=Sf λx _=>b x;have e:=a W.lids;have c:(dO W.hand).depth<=1:=by cases W.hand <;> simp[dO,PyData.depth]
 unfold dW;simp only[PyData.depth,PyData.depthAll];lia
def UQ (h:RdV H v (dW W))(ok:Ok W):∃a,v=.ref a/\RdT H a (dW W):=by
 have r:=US h (Vt W);cases r with
 | @tup a xs ds e rs=>exact⟨a,U,⟨.tup e rs,Vt W,Mu (Y7 ok),sJ W,sU W⟩⟩
def WN (h:dW W=dW Z):W=Z:=by
 have g:∀{a b:List Str},a.map PyData.str=b.map PyData.str->a=b:=λ{a b} e=>List.map_inj_right (λx y z=>by injection z) |>.mp e
 obtain⟨f,d,i⟩:=W;obtain⟨h2,hp2,l2⟩:=Z;injection h with h;injection h with a b;injection b with b c;injection c with c _;injection b with b;injection c with c;have e1:f=h2:=by cases f <;> cases h2 <;> first | rfl | (simp only[dO]at a;first | (injection a with a;rw[a]) | cases a)
 have e2:d=hp2:=List.map_inj_right (λx y z=>by injection z with z;exact g z) |>.mp b
 have e3:i=l2:=g c;rw[e1,e2,e3]
def Bz:Nat->List Wl->List (PyData×V)
 | _,[]=>[]
 | n,W::r=>(dW W,.int (n:Int))::Bz (n+1) r
theorem Dn:∀(n:Nat) (L:List Wl),(Bz n L).length=L.length
 | _,[]=>rfl
 | n,W::r=>A5 (· + 1) (Dn (n+1) r)
theorem Vx:∀(n:Nat) (L:List Wl) (W:Wl),Bz n (L++[W])=Bz n L++[(dW W,.int ((n+L.length:Nat):Int))]
 | n,[],W=>rfl
 | n,a::r,W=>by show(dW a,V.int (n:Int))::Bz (n+1) (r++[W])=(dW a,V.int (n:Int))::(Bz (n+1) r++_);rw[Vx (n+1) r W,show n+1+r.length=n+(a::r).length by rw[BU];lia]
theorem G4:∀{n:Nat}{L:List Wl}{i:Nat}{W:Wl},L[i]? = some W->(Bz n L)[i]? = some (dW W,.int ((n+i:Nat):Int))
 | n,Z::r,0,W,h=>by cases h;rfl
 | n,Z::r,i+1,W,h=>by have:=G4 (n:=n+1) (L:=r) h;rw[show n+1+i=n+(i+1) by lia]at this;exact this
 | _,[],_,_,h=>by cases h
theorem Vv:∀{n:Nat}{L:List Wl}{i:Nat}{W:Wl},L.Nodup->L[i]? = some W->Bj (Bz n L) (dW W)=some (.int ((n+i:Nat):Int))
 | n,Z::r,0,W,_,h=>by cases h;unfold Bj Bz;rw[FI,AV rfl];rfl
 | n,Z::r,i+1,W,nd,h=>by have a:=Du.mp nd;have ne:¬dW Z=dW W:=λe=>a.1 (by rw[WN e];exact Cc h);have:=Vv (n:=n+1) (i:=i) a.2 h;rw[show n+1+i=n+(i+1) by lia]at this;unfold Bj Bz;rw[FI,Bi ne];exact this
 | _,[],_,_,_,h=>by cases h
theorem Vw:∀{n:Nat}{L:List Wl}{W:Wl},W∉L->Bj (Bz n L) (dW W)=none
 | _,[],_,_=>rfl
 | n,Z::r,W,h=>by unfold Bj Bz;rw[FI,Bi (λe=>h (by rw[WN e];exact Bb))];exact Vw λz=>h (Bc _ z)
def BS:List Wl->List Wl->List Wl
 | L,[]=>L
 | L,W::r=>BS (if W∈L then L else L++[W]) r
theorem SE:∀(L A B:List Wl),BS L (A++B)=BS (BS L A) B
 | _,[],_=>rfl
 | L,W::r,B=>SE (if W∈L then L else L++[W]) r B
theorem SD:∀(L A:List Wl),∃t,BS L A=L++t
 | L,[]=>⟨[],(BC _).symm⟩
 | L,W::r=>by
  obtain⟨t,e⟩:=SD (if W∈L then L else L++[W]) r;show ∃t,BS (if W∈L then L else L++[W]) r=L++t;rw[e];split
  ·exact⟨t,U⟩
  exact⟨W::t,by rw[B4];rfl⟩
theorem SC:∀{L A:List Wl},L.Nodup->(BS L A).Nodup
 | _,[],h=>h
 | L,W::r,h=>by
  show(BS (if W∈L then L else L++[W]) r).Nodup;refine SC ?_;split
  ·exact h
  rename_i n;exact Dj.mpr ⟨h,Θ,λa d b c e=>n (by rw[AF.mp c]at e;rw[<- e];exact d)⟩
theorem addN_mem:∀{L A:List Wl}{a:Wl},a∈BS L A↔a∈L\/a∈A
 | _,[],_=>by simp[BS]
 | L,W::r,a=>by
  show a∈BS (if W∈L then L else L++[W]) r↔_;rw[addN_mem];split
  ·rename_i h;constructor
   ·rintro(z | z)
    ·exact .inl z
    exact .inr (Bc _ z)
   rintro(z | z)
   ·exact .inl z
   rcases(Ar.mp z)with z | z
   ·exact .inl (by rw[z];exact h)
   exact .inr z
  simp only[Br,Ar,AS,AQ];constructor
  ·rintro((z | z) | z)
   ·exact .inl z
   ·exact .inr (.inl z)
   exact .inr (.inr z)
  rintro(z | z | z)
  ·exact .inl (.inl z)
  ·exact .inl (.inr z)
  exact .inr z
inductive QS (vs:List V)(H:Hp)(Q:VK)(E0_:XK):Prop
 | mk (d lw:Addr) (L Ws:List Wl) (us:List V) (c0:vs=[.ref d,.ref lw]) (c1:H d=some (.dT (Bz 0 L))) (c2:H lw=some (.lst us)) (c3:RdVs H us (Ws.map dW)) (c4:(∀W∈Ws,Ok W)) (c5:(BS L Ws).length<=200) (c6:∀H':Hp,(∀c u,H c=some u->c≠d->H' c=some u)->H' d=some (.dT (Bz 0 (BS L Ws)))->Q .non H'):QS  vs H Q E0_
abbrev Lz:List Str:=["numbers", "worlds"]
abbrev mH:List Str:=BG Lz ["world"]
def scAddNew:Aw mH Lz (Ak NM):=AA
def iL (F:Fun K "add_new" "add_new" NM f fd)(T:Bl mg)(G:∃t,mg "MOST_WORLDS" = some (.int 200 t)):Aj P w K mg base CX0 1 f fd Lz QS:=by
 refine F.oq scAddNew λa1 A X s H vs Q E hr h=>?_;obtain⟨d,I,L,l,us,rfl,hd,S,rd,ok,le,q⟩:=h;have hu:=Dh hr;obtain⟨t1,G⟩:=G;have a0:=AB;have C:us.length=l.length:=by rw[rd.length,Ah]
 refine⟨_,(Ai (CU C2 U (BB (pv 1)) (A0 (i:=2) scAddNew.nd) (Al (AY (Kw (NV hu (pv 2) (pv 0))) (Al (Fj hu (pv 0) (pv 2) (Be Ov Φ T.len BM (Aa (pv 0) Ac)) U)) AX))) (Al (AY (AN F7 (Be Ov Φ T.len BM (Aa (pv 0) Ac)) (CY (v:=.int 200) Φ G ⟨_,U⟩) (AJ _)) B6 AX))),_,U,I,U,⟨_,Y.of S⟩,?_⟩
 refine DI (K:=K) (a:=I) (λi B m=>∃M:Option V,B = [some (.ref d),some (.ref I),M]/\(∀c u,H c=some u->c≠d->m c=some u)/\m d=some (.dT (Bz 0 (BS L (l.take i)))))
  ⟨none,U,λc u e _=>e,hd⟩ (λi B m _ N=>by obtain⟨_,_,z,_⟩:=N;exact Y.of (z _ _ S (Ba S hd nofun))) ?_ ?_
 ·rintro i v B m hv ⟨M,rfl,k2,e2⟩;have D:i<l.length:=by have:=(AW.mp hv).1;lia
  obtain⟨dd,o,r⟩:=rd.get hv;rw[AU,Ay D]at o;cases o;have p:=BN D;have x:=ok l[i] (Cb D);have R:(BS L (l.take (i+1))).length<=200:=by obtain⟨t,et⟩:=SD (BS L (l.take (i+1))) (l.drop (i+1));rw[<- SE,Gg]at et;rw[et,AM]at le;lia
  generalize l[i]=W at r p x;obtain⟨b,rfl,rt⟩:=UQ (r.same λc xs e=>k2 c _ e (Ba e hd (by intro z;cases z))) x;have g:BS L (l.take (i+1))=if W∈BS L (l.take i)then BS L (l.take i)else BS L (l.take i)++[W]:=by rw[p,SE];rfl
  refine⟨_,U,_,U,d,_,U,DGet.t e2 rt,_,U,?_⟩;by_cases y:W∈BS L (l.take i)
  ·obtain⟨j,hj⟩:=Hu y;rw[As y]at g;have hs:(Bj (Bz 0 (BS L (l.take i))) (dW W)).isSome=true:=by rw[<- HY,Hn];exact⟨_,Cc (G4 hj),AV U⟩
   rw[hs];refine A7 ?_;exact⟨_,U,k2,g▸e2⟩
  rw[Ag y]at g;rw[g,AM]at R;have hn:=Vw (n:=0) y;rw[hn];refine Bw ?_;refine⟨_,U,d,_,U,.inl e2,_,U,_,U,d,_,U,DPut.t e2 rt (by rw[Dn];lia),_,U,λc u e hc=>by rw[Ao hc];exact k2 c u e hc,?_⟩;rw[Af,g,Er _ hn,Vx,Dn,OC]
 rintro B m ⟨M,rfl,k2,e2⟩;rw[C,BQ]at e2;refine⟨_,U,d,_,U,.inl e2,_,_,U,U,_,U,?_⟩;rw[Dn];refine Bq (λz=>?_) (λ_=>?_)
 ·have:=Bp z;lia
 exact q m k2 e2
structure DO where
 line:Str
 w:Str
 i:Nat
 j:Nat
 p:C4
 pj:C4
structure Gx (rs:List Ro)(D:DO):Prop where
 wd:Wd D.line (ER D.w D.p.1 D.pj.1)
 len:D.line.length<=1000
 pi:(plc rs)[D.i]? = some D.p
 pq:(plc rs)[D.j]? = some D.pj
 tip:D.w = "tip" -> D.i≠D.j
 nine:D.w∈Fo
def DC (D:DO)(W:Wl):List Wl:=LH D.w D.p W D.i (W.heaps.getD D.i []) (W.lids.getD D.i Str.empty) D.j (W.heaps.getD D.j []) (W.lids.getD D.j Str.empty)
abbrev Ci (rs:List Ro)(W:Wl):Prop:=Fw rs W/\Sz W (plc rs).length
def Iw (g:Good rs)(r:Ci rs W)(h:(plc rs)[i]? = some p):Pt rs W i p (W.heaps.getD i []) (W.lids.getD i Str.empty):=by
 obtain⟨a,hp,l,pt⟩:=Pt.of g r.1 r.2 (AW.mp h).1;have e1:=pt.pl;rw[h]at e1;cases e1;have e2:W.heaps.getD i []=hp:=by rw[Cy,pt.he];rfl
 have e3:W.lids.getD i Str.empty=l:=by rw[Cy,pt.li];rfl
 rw[e2,e3];exact pt
def Po (g:Good rs)(r:Ci rs W)(ok:Gx rs D):∀Z∈DC D W,Ci rs Z:=iS r.1 r.2 (Iw g r ok.pi) (Iw g r ok.pq) ok.tip ok.nine
structure NA (rs:List Ro)(Ws:List Wl)(Ds:List DO)(n:Nat)(L:List Wl):Prop where
 nd:L.Nodup
 rw':∀W∈L,Ci rs W
 pre:∃t,L=BS [] Ws++t
 rch:∀(k:Nat) W,L[k]? = some W->(BS [] Ws).length<=k->∃(j:Nat) (Z:Wl) (D:DO),j<n/\j<k/\L[j]? = some Z/\D∈Ds/\W∈DC D Z
 clo:∀(i:Nat) Z,i<n->L[i]? = some Z->∀D∈Ds,∀W∈DC D Z,W∈L
structure NI (rs:List Ro)(Ds:List DO)(L:List Wl)(Z:Wl)(k:Nat)(M:List Wl):Prop where
 nd:M.Nodup
 rw':∀W∈M,Ci rs W
 pre:∃t,M=L++t
 mem:∀W∈M,W∈L\/∃D∈Ds,W∈DC D Z
 clo:∀D∈Ds.take k,∀W∈DC D Z,W∈M
def NA.start (h:∀W∈Ws,Ci rs W):NA rs Ws Ds 0 (BS [] Ws):=by
 refine⟨SC nodup_nil,λW b=>?_,⟨[],(BC _).symm⟩,λk W d e=>?_,λi a c=>absurd c (Nat.not_lt_zero _)⟩
 ·rcases addN_mem.mp b with z | z
  ·cases z
  exact h W z
 have:=(AW.mp d).1;lia
def NI.start (a:Wl)(h:NA rs Ws Ds n L):NI rs Ds L a 0 L:=⟨h.nd,h.rw',⟨[],(BC _).symm⟩,λW b=>.inl b,λD hD=>by rw[EO]at hD;cases hD⟩
def NI.next {k:Nat} (g:Good rs)(l:Ci rs Z)(h:NI rs Ds L Z k M)(c:Ds[k]? = some D)(ok:Gx rs D):NI rs Ds L Z (k+1) (BS M (DC D Z)):=by
 obtain⟨f,d⟩:=AW.mp c;refine⟨SC h.nd,λW a=>?_,?_,λW a=>?_,λj b W a=>?_⟩
 ·rcases addN_mem.mp a with z | z
  ·exact h.rw' W z
  exact Po g l ok W z
 ·obtain⟨t,e⟩:=h.pre;obtain⟨t',i⟩:=SD M (DC D Z);exact⟨t++t',by rw[i,e,B4]⟩
 ·rcases addN_mem.mp a with z | z
  ·exact h.mem W z
  exact .inr ⟨D,Cc c,z⟩
 rw[BN f,d]at b;rcases Br.mp b with z | z
 ·exact addN_mem.mpr (.inl (h.clo j z W a))
 rw[AF.mp z]at a;exact addN_mem.mpr (.inr a)
def NA.next (h:NA rs Ws Ds n L)(hz:L[n]? = some Z)(i:NI rs Ds L Z Ds.length M):NA rs Ws Ds (n+1) M:=by
 obtain⟨t,rfl⟩:=i.pre;have u:=(AW.mp hz).1;have c:∀{k:Nat}{W:Wl},L[k]? = some W->(L++t)[k]? = some W:=λ{k W} e=>by rw[CQ (AW.mp e).1];exact e
 refine⟨i.nd,i.rw',?_,λk W a q=>?_,λk W a b D hD V g=>?_⟩
 ·obtain⟨t',e⟩:=h.pre;exact⟨t'++t,by rw[e,B4]⟩
 ·by_cases f:k<L.length
  ·rw[CQ f]at a;obtain⟨j,o,D,s,m,p,l,r⟩:=h.rch k W a q;exact⟨j,o,D,Ψ,m,c p,l,r⟩
  rcases i.mem W (Cc a)with z | ⟨D,hD,z⟩
  ·exfalso;rw[DK Ψ]at a;exact(Dj.mp i.nd).2.2 W z W (Cc a) U
  exact⟨n,Z,D,Ψ,Ψ,c hz,hD,z⟩
 by_cases d:k<n
 ·rw[CQ Ψ]at b;exact Hw _ (h.clo k W d b D hD V g)
 obtain rfl:k=n:=by lia
 rw[c hz]at b;cases b;exact i.clo D (BQ▸hD) V g
inductive Qb (C:Addr)(vs:List V)(H:Hp)(Q:VK)(E0_:XK):Prop
 | mk (x lw ll:Addr) (rs:List Ro) (Ws:List Wl) (Ds:List DO) (us:List V) (c0:vs=[.ref x,.ref lw,.ref ll]) (c1:RoomAt C H x rs) (c2:Good rs) (c3:H lw=some (.lst us)) (c4:RdVs H us (Ws.map dW)) (c5:(∀W∈Ws,Ci rs W)) (c6:H ll=some (.lst (Ds.map λD=>V.str D.line))) (c7:(∀D∈Ds,Gx rs D)) (c8:(∀M:List Wl,M.Nodup->(∀W∈M,Ci rs W)->M.length<=200)) (c9:∀(d:Addr) (L:List Wl) (H':Hp),Same H H'->H d=none->H' d=some (.dT (Bz 0 L))->NA rs Ws Ds L.length L->Q (.ref d) H'):Qb C vs H Q E0_
abbrev KJ:List Str:=["room", "worlds", "lines"]
abbrev jK:List Str:=BG KJ ["numbers", "done", "world", "line"]
def scNumberAll:Aw jK KJ (Ak Nj):=AA
def fA (F:Fun K "number_all" "number_all" Nj f fd)(T:Bl mg)(j:Ca P w K mg base CX0 1 "add_new" NM Lz QS)(l:Ca P w K mg base CX0 7 "turns" J3 IC (MN C)):Aj P w K mg base CX0 9 f fd KJ (Qb C):=by
 refine F.oq scNumberAll λai A ac s H vs Q E G h=>?_;obtain⟨x,lw,ll,rs,Ws,Ds,us,rfl,ro,g,hl,rd,a3,a6,a9,R,q⟩:=h;have hu:=Dh G;have a2:Room 1 _:=G.mono Ξ;have ah:=AB;refine⟨_,(Ai (AO (i:=3) scNumberAll.nd cA) (Ai (CV (Az j a2 Aq (Aa (pv 3) (Aa (pv 1) Ac)))) (Ai (AO (i:=4) scNumberAll.nd Ad) (Ai (bB C2 (AN IX (pv 4) (Be Ov Φ T.len BM (Aa (pv 3) Ac)) (AJ _)) (Ai (AO (i:=5) scNumberAll.nd (Ap AL (CG (tY U) Φ T.list DX (Aa (pv 3) Ac)) (pv 4) (λ_ _=>U))) (Ai (CU C2 U (BB (pv 2)) (A0 (i:=6) scNumberAll.nd) (Al (CV (Az j a2 Aq (Aa (pv 3) (Aa (Az l (G.mono Ξ) Aq (Aa (pv 0) (Aa (pv 6) (Aa (pv 5) Ac)))) Ac)))))) (Al (AO (i:=4) scNumberAll.nd (AD DS (pv 4) Ad)))))) (Al (Av (pv 3))))))),?_⟩;intro d hd;have s1:Same H (upd H d (.dT [])):=Same.new hd;have e1:(upd H d (.dT [])) d=some (.dT (Bz 0 [])):=Af;generalize (upd H d (.dT []))=H1 at s1 e1 ⊢;have N:=NA.start (Ds:=Ds) a3;have I:∀{W:Wl},Ci rs W->Ok W:=λr=>r.1.ok g r.2;refine⟨_,U,_,U,d,lw,[],Ws,us,U,e1,s1 _ _ hl,s1.rds rd,λW hW=>I (a3 W hW),R _ N.nd N.rw',λH2 k2 e2=>?_⟩;refine⟨λm B H'=>∃(n:Nat) (L:List Wl) (v5 o:Option V),B = [some (.ref x),some (.ref lw),some (.ref ll),some (.ref d),some (.int (n:Int)),v5,o]/\Same H H'/\H' d=some (.dT (Bz 0 L))/\NA rs Ws Ds n L/\n<=L.length/\m=200-n,⟨200,0,BS [] Ws,none,none,U,λc u e=>k2 c u (s1 _ _ e) (A1 e hd),e2,N,Bt _,U⟩,?_⟩;rintro m B H3 ⟨n,L,v5,o,rfl,s3,e3,S,hn,rfl⟩;have lb:=R _ S.nd S.rw';refine⟨_,U,_,U,d,_,U,.inl e3,_,_,U,U,_,U,?_⟩;rw[Dn];refine Bq (λz=>?_) (λz=>?_)
 ·have a0:n<L.length:=by have:=Bp z;lia
  have hz:=Ay a0;have y:=S.rw' L[n] (Cb a0);generalize L[n]=Z at hz y;refine⟨λa4 H'=>∃(L':List Wl) (v5 o:Option V),a4=[some (.ref x),some (.ref lw),some (.ref ll),some (.ref d),some (.int ((n+1:Nat):Int)),v5,o]/\Same H H'/\H' d=some (.dT (Bz 0 L'))/\NA rs Ws Ds (n+1) L'/\n+1<=L'.length,?_,?_⟩
  ·rintro a4 H' ⟨L',v5,o,rfl,s',e',af,ae⟩;exact⟨200-(n+1),Ψ,n+1,L',v5,o,U,s',e',af,ae,U⟩
  refine⟨_,U,d,_,U,.inl e3,λl4 as ag ky=>?_⟩;have a7:=ky.len;rw[Dn]at a7;have hb:as[n]? = some as[n]:=Ay Ψ;have rt:=ky.at' n as[n] _ _ hb (G4 hz);generalize as[n]=b at hb rt;obtain⟨H4,g0,s4,e4⟩:=DV (H:=H3) ag;rw[g0];refine⟨_,U,l4,_,_,_,U,U,Y.of e4,Au (by rw[AU,hb];rfl),?_⟩;refine⟨_,U,ll,U,⟨_,Y.of ((s3.trans s4) _ _ a6)⟩,?_⟩
  refine DI (K:=K) (a:=ll) (λi B H'=>∃(o:Option V) (M:List Wl),B = [some (.ref x),some (.ref lw),some (.ref ll),some (.ref d),some (.int (n:Int)),some (.ref b),o]/\Same H H'/\H' d=some (.dT (Bz 0 M))/\NI rs Ds L Z i M/\RdV H' (.ref b) (dW Z))
   ⟨_,L,U,s3.trans s4,s4 _ _ e3,NI.start Z S,s4.rd (Iv rt.rd)⟩ (λi B H' _ ab=>by obtain⟨_,_,_,s,_⟩:=ab;exact Y.of (s _ _ a6)) ?_ ?_
  ·rintro i v B H5 hv ⟨a8,M,rfl,s5,e5,ni,a5⟩
   obtain⟨D,hD,rfl⟩:∃D,Ds[i]? = some D/\V.str D.line=v:=by
    rw[AU]at hv;cases h:Ds[i]? with
    | none=>rw[h]at hv;cases hv
    | some D=>rw[h]at hv;cases hv;exact⟨D,U,U⟩
   have p:=a9 D (Cc hD);have fP:=g.fewP;have X:=NI.next g y ni hD p;refine⟨_,U,_,U,_,U,_,U,x,rs,_,Z,D.line,D.w,D.i,D.p,_,_,D.j,D.pj,_,_,U,ro.same s5,g,a5,p.wd,p.len,Iw g y p.pi,Iw g y p.pq,p.tip,p.nine,(I y).few,by have:=y.2.2;lia,λlt aa H6 s6 e6 r6=>?_⟩;have a1:=s6 _ _ e5;refine⟨d,lt,M,DC D Z,aa,U,a1,e6,r6,λW hW=>I (Po g y p W hW),R _ X.nd X.rw',λH7 k7 e7=>?_⟩;exact⟨_,_,U,λc u e=>k7 c u ((s5.trans s6) _ _ e) (A1 e hd),e7,X,(s6.rd a5).same λc xs e=>k7 c _ e (Ba e a1 nofun)⟩
  rintro B H5 ⟨a8,M,rfl,s5,e5,ni,_⟩;rw[Ah]at ni;obtain⟨t,et⟩:=ni.pre;refine⟨_,U,_,_,U,U,M,_,_,U,s5,e5,S.next hz ni,by rw[et,AM];lia⟩
 have ad:n=L.length:=by have:=λh=>z (AV h);lia
 rw[ad]at S;exact⟨_,U,q d L H3 s3 hd e3 S⟩
inductive Qa (vs:List V)(H:Hp)(Q:VK)(E0_:XK):Prop
 | mk (d lw:Addr) (L Ws:List Wl) (us:List V) (c0:vs=[.ref d,.ref lw]) (c1:Rd H d (.dT (Bz 0 L))) (c2:L.Nodup) (c3:H lw=some (.lst us)) (c4:RdVs H us (Ws.map dW)) (c5:(∀W∈Ws,Ok W/\W∈L)) (c6:Ws.length<=60) (c7:Ws.Nodup) (c8:∀(l:Addr) (zs:List Int) (H':Hp),Same H H'->H l=none->H' l=some (.lst (zs.map V.int))->zs.Pairwise (· < ·)->(∀z∈zs,0<=z/\z<(L.length:Int))->zs.length<=60->Q (.ref l) H'):Qa  vs H Q E0_
def GJ (s:Same H H')(h:Rd H d o):Rd H' d o:=by
 rcases h with h | ⟨f,h⟩
 ·exact .inl (s _ _ h)
 exact .inr ⟨f,s _ _ h⟩
def none_of (s:Same H H')(h:H' l=none):H l=none:=by
 cases e:H l with
 | none=>rfl
 | some u=>rw[s _ _ e]at h;cases h
def LG (b:Rd H d (.dT kvs))(e:H c=some u)(a:u≠.dT kvs)(f:∀o,u≠.frz o (.dT kvs)):c≠d:=λz=>by
 subst z;rcases b with h | ⟨o,h⟩
 ·rw[e]at h;exact a (Bh h)
 rw[e]at h;exact f o (Bh h)
def RoomAt.keepT (R:RoomAt C H x rs)(p:Rd H d (.dT kvs))(k:∀c u,H c=some u->c≠d->H' c=some u):RoomAt C H' x rs:=by obtain⟨m,q,h,o,ks,a,g,j,f⟩:=R.ex;have n:∀{c:Addr}{u:HO},H c=some u->(u≠.dT kvs)->(∀o,u≠.frz o (.dT kvs))->H' c=some u:=λe l i=>k _ _ e (LG p e l i);exact⟨m,q,h,o,ks,n a (λz=>by cases z) (λo z=>by cases z),n g (λz=>by cases z) (λo z=>by cases z),j.same λb xs e=>n e (λz=>by cases z) (λo z=>by cases z),n f (λz=>by cases z) (λo z=>by cases z)⟩
def oR {R:It->Hp->Prop}{H:Hp}{d:Addr}{kvs:List (PyData×V)}(b:Rd H d (.dT kvs))(m:∀o a,(∀c u,H c=some u->c≠d->a c=some u)->a d=some (.frz o (.dT kvs))->R (HQ d o kvs) a) :
  (H d=some (.dT kvs)/\∀o,R (HQ d o kvs) (upd H d (.frz o (.dT kvs))))\/∃o,H d=some (.frz o (.dT kvs))/\R (HQ d o kvs) H:=by
 rcases b with h | ⟨o,h⟩
 ·exact .inl ⟨h,λo=>m o _ (λc u e f=>by rw[Ao f];exact e) Af⟩
 exact .inr ⟨o,h,m o _ (λc u e _=>e) h⟩
def V1 (b:∀{q:VK},q (.ref d) H->Ia n σ H q)(e:Rd H d (.dT kvs))(m:∀o a,(∀c u,H c=some u->c≠d->a c=some u)->a d=some (.frz o (.dT kvs))->R (HQ d o kvs) a):V2 (Ia n) σ H R:=
 b ⟨d,kvs,U,oR e m⟩
def RE {H a:Hp}{d l:Addr}{o:HO}(k:∀c u,H c=some u->c≠d->a c=some u)(e:a d=some o)(h:a l=none):H l=none:=by
 cases e':H l with
 | none=>rfl
 | some u=>
  exfalso;by_cases b:l=d
  ·rw[b,e]at h;cases h
  rw[k _ _ e' b]at h;cases h
def GL (h:Rd H d o)(n:H l=none):d≠l:=by
 rcases h with h | ⟨_,h⟩
 ·exact A1 h n
 exact A1 h n
def RY {L:List Wl}{W:Wl}(h:W∈L):L[L.idxOf W]? = some W:=by have a:=Xo h;rw[Ay a,List.getElem_idxOf a]
def pT {L c:List Wl}(h:∀W∈c,W∈L)(g:c.Nodup):(c.map λW=>(L.idxOf W:Int)).Nodup:=by
 refine Ma.mpr (List.Pairwise.imp_of_mem (λ{a b} ha hb ne e=>ne ?_) g);have f:L.idxOf a=L.idxOf b:=by lia
 have d:=RY (h a ha);rw[f,RY (h b hb)]at d;cases d;rfl
abbrev KI:List Str:=["numbers", "worlds"]
abbrev jJ:List Str:=KI
def Zm:Aw jJ KI (Ak J8):=AA
def X9 (g:Good rs)(r:Ci rs W)(ok:Gx rs D):(DC D W).Nodup/\(DC D W).length<=2:=by
 unfold DC LH LI ET putF;split
 ·split <;> exact⟨Θ,Θ⟩
 split
 ·split <;> exact⟨Θ,Θ⟩
 exact⟨Θ,Θ⟩
inductive QD (C:Addr)(vs:List V)(H:Hp)(Q:VK)(E0_:XK):Prop
 | mk (x d:Addr) (rs:List Ro) (D:DO) (L:List Wl) (c0:vs=[.ref x,.ref d,.str D.line]) (c1:RoomAt C H x rs) (c2:Good rs) (c3:Rd H d (.dT (Bz 0 L))) (c4:L.Nodup) (c5:(∀W∈L,Ci rs W)) (c6:L.length<=200) (c7:Gx rs D) (c8:(∀Z∈L,∀W∈DC D Z,W∈L)) (c9:∀(l:Addr) (tab:List (List Int)) (us:List V) (H':Hp),(∀c u,H c=some u->c≠d->H' c=some u)->Rd H' d (.dT (Bz 0 L))->H l=none->H' l=some (.lst us)->A2 (λv e=>∃a,v=V.ref a/\H a=none/\H' a=some (.lst (e.map V.int))) us tab->DeOk L.length ⟨D.line,0,tab⟩->Q (.ref l) H'):QD C vs H Q E0_
abbrev Lg:List Str:=["room", "numbers", "line"]
abbrev lB:List Str:=Lg
def ZH:Aw lB Lg (Ak Kn):=AA
def eY (F:Fun K "numbers_of" "numbers_of" J8 f fd)(T:Bl mg):Aj P w K mg base CX0 1 f fd KI Qa:=by
 refine F.oq Zm λa1 A M s H vs Q E hr h=>?_;obtain⟨d,lw,L,m,us,rfl,hd,nd,v,rd,ok,few,S,q⟩:=h;have a0:=AB;have x:us.length=m.length:=by rw[rd.length,Ah]
 refine⟨_,(Al (Av (Be tU Φ T.sorted Sr (Aa (B1 (sc:=Ak J8) (own:=["world"]) (js:=[0]) BA U (BB (pv 1)) (λ_ _ _ _=>A0 (i:=0) (show List.Nodup (["world", "numbers"]:List Str) by decide +kernel)) (λ_ _ _ _=>BV) (λ_ _ _ _=>(Ru (Dh hr) (pv 1) (pv 0) (λ_ _=>U)))) Ac)))),?_⟩;refine⟨_,U,lw,U,⟨_,Y.of v⟩,λD hD=>?_⟩
 refine BK (λi ys j=>ys=(m.take i).map (λW=>V.int (L.idxOf W:Int))/\Same H j/\j D=some (.lst ys)) ⟨U,Same.new hD,Af⟩
  (λi ys j X ⟨_,s2,_⟩=>⟨_,us[i],Y.of (s2 _ _ v),Ay X⟩) (λys j I=>by obtain⟨_,s2,_⟩:=I;exact⟨_,Y.of (s2 _ _ v),An _⟩) ?_ ?_
 ·rintro i ys j y H3 X ⟨rfl,s2,e2⟩ ⟨rfl,hy⟩;refine BX ?_;have e:i<m.length:=by lia
  obtain⟨dd,p,u⟩:=rd.get (hy _ (Y.of (s2 _ _ v)));rw[AU,Ay e]at p;cases p;have r:=BN e;have g:=ok m[i] (Cb e);generalize m[i]=W at u r g;obtain⟨b,rfl,rt⟩:=UQ (s2.rd u) g.1;have c:=Vv (n:=0) nd (RY g.2);rw[OC]at c;refine⟨_,U,_,U,d,_,U,.inr ⟨_,_,b,GJ s2 hd,U,rt,c.symm⟩,_,e2,by rw[Ah,Bm];lia,by rw[r,AR];rfl,s2.put hD,Af⟩
 rintro ys j ⟨rfl,s2,e2⟩;rw[x,BQ]at e2;have B:j D=some (.lst ((m.map λW=>(L.idxOf W:Int)).map V.int)):=by rw[Bk];exact e2
 refine⟨D,_,U,Y.of B,by rw[Ah];lia,λl zs o N G=>?_⟩;have R:=N.length_eq;rw[Ah]at R;refine q l zs _ (s2.trans (Same.new o)) (none_of s2 o) Af ((G.and (N.nodup_iff.mpr (pT (λW C=>(ok W C).2) S))).imp λ{a b} h=>by obtain⟨h1,h2⟩:=h;lia) (λz hz=>?_) Ψ;obtain⟨W,C,rfl⟩:=AK.mp (N.mem_iff.mp hz);have:=Xo (ok W C).2;lia
def gW (F:Fun K "deed_table" "deed_table" Kn f fd)(T:Bl mg)(m:Ca P w K mg base CX0 1 "numbers_of" J8 KI Qa)(B:Ca P w K mg base CX0 7 "turns" J3 IC (MN C)):Aj P w K mg base CX0 8 f fd Lg (QD C):=by
 refine F.oq ZH λae A a9 s H vs Q E X h=>?_;obtain⟨x,d,rs,D,L,rfl,ro,g,hd,nd,ab,few,G,a8,q⟩:=h;have hu:=Dh X;have ac:=AB;have a4:∀{W:Wl},Ci rs W->Ok W:=λr=>r.1.ok g r.2;refine⟨_,(Al (Av (B1 (sc:=Ak Kn) (own:=["world"]) (js:=[1,0,2]) BA U (Vc (pv 1)) (λ_ _ _ _=>A0 (i:=0) (show List.Nodup (["world", "numbers", "room", "line"]:List Str) by decide +kernel)) (λ_ _ _ _=>BV) (λ_ _ _ _=>(Az m (X.mono Ξ) Aq (Aa (pv 1) (Aa (Az B (X.mono Ξ) Aq (Aa (pv 2) (Aa (pv 3) (Aa (pv 0) Ac)))) Ac))))))),?_⟩;unfold Pr tLc;refine V1 (n:=1) ?_ hd λo H1 k1 e1=>?_
 ·intro q h;exact⟨_,U,h⟩
 intro D0 R
 refine BK (λi ys I=>∃p:List (List Int),A2 (λv e=>∃a,v=V.ref a/\a≠D0/\H a=none/\I a=some (.lst (e.map V.int))) ys p/\p.length=i/\(∀e∈p,e.Pairwise (· < ·)/\(∀z∈e,0<=z/\z<(L.length:Int))/\e.length<=60)/\Same H1 I/\I D0=some (.lst ys)) ⟨[],⟨U,λi v t hv=>by cases hv⟩,U,λe M=>(by cases M),Same.new R,Af⟩
  (λi ys I hi a0=>by obtain⟨_,_,_,_,s2,_⟩:=a0;exact⟨by rw[Dn];exact hi,s2 _ _ e1⟩) (λys I a0=>by obtain⟨_,_,_,_,s2,_⟩:=a0;exact⟨by rw[Dn];exact An _,s2 _ _ e1⟩) ?_ ?_
 ·rintro i ys I y H3 hi ⟨p,a2,ht,M,s2,e2⟩ ⟨rfl,k,v,b,hk,rfl,rt⟩;refine BX ?_;have hz:=Ay hi;have S:=ab L[i] (Cb hi);have cz:=a8 L[i] (Cb hi);generalize L[i]=Z at hz S cz;rw[G4 hz]at hk;cases hk;have a6:=a4 S;have fP:=g.fewP;obtain⟨tn,tl⟩:=X9 g S G;refine⟨_,U,_,U,_,U,_,U,x,rs,_,Z,D.line,D.w,D.i,D.p,_,_,D.j,D.pj,_,_,U,(ro.keepT hd k1).same s2,g,Iv rt.rd,G.wd,G.len,Iw g S G.pi,Iw g S G.pq,G.tip,G.nine,a6.few,by have:=S.2.2;lia,λlt a7 H6 s6 e6 r6=>?_⟩;refine⟨d,lt,L,DC D Z,a7,U,.inr ⟨o,s6 _ _ (s2 _ _ e1)⟩,nd,e6,r6,λW hW=>⟨a4 (Po g S G W hW),cz W hW⟩,Ψ,tn,λl zs H7 s7 n7 e7 up aa a3=>?_⟩;have N:=s6.trans s7;have ad:=a2.len;have lD:l≠D0:=(A1 (s6 _ _ e2) n7).symm;refine⟨_,N _ _ e2,Ψ,p++[zs],(a2.mono λv e _ h=>?_).app ⟨U,λj v e hv a1=>?_⟩,by rw[AM,ht];rfl,λe a1=>?_,(s2.trans N).put R,Af⟩
  ·obtain⟨a,rfl,ha,hn,h⟩:=h;exact⟨a,U,ha,hn,(Ao ha)▸N _ _ h⟩
  ·match j with
   | 0=>cases hv;cases a1;exact⟨l,U,lD,RE k1 e1 (none_of (s2.trans s6) n7),(Ao lD)▸e7⟩
   | j+1=>cases hv
  rcases Br.mp a1 with z | z
  ·exact M e z
  rw[AF.mp z];exact⟨up,aa,a3⟩
 rintro ys I ⟨p,a2,ht,M,s2,e2⟩;exact q D0 p ys I (λc u e hc=>s2 _ _ (k1 c u e hc)) (.inr ⟨o,s2 _ _ e1⟩) (RE k1 e1 R) e2 (a2.mono λv e _ a5=>by obtain⟨a,h1,_,h2,h3⟩:=a5;exact⟨a,h1,h2,h3⟩) ⟨ht,λe h=>(M e h).1,λe h=>(M e h).2.1,λe h=>(M e h).2.2⟩
abbrev KN:List Str:=["room", "numbers", "line"]
abbrev jN:List Str:=KN
def Zo:Aw jN KN (Ak J9):=AA
def O5 (H:Hp)(v:V)(q:DO×Int):Prop:=∃a,v=V.ref a/\H a=some (.tup [.str q.1.line,.int q.2])
structure O6 (rs:List Ro)(Ps:List (DO×Int)):Prop where
 ok:∀q∈Ps,Gx rs q.1
 st:∀q∈Ps,Mv (q.1.line,q.2)
 few:Ps.length<=40
 nd:(Ps.map λq=>q.1.line).Nodup
def vR (D0 d:Addr)(H:Hp)(v:V)(e:List Int):Prop:=∃b,v=V.ref b/\b≠D0/\b≠d/\H b=some (.lst (e.map V.int))
def DxV (D0 d:Addr)(H:Hp)(v:V)(de:Dee):Prop:=∃(a t:Addr) (es:List V),v=V.ref a/\a≠D0/\a≠d/\H a=some (.tup [.str de.name,.int de.price,.ref t])/\t≠D0/\t≠d/\H t=some (.lst es)/\A2 (vR D0 d H) es de.tab
def DxV.keep {de:Dee}(h:DxV D0 d H v de)(k:∀c u,H c=some u->c≠D0->c≠d->H' c=some u):DxV D0 d H' v de:=by obtain⟨a,t,o,e,m,l,w,i,g,s,r⟩:=h;exact⟨a,t,o,e,m,l,k _ _ w m l,i,g,k _ _ s i g,r.mono λv e _ f=>by obtain⟨b,p,j,n,q⟩:=f;exact⟨b,p,j,n,k _ _ q j n⟩⟩
def DxV.de {de:Dee}(h:DxV D0 d H v de):DeV H v de:=by obtain⟨a,t,f,e,p,o,l,m,s,j,r⟩:=h;exact⟨t,f,⟨a,e,l⟩,j,r.mono λv e _ c=>by obtain⟨b,g,n,q,i⟩:=c;exact⟨b,g,i⟩⟩
abbrev Lm:List Str:=["room", "numbers", "deeds", "looks"]
abbrev lR:List Str:=BG Lm ["charted_deeds", "charted_looks"]
def scChartOf:Aw lR Lm (Ak Iu):=AA
def Gc (g:Good rs)(ok:Gx rs D):∃ps:List Str,Wd D.line (D.w::ps)/\ps.length<=100/\LX rs D.w ps=true:=by have a:=ok.wd;unfold ER at a;rw[Ag (VA ok.nine)]at a;exact⟨_,a,by show 1<=100;decide,WE ok.pi (VB ok.nine)⟩
def vQ (H:Hp)(v:V)(s:Str×Int):Prop:=∃a,v=V.ref a/\H a=some (.tup [.str s.1,.int s.2])
abbrev IE:List Str:=["room", "line"]
abbrev jB:List Str:=BG IE ["words"]
def scReadLook:Aw jB IE (Ak J4):=AA
abbrev Lh:List Str:=["room", "deeds", "looks"]
abbrev lC:List Str:=BG Lh ["deed", "look"]
def scCheckTold:Aw lC Lh (Ak NB):=AA
structure HR (K:W.Frag)(C:Addr):Prop where
 cl:Cls K C
 n1:NoAttr K C "told_room"
 n2:NoAttr K C "numbers"
 n3:NoAttr K C "made_chart"
def g1 (x:Addr):List (Str×V):=L2.putF "told_room" (.ref x) []
def g2 (x d:Addr):List (Str×V):=L2.putF "numbers" (.ref d) (g1 x)
def g3 (x d y:Addr):List (Str×V):=L2.putF "made_chart" (.ref y) (g2 x d)
def qW (x d:Addr):(g2 x d).lookup ("numbers" : Str)=some (.ref d):=by unfold g2;rw[A3,As rfl]
def qU (x d y:Addr):(g3 x d y).lookup ("numbers" : Str)=some (.ref d):=by unfold g3 g2;rw[A3,Ag Δ,A3,As rfl]
def Wc (x d y:Addr):(g3 x d y).lookup ("told_room" : Str)=some (.ref x):=by unfold g3 g2 g1;rw[A3,Ag Δ,A3,Ag Δ,A3,As rfl]
def RoomAt.keepX (R:RoomAt C H x rs)(a:H y=some (.ins CT dy fl))(h:fl.lookup ("told_places" : Str)=none)(k:∀c u,H c=some u->c≠y->H' c=some u):RoomAt C H' x rs:=by obtain⟨l,m,i,o,ks,d,g,j,f⟩:=R.ex;refine⟨l,m,i,o,ks,k _ _ d λz=>?_,k _ _ g (Ba g a nofun),j.same λb xs e=>k _ _ e (Ba e a nofun),k _ _ f (Ba f a nofun)⟩;rw[z,a]at d;have e:=Bh d;injection e with _ _ e;rw[e,UJ]at h;cases h
def qT:([]:List (Str×V)).lookup ("told_places" : Str)=none:=rfl
def We (x:Addr):(g1 x).lookup ("told_places" : Str)=none:=by unfold g1;rw[A3,Ag Δ];rfl
def qX (x d:Addr):(g2 x d).lookup ("told_places" : Str)=none:=by unfold g2;rw[A3,Ag Δ];exact We x
abbrev IV:List Str:=["self", "room", "worlds", "deeds", "looks"]
abbrev mD:List Str:=IV
def ZY:Aw mD IV (Ak NL):=AA
abbrev cH:List Str:=["self"]
abbrev Rx:List Str:=["self"]
abbrev mB:List Str:=Rx
def ZX:Aw mB Rx (Ak Q9):=AA
inductive PU (C:Addr)(vs:List V)(H:Hp)(Q:VK)(E0_:XK):Prop
 | mk (x:Addr) (rs:List Ro) (p:Str×Str) (c0:vs=[.ref x,.str p.1]) (c1:RoomAt C H x rs) (c2:Good rs) (c3:p∈BD rs) (c4:Q (.str p.2) H):PU C vs H Q E0_
def Zi:Aw ["self", "thing"] ["self", "thing"] (Ak QX):=AA
abbrev Lb:List Str:=["room", "word", "name"]
abbrev kM:List Str:=Lb
def Zy:Aw kM Lb (Ak Nz):=AA
def Xu (rs:List Ro)(o:Option Str)(s:Str):Prop:=(o=none/\s = "-")\/∃x∈BD rs,o=some x.1/\s=x.2
def J2 (rs:List Ro):Option Str->Str
 | none => "-"
 | some t=>(((BD rs).find? λx=>x.1 == t).map (·.2)).getD "-"
def Y8 (h:∀t,o=some t->t∈(BD rs).map (·.1)):Xu rs o (J2 rs o):=by
 cases o with
 | none=>exact Or.inl ⟨U,U⟩
 | some t=>
  obtain⟨y,a,e⟩:=AK.mp (h t U);refine .inr ?_;cases hf:(BD rs).find? (λx=>x.1 == t)with
  | none=>exact absurd (List.find?_eq_none.mp hf y a) (by rw[e];simp)
  | some x=>refine⟨x,List.mem_of_find?_eq_some hf,by rw[Gj (List.find?_some (p:=λx:Str×Str=>x.1 == t) hf)],?_⟩;show(Option.map (λx=>x.2) ((BD rs).find? λx=>x.1 == t)).getD _=_;rw[hf];rfl
inductive PR (C:Addr)(vs:List V)(H:Hp)(Q:VK)(E0_:XK):Prop
 | mk (x:Addr) (rs:List Ro) (o:Option Str) (z:Str) (c0:vs=[.ref x,oV o]) (c1:RoomAt C H x rs) (c2:Good rs) (c3:Xu rs o z) (c4:Q (.str z) H):PR C vs H Q E0_
abbrev KE:List Str:=["room", "thing"]
abbrev iW:List Str:=KE
def Zh:Aw iW KE (Ak Nc):=AA
abbrev fhS:Str:=Str.ofString "feel hand"
abbrev KM:List Str:=["room", "line", "world"]
abbrev jM:List Str:=BG KM ["words"]
def scLooked:Aw jM KM (Ak Nl):=AA
inductive Qk (vs:List V)(H:Hp)(Q:VK)(E0_:XK):Prop
 | mk (v:V) (c0:vs=[v,.str "feel",.str "hand"]) (c1:Q (.bl true) H):Qk  vs H Q E0_
inductive MQ (vs:List V)(H:Hp)(Q:VK)(E0_:XK):Prop
 | mk (v:V) (c0:vs=[v,.str fhS]) (c1:∀(l:Addr) (H':Hp),Same H H'->H' l=some (.lst [.str "feel",.str "hand"])->Q (.ref l) H'):MQ  vs H Q E0_
inductive Qd (C:Addr)(vs:List V)(H:Hp)(Q:VK)(E0_:XK):Prop
 | mk (x:Addr) (rs:List Ro) (v:V) (W:Wl) (c0:vs=[.ref x,.str fhS,v]) (c1:RoomAt C H x rs) (c2:Good rs) (c3:RdV H v (dW W)) (c4:(∀t,W.hand=some t->t∈(BD rs).map (·.1))) (c5:∀H':Hp,Same H H'->Q (.str (J2 rs W.hand)) H'):Qd C vs H Q E0_
def fV (F:Fun K "is_look" "is_look" Nz f fd):Aj P w K mg base CX0 2 f fd Lb Qk:=by refine F.oq Zy ?_;rintro b A a s H vs Q E c⟨v,rfl,q⟩;refine⟨_,(Ai (AY (AN By (pv 2) AC (AJ _)) (Al (Av (Cn By (pv 1) AC (AJ _)))) AX) B6),_,U,U,_,U,Fs U ⟨_,U,U,?_⟩⟩;rw[AV rfl];exact q
def eC (F:Fun K "read_look" "read_look" J4 f fd)(T:Bl mg)(a:Ca P w K mg base CX0 2 "is_look" Nz Lb Qk):Aj P w K mg base CX0 3 f fd IE MQ:=by
 refine F.oq scReadLook λj A d s H vs Q E e h=>?_;obtain⟨v,rfl,q⟩:=h;have m:=AB;have p:fhS.length=9:=by decide +kernel
 have c:Txt.split fhS blank=(["feel", "hand"]:List Str):=by decide +kernel
 refine⟨_,(Ai (AO (i:=2) scReadLook.nd (Dg Ek DJ EM EA (pv 1) (Aa AC Ac))) (Ai (AY (PW.pt (DE (AN Fn (Be Cv Φ T.len BM (Aa (pv 2) Ac)) Ad (AJ _)) (EW (C6 (CS (Az a e Aq (Aa (pv 0) (Aa (Ap AL (pv 2) Ad (λ_ _=>U)) (Aa (Ap AL (pv 2) Ad (λ_ _=>U)) Ac))))))))) B6 AX) (Al (Av (pv 2))))),_,U,U,_,_,U,U,Φ,Ψ,λl o=>?_⟩;refine Oa (["feel", "hand"]:List Str) _ (by show(Txt.split _ blank).map V.str=_;rw[c]) o λg n b=>?_;refine⟨_,U,_,_,U,.inl ⟨_,Y.of b,U⟩,U,_,U,?_⟩;refine pM U ?_;refine⟨_,U,_,U,l,_,_,_,U,U,Y.of b,Au U,_,U,l,_,_,_,U,U,Y.of b,Au U,_,U,_,U,?_⟩;exact A7 ⟨_,U,q l g n b⟩
def dU (F:Fun K "shape_of" "Room.shape_of" QX f fd)(L:Cl K C):Aj P w K mg base CX0 1 f fd ["self", "thing"] (PU C):=by refine F.oq Zi λn A b s H vs Q E l h=>?_;obtain⟨x,rs,p,rfl,R,g,r,q⟩:=h;have d:=Dh l;obtain⟨e,i,a,o,kvs,c,u,v,m⟩:=R.ex;have j:DGet H a (.str p.1) (some (.str p.2)):=.inl ⟨shK rs,(Sum.inr p.1:Key),.inl m,U,(UA g.ndT r).symm⟩;refine⟨_,Ai (AY (Kw (NV d (pv 1) (CA (pv 0) U))) B6 AX) (Al (Av (Ru d (CA (pv 0) U) (pv 1) (λ_ _=>U)))),_,U,_,U,x,C,e,_,_,U,c,L.cl,L.nS,Rf i a,a,_,U,j,_,U,?_⟩;exact A7 ⟨_,U,x,C,e,_,_,U,c,L.cl,L.nS,Rf i a,_,U,a,_,U,j,q⟩
def dS (F:Fun K "shape_told" "shape_told" Nc f fd)(L:Cl K C)(b:Binds K d_s ["self", "thing"] [])(c:B5 K C "shape_of" f_s)(a:Aj P w K mg base CX0 1 f_s d_s ["self", "thing"] (PU C)):Aj P w K mg base CX0 2 f fd KE (PR C):=by
 refine F.oq Zh ?_;rintro i A e s H vs Q E d⟨x,rs,o,z,rfl,R,g,m,q⟩;obtain⟨n,p,l,B,kvs,h,u,v,r⟩:=R.ex;refine⟨_,(Al (Av (Fk (AN IZ (pv 1) CW (AJ _)) AC (Kz (pv 0) L.cl c a d b .nil Aq (Aa (pv 1) Ac))))),_,U,U,_,U,?_⟩;rcases m with⟨rfl,rfl⟩ | ⟨y,j,rfl,rfl⟩
 ·exact Bw q
 apply A7;exact⟨_,U,x,n,_,U,h,DQ p l Δ Δ,_,U,x,rs,y,U,R,g,j,q⟩
def fH (F:Fun K "looked" "looked" Nl f fd)(b:Ca P w K mg base CX0 3 "read_look" J4 IE MQ)(a:Ca P w K mg base CX0 2 "shape_told" Nc KE (PR C)):Aj P w K mg base CX0 4 f fd KM (Qd C):=by refine F.oq scLooked ?_;rintro r A e s H vs Q E d⟨x,rs,v,W,rfl,R,g,u,n,q⟩;refine⟨_,(Ai (AO (i:=3) scLooked.nd (Az b d Aq (Aa (pv 0) (Aa (pv 1) Ac)))) (Ai (AY (AN By (Ap AL (pv 3) Ad (λ_ _=>U)) AC (AJ _)) (Al (Av (Az a (d.mono Ξ) Aq (Aa (pv 0) (Aa (Ap Bf (pv 2) Ad (λ_ _=>U)) Ac))))) AX) B6)),?_⟩;refine⟨_,U,_,U,_,U,λl m j p=>?_⟩;obtain⟨c,D,B,cl,xs,ys,rfl,o,y,G,z,L,I⟩:=parts u;have h:=LU y;subst h;refine⟨_,U,l,_,_,_,U,U,Y.of p,Au U,U,_,U,Fs U ?_⟩;exact⟨_,U,_,U,c,_,_,_,U,U,SqT.of (j _ _ o),Au U,x,rs,W.hand,_,U,R.same j,g,Y8 n,q m j⟩
inductive Ic (C:Addr)(vs:List V)(H:Hp)(Q:VK)(E0_:XK):Prop
 | mk (x:Addr) (rs:List Ro) (c0:vs=[.ref x]) (c1:RoomAt C H x rs) (c2:∀(l:Addr) (H':Hp),Same H H'->H l=none->H' l=some (.lst (((BD rs).map (·.1)).map V.str))->Q (.ref l) H'):Ic C vs H Q E0_
def Zg:Aw ["self"] ["self"] (Ak QW):=AA
open StrLaws in
def YY (c:1<=y.length)(h:∀k,¬At x y x.length k):Txt.split x y=[x]:=by
 obtain⟨f,a,_⟩:=occ_tight x y c;unfold Txt.split;split
 ·rfl
 split
 ·rfl
 rename_i b;cases ho:Builtin.Str.occurrences x y 0 x.length (x.length+1)with
 | nil=>exact absurd (by rw[ho];rfl) b
 | cons d r=>rw[ho]at a;exact absurd a.2.1 (h d)
def WU (h:32∉p)(e:p++32::q=p'++32::q'):(p'=p/\q'=q)\/∃f,p'=p++32::f/\q=f++32::q':=by
 rcases Tq.mp e with⟨a,b,d⟩ | ⟨a,b,d⟩
 ·cases a with
  | nil=>rw[BC]at b;exact .inl ⟨b,(Fb d).2.symm⟩
  | cons c a=>obtain⟨rfl,g⟩:=Fb d;exact .inr ⟨a,b,g⟩
 cases a with
 | nil=>rw[BC]at b;exact .inl ⟨b.symm,(Fb d).2⟩
 | cons c a=>obtain⟨rfl,g⟩:=Fb d;exact absurd (by rw[b];simp) h
theorem Pb:∀{ws:List (List Nat)}{A B w:List Nat},(∀v∈ws,32∉v)->32∉w->J ws=A++32::(w++32::B)->w∈ws
 | [],A,B,w,_,_,e=>by exfalso;have:(J ([]:List (List Nat))).length=0:=rfl;rw[e]at this;simp at this
 | [a],A,B,w,h,_,e=>by have i:a=A++32::(w++32::B):=e;exact absurd (by rw[i];simp) (h a (Bb ..))
 | a::b::r,A,B,w,h,hw,e=>by
  have i:a++32::J (b::r)=A++32::(w++32::B):=e;rcases WU (h a (Bb ..)) i with⟨_,d⟩ | ⟨l,_,d⟩
  ·refine Bc _ ?_;cases r with
   | nil=>have g:w++32::B=b:=d;exact absurd (by rw[<- g];simp) (h b Θ)
   | cons c r=>
    have g:w++32::B=b++32::J (c::r):=d;rcases WU hw g with⟨f,_⟩ | ⟨p,f,_⟩
    ·rw[f];exact Bb ..
    exact absurd (by rw[f];simp) (h b Θ)
  exact Bc _ (Pb (λv j=>h v (Bc _ j)) hw d)
open StrLaws in
def Ib {ws:List Str}{w y:Str}(j:∀v∈ws,32∉cs v)(f:32∉cs w)(b:cs y=32::(cs w++[32]))(d:w∉ws):Txt.split (Txt.join blank ws) y=[Txt.join blank ws]:=by
 refine YY (by rw[((A8 y).symm),b];simp) λk m=>?_;have c:=m.2;rw[subAt_eq]at c;have i:((cs (Txt.join blank ws)).drop k).take y.length=cs y:=Gj c;have g:cs (Txt.join blank ws)=J (ws.map cs):=by rw[<- Ji];exact A5 cs (Gi blank ws)
 have e:J (ws.map cs)=(cs (Txt.join blank ws)).take k++32::(cs w++32::((cs (Txt.join blank ws)).drop k).drop y.length):=by
  rw[<- g];conv=>lhs;rw[<- Gg k (cs (Txt.join blank ws)),<- Gg y.length ((cs (Txt.join blank ws)).drop k),i,b]
  simp
 have h:=Pb (λv l=>by obtain⟨u,a,rfl⟩:=AK.mp l;exact j u a) f e;obtain⟨u,a,e2⟩:=AK.mp h;exact d (by rw[<- BF e2];exact a)
def lidsS:List Str:=["open", "shut", "locked"]
structure Ml (K:W.Frag)(mg:Str->Option Value)(aI:Addr):Prop where
 wm:mg "LIDS_facts" = some (.ref aI)
 wv:∀H:Hp,SqT K H aI (lidsS.map V.str)
abbrev tn (rs:List Ro):List Str:=(BD rs).map (·.1)
abbrev pn (rs:List Ro):List Str:=(plc rs).map (·.1)
def C5 (rs:List Ro)(a b:Str):Bool:=if b∈(["top", "held"]:List Str)then decide (a∈tn rs)else(decide (b∈lidsS) || decide (b = "bare")) && decide (a∈pn rs)
def Cz (rs:List Ro)(b c:Str):Bool:=if b = "in" then decide (c∈pn rs)else decide (b = "on") && decide (c∈tn rs)
def BP (rs:List Ro)(ws:List Str):Bool:=
 if ws=(["free"]:List Str)then true else match ws with
  | [a,b]=>C5 rs a b
  | [a,b,c]=>decide (a∈tn rs) && Cz rs b c
  | _=>false
inductive PQ (C:Addr)(vs:List V)(H:Hp)(Q:VK)(E0_:XK):Prop
 | mk (x:Addr) (rs:List Ro) (a b:Str) (c0:vs=[.ref x,.str a,.str b]) (c1:RoomAt C H x rs) (c2:∀H':Hp,Same H H'->Q (.bl (C5 rs a b)) H'):PQ C vs H Q E0_
abbrev IM:List Str:=["room", "name", "word"]
abbrev kK:List Str:=IM
def Zv:Aw kK IM (Ak Ny):=AA
inductive PP (C:Addr)(vs:List V)(H:Hp)(Q:VK)(E0_:XK):Prop
 | mk (x:Addr) (rs:List Ro) (b c:Str) (c0:vs=[.ref x,.str b,.str c]) (c1:RoomAt C H x rs) (c2:∀H':Hp,Same H H'->Q (.bl (Cz rs b c)) H'):PP C vs H Q E0_
abbrev IL:List Str:=["room", "word", "name"]
abbrev kH:List Str:=IL
def Zu:Aw kH IL (Ak Nu):=AA
theorem R8:∀xs ys:List Str,PyData.eqvAll (xs.map PyData.str) (ys.map PyData.str)=decide (xs=ys)
 | [],[]=>by(simp[PyData.eqvAll])
 | [],_::_=>by(simp[PyData.eqvAll])
 | _::_,[]=>by(simp[PyData.eqvAll])
 | x::xs,y::ys=>by rw[Bg,Bg,PyData.eqvAll,rP,R8 xs ys,<- Bool.decide_and];simp
def Om (xs ys:List Str):PyData.eqv (.list (xs.map PyData.str)) (.list (ys.map PyData.str))=decide (xs=ys):=by rw[PyData.eqv,R8]
def rO (xs ys:List Str):PyData.eqv (dH xs) (dH ys)=decide (xs=ys):=by unfold dH;rw[PyData.eqv,R8]
def Fd (ws:List Str):Prop:=∀w∈ws,strOk w=true
inductive M5 (C:Addr)(vs:List V)(H:Hp)(Q:VK)(E0_:XK):Prop
 | mk (x l:Addr) (rs:List Ro) (ws:List Str) (c0:vs=[.ref x,.ref l]) (c1:RoomAt C H x rs) (c2:H l=some (.lst (ws.map V.str))) (c3:Fd ws) (c4:∀H':Hp,Same H H'->Q (.bl (BP rs ws)) H'):M5 C vs H Q E0_
abbrev IP:List Str:=["room", "words"]
abbrev kP:List Str:=IP
def ZA:Aw kP IP (Ak Kk):=AA
def BY (b:Bool)(ws:List Str):List Str:=if b=true then ws else "not" :: ws
structure Tm (rs:List Ro)(b:Bool)(ws:List Str)(text:Str):Prop where
 e:text=Txt.join blank (BY b ws)
 at':BP rs ws=true
 nb:∀w∈ws,32∉cs w
 nf:∀w∈ws,w ≠ "not" /\ w ≠ "and" /\ w ≠ "or"
 sk:Fd ws
 ne:ws≠[]
 ln:text.length<=1000
inductive PN (C:Addr)(vs:List V)(H:Hp)(Q:VK)(E0_:XK):Prop
 | mk (x:Addr) (rs:List Ro) (b:Bool) (ws:List Str) (text:Str) (c0:vs=[.ref x,.str text]) (c1:RoomAt C H x rs) (c2:Tm rs b ws text) (c3:∀(t l:Addr) (H':Hp),Same H H'->H' t=some (.tup [.bl b,.ref l])->H' l=some (.lst (ws.map V.str))->Q (.ref t) H'):PN C vs H Q E0_
abbrev GS:List Str:=["room", "text"]
abbrev iY:List Str:=BG GS ["words", "wanted", "atom"]
def scReadTerm:Aw iY GS (Ak Ih):=AA
abbrev GU:List Str:=["room", "text"]
abbrev iZ:List Str:=GU
def UD:Aw iZ GU (Ak FY):=AA
abbrev F6:List Str:=["room", "text"]
abbrev jC:List Str:=F6
def UE:Aw jC F6 (Ak Fi):=AA
end
end K52
namespace K52
open PySem L2 Tx Rk PyProof.Rows PySem.SeqAt
open PySem.PyData (strOk)
end K52
namespace K52
open PySem L2 Tx Rk PyProof.Rows PySem.SeqAt
open PySem.PyData (strOk)
section
variable {P:Program}{w:World}{K:W.Frag}{mg:Str->Option Value}{base:Heap}
def Gf (u t:Str)(h:List Str):Bool:=(h.zip h.tail).any λx=>decide (x=(u,t))
inductive Am where
 | free
 | pl (p:C4) (i:Nat) (w:Str)
 | isin (t:Str) (p:C4) (i:Nat)
 | on (t u:Str)
 | top (t:Str)
 | held (t:Str)
def Iz:List Str:=["open", "shut", "locked", "bare"]
def Am.ws:Am->List Str
 | .free=>["free"]
 | .pl p _ w=>[p.1,w]
 | .isin t p _=>[t, "in",p.1]
 | .on t u=>[t, "on",u]
 | .top t=>[t, "top"]
 | .held t=>[t, "held"]
def Am.ok (rs:List Ro):Am->Prop
 | .free=>True
 | .pl p i w=>(plc rs)[i]? = some p/\w∈Iz
 | .isin t p i=>t∈tn rs/\(plc rs)[i]? = some p
 | .on t u=>t∈tn rs/\u∈tn rs
 | .top t=>t∈tn rs
 | .held t=>t∈tn rs
def Am.tv (W:Wl):Am->Bool
 | .free=>decide (W.hand=none)
 | .pl _ i w=>if w = "bare" then decide (W.heaps.getD i []=[])else decide (W.lids.getD i "" = w)
 | .isin t _ i=>decide (t∈W.heaps.getD i [])
 | .on t u=>W.heaps.any (Gf u t)
 | .top t=>W.heaps.any λh=>decide (h.getLast? = some t)
 | .held t=>decide (W.hand=some t)
structure Wo (rs:List Ro)(W:Wl):Prop where
 g:Good rs
 fw:Fw rs W
 sz:Sz W (plc rs).length
 n1:(BD rs).length<=1
def FR (g:Good rs){t:Str}(h:t∈tn rs):strOk t=true:=(LF (Ga g (Fp h))).1
inductive Qh (vs:List V)(H:Hp)(Q:VK)(E0_:XK):Prop
 | mk (a:Addr) (h:List Str) (t u:Str) (c0:vs=[.ref a,.str t,.str u]) (c1:H a=some (.tup (h.map V.str))) (c2:Fd h) (c3:strOk t=true) (c4:strOk u=true) (c5:h.length<=1) (c6:∀H':Hp,Same H H'->Q (.bl (Gf u t h)) H'):Qh  vs H Q E0_
abbrev KO:List Str:=["heap", "thing", "under"]
abbrev jO:List Str:=KO
def Zp:Aw jO KO (Ak Nm):=AA
inductive P9 (C:Addr)(vs:List V)(H:Hp)(Q:VK)(E0_:XK):Prop
 | mk (x l:Addr) (rs:List Ro) (v:V) (W:Wl) (am:Am) (c0:vs=[.ref x,.ref l,v]) (c1:RoomAt C H x rs) (c2:H l=some (.lst (am.ws.map V.str))) (c3:RdV H v (dW W)) (c4:Wo rs W) (c5:am.ok rs) (c6:am≠.free) (c7:(∀p i w,am≠.pl p i w)) (c8:∀H':Hp,Same H H'->Q (.bl (am.tv W)) H'):P9 C vs H Q E0_
abbrev IQ:List Str:=["room", "atom", "world"]
abbrev kQ:List Str:=BG IQ ["thing"]
def scHoldsOfThing:Aw kQ IQ (Ak Io):=AA
inductive QT (C:Addr)(vs:List V)(H:Hp)(Q:VK)(E0_:XK):Prop
 | mk (x l:Addr) (rs:List Ro) (v:V) (W:Wl) (am:Am) (c0:vs=[.ref x,.ref l,v]) (c1:RoomAt C H x rs) (c2:H l=some (.lst (am.ws.map V.str))) (c3:RdV H v (dW W)) (c4:Wo rs W) (c5:am.ok rs) (c6:∀H':Hp,Same H H'->Q (.bl (am.tv W)) H'):QT C vs H Q E0_
abbrev Lx:List Str:=["room", "atom", "world"]
abbrev lY:List Str:=Lx
def ZW:Aw lY Lx (Ak NJ):=AA
abbrev KH:List Str:=["room", "part", "world"]
abbrev jI:List Str:=KH
def Zl:Aw jI KH (Ak J7):=AA
abbrev Lc:List Str:=["room", "fact", "world"]
abbrev kR:List Str:=BG Lc ["parts"]
def scHolds:Aw kR Lc (Ak Kl):=AA
def QU (h:Fd xs):shaped (dH xs)=true:=M8 (RM h) (Ed (Se xs) Ξ)
def Y6 {ps:List (Str×Str)}(h:∀p∈ps,strOk p.1=true/\strOk p.2=true):shaped (.list (ps.map λp=>dH [p.1,p.2]))=true:=by
 refine M8 ?_ ?_
 ·rw[PyData.canLay0];refine Jb λp b=>RM λx a=>?_;(simp only[Ar,AS,AQ]at a);rcases a with e | e
  ·rw[e];exact(h p b).1
  rw[e];exact(h p b).2
 rw[PyData.depth];have:=Oq (g:=λp:Str×Str=>dH [p.1,p.2]) (n:=1) (xs:=ps) λp _=>Se _;lia
theorem JY:∀{rs:List Ro}{n:Str},(rs.map Ro.name).Nodup->n∈pn rs->n∉tn rs
 | [],_,_,h=>nomatch h
 | .th m s::r,n,nd,h=>λz=>by
  have a:=Du.mp nd;rcases Ar.mp (show n∈m::tn r from z)with e | e
  ·exact a.1 (by rw[show Ro.name (.th m s)=m from U,<- e];exact LJ h)
  exact JY (rs:=r) a.2 h e
 | .pl m::r,n,nd,h=>λz=>by
  have a:=Du.mp nd;rcases Ar.mp (show n∈m::pn r from h)with e | e
  ·exact a.1 (by rw[show Ro.name (.pl m)=m from U,<- e];exact Fp (rs:=r) z)
  exact JY (rs:=r) a.2 e z
 | .bx m::r,n,nd,h=>λz=>by
  have a:=Du.mp nd;rcases Ar.mp (show n∈m::pn r from h)with e | e
  ·exact a.1 (by rw[show Ro.name (.bx m)=m from U,<- e];exact Fp (rs:=r) z)
  exact JY (rs:=r) a.2 e z
 | .lk m k::r,n,nd,h=>λz=>by
  have a:=Du.mp nd;rcases Ar.mp (show n∈m::pn r from h)with e | e
  ·exact a.1 (by rw[show Ro.name (.lk m k)=m from U,<- e];exact Fp (rs:=r) z)
  exact JY (rs:=r) a.2 e z
def oM (h:List Str)(t:Str):decide (h.drop (h.length-1)=[t])=decide (h.getLast? = some t):=by
 rcases List.eq_nil_or_concat h with e | ⟨l,a,e⟩
 ·subst e;rfl
 subst e;simp
def Wv {t:Str} (f:H4 b=some (.tup ((h.drop (h.length-1)).map V.str)))(c:H4 tp=none)(e:Fd h)(g:strOk t=true)(q:∀d:Hp,Same H4 d->Qx (.bl (decide (h.getLast? = some t))) d):UW false (.ref b) (.ref tp) (upd H4 tp (.tup [V.str t])) Qx:=by refine⟨dH (h.drop (h.length-1)),dH [t],.tup (Same.new c _ _ f) (RdVs.strs _),.tup Af (RdVs.strs [t]),QU λx a=>e x (S4 a),QU λx a=>by rw[AF.mp a];exact g,?_⟩;rw[rO,oM,SF];exact q _ (Same.new c)
def oK {h:List Str}(a:HT.sIx (h.map V.str).length 0 (some (-1))=0):h.drop (h.length-1)=h:=by
 have e:HT.sIx (h.map V.str).length 0 (some (-1))=((-1:Int)+((h.map V.str).length:Int)).toNat:=rfl;rw[e,Ah]at a;have:h.length-1=0:=by lia
 rw[this,Ht]
def oO {h:List Str}(a:¬(HT.sIx (h.map V.str).length 0 (some (-1))=0/\HT.sIx (h.map V.str).length (h.map V.str).length none=(h.map V.str).length)):BE (h.map V.str) (some (-1)) none=(h.drop (h.length-1)).map V.str:=by
 have e:HT.sIx (h.map V.str).length 0 (some (-1))=h.length-1:=by show((-1:Int)+((h.map V.str).length:Int)).toNat=_;rw[Ah];lia
 unfold BE;rw[e,HT.sIx_none,FA (by rw[Dc];exact An _),<- List.map_drop]
def Wo.skh (o:Wo rs W) (a:h∈W.heaps):Fd h:=λx b=>((o.fw.ok o.g o.sz).heaps h a x b).1
def Wo.few (o:Wo rs W) (a:h∈W.heaps):h.length<=1:=by have b:=o.fw.perm.length_eq;have c:=(List.sublist_flatten_of_mem a).length_le;have:=o.n1;rw[AM,Ah]at b;lia
def iP (o:Option Str)(t:Str):decide (oV o=V.str t)=decide (o=some t):=by
 cases o with
 | none=>rfl
 | some x=>
  by_cases h:x=t
  ·subst h;simp[oV]
  show decide (V.str x=V.str t)=_;rw[Bi (λz=>h (V.str.inj z)),Bi (λz=>h (Bh z))]
def uM (a b:Bool):decide (V.bl a=V.bl b)=(a == b):=by cases a <;> cases b <;> rfl
def G6 {rs:List Ro}{i:Nat}{p:C4}(h:(plc rs)[i]? = some p):p.1∈pn rs:=HM (Cc h)
def Vz (g:Good rs) (h:n∈pn rs):strOk n=true:=(LF (Ga g (LJ h))).1
theorem Am.sks (g:Good rs):∀{c:Am},c.ok rs->Fd c.ws
 | .free,_=>λx a=>by rw[AF.mp a];decide +kernel
 | .pl p i w,h=>λx a=>by
  simp[Am.ws,Ar,AS,AQ]at a;rcases a with e | e
  ·rw[e];exact Vz g (G6 h.1)
  have b:=h.2;rw[<- e]at b;simp[Iz,Ar,AS,AQ]at b;rcases b with e | e | e | e <;> (rw[e];decide +kernel)
 | .isin t p i,h=>λx a=>by
  simp[Am.ws,Ar,AS,AQ]at a;rcases a with e | e | e
  ·rw[e];exact FR g h.1
  ·rw[e];decide +kernel
  rw[e];exact Vz g (G6 h.2)
 | .on t u,h=>λx a=>by
  simp[Am.ws,Ar,AS,AQ]at a;rcases a with e | e | e
  ·rw[e];exact FR g h.1
  ·rw[e];decide +kernel
  rw[e];exact FR g h.2
 | .top t,h=>λx a=>by
  simp[Am.ws,Ar,AS,AQ]at a;rcases a with e | e
  ·rw[e];exact FR g h
  rw[e];decide +kernel
 | .held t,h=>λx a=>by
  simp[Am.ws,Ar,AS,AQ]at a;rcases a with e | e
  ·rw[e];exact FR g h
  rw[e];decide +kernel
def Vu {x:Str}(h:Nv x):32∉cs x/\(x ≠ "not" /\ x ≠ "and" /\ x ≠ "or" /\ x ≠ "free")/\x.length<=8:=
 ⟨h.noblank,⟨λe=>h.fix (by rw[e];decide +kernel),λe=>h.fix (by rw[e];decide +kernel),λe=>h.fix (by rw[e];decide +kernel),λe=>h.fix (by rw[e];decide +kernel)⟩,h.len⟩
def JJ (x:Str):Prop:=32∉cs x/\(x ≠ "not" /\ x ≠ "and" /\ x ≠ "or")/\x.length<=8
def J0 (g:Good rs) (h:x∈tn rs):JJ x:=by have:=Vu (Ga g (Fp h));exact⟨this.1,⟨this.2.1.1,this.2.1.2.1,this.2.1.2.2.1⟩,this.2.2⟩
def U7 (g:Good rs) (h:x∈pn rs):JJ x:=by have:=Vu (Ga g (LJ h));exact⟨this.1,⟨this.2.1.1,this.2.1.2.1,this.2.1.2.2.1⟩,this.2.2⟩
def HU {x:Str}(h:x∈(["free", "in", "on", "top", "held", "open", "shut", "locked", "bare"]:List Str)):JJ x:=by simp[Ar,AS,AQ]at h;rcases h with e | e | e | e | e | e | e | e | e <;> (rw[e];exact⟨Δ,⟨Δ,Δ,Δ⟩,Δ⟩)
theorem Am.woks (g:Good rs):∀{b:Am},b.ok rs->(∀w∈b.ws,JJ w)/\b.ws.length<=3/\b.ws≠[]/\BP rs b.ws=true
 | .free,_=>⟨λx a=>by rw[AF.mp a];exact HU Δ,Ξ,Bo _ _,As U⟩
 | .pl p i w,h=>by
  have d:=h.2;have c:=G6 h.1;refine⟨λx a=>?_,by simp[Am.ws],Bo _ _,?_⟩
  ·simp only[Am.ws,Ar,AS,AQ]at a;rcases a with e | e
   ·rw[e];exact U7 g c
   rw[e];simp only[Iz,Ar,AS,AQ]at d;rcases d with e | e | e | e <;> (rw[e];exact HU Δ)
  have e1:¬([p.1,w]:List Str)=(["free"]:List Str):=λz=>by simp at z
  show(if ([p.1,w]:List Str)=(["free"]:List Str)then true else C5 rs p.1 w)=true;rw[Ag e1];unfold C5;simp only[Iz,Ar,AS,AQ]at d;rcases d with e | e | e | e <;> (rw[e,Ag Δ,AV c];decide +kernel)
 | .isin t p i,h=>by
  have c:=G6 h.2;refine⟨λx a=>?_,by simp[Am.ws],Bo _ _,?_⟩
  ·simp only[Am.ws,Ar,AS,AQ]at a;rcases a with e | e | e
   ·rw[e];exact J0 g h.1
   ·rw[e];exact HU Δ
   rw[e];exact U7 g c
  have e1:¬([t, "in",p.1]:List Str)=(["free"]:List Str):=λz=>by simp at z
  show(if ([t, "in",p.1]:List Str)=(["free"]:List Str)then true else decide (t∈tn rs) && Cz rs "in" p.1)=true;rw[Ag e1,AV h.1];unfold Cz;rw[As U,AV c];rfl
 | .on t u,h=>by
  refine⟨λx a=>?_,by simp[Am.ws],Bo _ _,?_⟩
  ·simp only[Am.ws,Ar,AS,AQ]at a;rcases a with e | e | e
   ·rw[e];exact J0 g h.1
   ·rw[e];exact HU Δ
   rw[e];exact J0 g h.2
  have e1:¬([t, "on",u]:List Str)=(["free"]:List Str):=λz=>by simp at z
  show(if ([t, "on",u]:List Str)=(["free"]:List Str)then true else decide (t∈tn rs) && Cz rs "on" u)=true;rw[Ag e1,AV h.1];unfold Cz;rw[Ag Δ,AV h.2];decide +kernel
 | .top t,h=>by
  have f:t∈tn rs:=h;refine⟨λx a=>?_,by simp[Am.ws],Bo _ _,?_⟩
  ·simp only[Am.ws,Ar,AS,AQ]at a;rcases a with e | e
   ·rw[e];exact J0 g h
   rw[e];exact HU Δ
  have e1:¬([t, "top"]:List Str)=(["free"]:List Str):=λz=>by simp at z
  show(if ([t, "top"]:List Str)=(["free"]:List Str)then true else C5 rs t "top")=true;rw[Ag e1];unfold C5;rw[As Δ,AV f]
 | .held t,h=>by
  have f:t∈tn rs:=h;refine⟨λx a=>?_,by simp[Am.ws],Bo _ _,?_⟩
  ·simp only[Am.ws,Ar,AS,AQ]at a;rcases a with e | e
   ·rw[e];exact J0 g h
   rw[e];exact HU Δ
  show(if ([t, "held"]:List Str)=(["free"]:List Str)then true else C5 rs t "held")=true;rw[Ag (λz=>by simp at z)];unfold C5;rw[As Δ,AV f]
theorem Up:∀{ws:List Str},(∀w∈ws,JJ w)->(ws.map (·.length)).sum<=8*ws.length
 | [],_=>An _
 | w::ws,h=>by have b:=(h w (Bb ..)).2.2;have c:=Up λx a=>h x (Bc _ a);rw[Bg,Hs,BU];lia
def pH {ws:List Str}(h:∀w∈ws,JJ w):(Txt.join blank ws).length<=9*ws.length:=by
 have e:(Txt.join blank ws).length=(Str.join blank ws).length:=A5 Str.length (Gi blank ws);have b:=Ta blank ws;have c:=Up h;have a:blank.length=1:=by decide +kernel
 rw[a]at b;lia
def pF {ws:List Str}(h:ws≠[]):Str.ofString "not " ++ Txt.join blank ws=Txt.join blank ("not" :: ws):=by
 have a:∀vs:List Str,cs (Txt.join blank vs)=J (vs.map cs):=λvs=>by rw[<- Ji];exact A5 cs (Gi blank vs)
 apply BF;obtain⟨w,ws,rfl⟩:=Hi h;rw[AZ,a,a];show cs "not "++J (cs w::ws.map cs)=cs "not"++32::J (cs w::ws.map cs);rw[show cs "not "=cs "not"++[32] from by decide +kernel];simp
def Am.tm {rs:List Ro}(g:Good rs){a:Am}(ok:a.ok rs)(b:Bool):Tm rs b a.ws (Txt.join blank (BY b a.ws)):=by
 obtain⟨c,i,e,f⟩:=Am.woks g ok;refine⟨U,f,λw d=>(c w d).1,λw d=>(c w d).2.1,Am.sks g ok,e,?_⟩;have h:=pH c;cases b with
 | true=>show(Txt.join blank a.ws).length<=1000;lia
 | false=>
  show(Txt.join blank ("not" :: a.ws)).length<=1000;rw[<- pF e,BW];have:(Str.ofString "not ").length=4:=by decide +kernel
  lia
def vX {ws:List (List Nat)}(h:ws≠[]):J (ws++[[]])=J ws++[32]:=by
 induction ws with
 | nil=>exact absurd U h
 | cons a r ih=>
  cases r with
  | nil=>rfl
  | cons b r=>show a++32::J (b::(r++[[]]))=(a++32::J (b::r))++[32];rw[show J (b::(r++[[]]))=J (b::r)++[32] from ih (Bo _ _)];simp
def XA {ws:List (List Nat)}{A w:List Nat}(a:∀v∈ws,32∉v)(f:32∉w)(b:ws≠[])(e:J ws=A++32::w)(d:w≠[]):w∈ws:=by
 have e2:J (ws++[[]])=A++32::(w++32::[]):=by rw[vX b,e];simp
 have g:=Pb (λv c=>by
  rcases(Br.mp c)with z | z
  ·exact a v z
  rw[AF.mp z];simp) f e2
 rcases(Br.mp g)with z | z
 ·exact z
 exact absurd (AF.mp z) d
def vY {ws:List (List Nat)}{A B S w:List Nat}(f:∀v∈ws,32∉v)(b:32∉w)(j:ws≠[])(g:w≠[])(l:S=[]\/∃i,S=32::i)(e:J ws++S=A++32::(w++32::B))(m:A.length<(J ws).length):w∈ws:=by
 rcases Tq.mp e with⟨C,a,h⟩ | ⟨C,a,h⟩
 ·exfalso;have:=A5 List.length a;rw[AM]at this;lia
 cases C with
 | nil=>exfalso;have:=A5 List.length a;rw[BC]at this;lia
 | cons c C=>
  obtain⟨e1,e2⟩:=Fb h;subst e1;rcases Tq.mp e2 with⟨D,g1,g2⟩ | ⟨D,g1,g2⟩
  ·cases D with
   | nil=>rw[BC]at g1;exact XA f b j (by rw[a,g1]) g
   | cons d D=>obtain⟨e3,_⟩:=Fb g2;subst e3;exact Pb f b (by rw[a,g1])
  cases D with
  | nil=>rw[BC]at g1;exact XA f b j (by rw[a,<- g1]) g
  | cons d D=>
   rcases l with z | ⟨i,z⟩
   ·rw[z]at g2;simp at g2
   rw[z]at g2;obtain⟨e3,_⟩:=Fb g2;subst e3;exact absurd (by rw[g1];simp) b
def JS (y:List Nat):List (List Nat)->List Nat
 | []=>[]
 | [a]=>a
 | a::b::r=>a++(y++JS y (b::r))
def Da (y:Str):∀ps:List Str,cs (Txt.join y ps)=JS (cs y) (ps.map cs):=λps=>by
 rw[show cs (Txt.join y ps)=cs (Str.join y ps) from A5 cs (Gi y ps)];induction ps with
 | nil=>rfl
 | cons a r ih=>
  cases r with
  | nil=>rfl
  | cons b r=>show cs (a++y++Str.join y (b::r))=cs a++(cs y++JS (cs y) (cs b::r.map cs));rw[AZ,AZ,ih,B4];rfl
def B3 (ws:List Str):cs (Txt.join blank ws)=J (ws.map cs):=by rw[<- Ji];exact A5 cs (Gi blank ws)
structure Tw (w:Str)(t:Str):Prop where
 ex:∃ws:List Str,t=Txt.join blank ws/\ws≠[]/\(∀v∈ws,32∉cs v)/\w∉ws
open StrLaws in
def Ge {x y w t:Str}{a k:Nat}{S:List Nat}(r:32∉cs w)(p:cs w≠[])(d:cs y=32::(cs w++[32]))(h:Tw w t)(B:(cs x).drop a=cs t++S)(l:S=[]\/∃A,S=32::A)(E:a<=k)(C:k<a+t.length):¬At x y x.length k:=by
 intro n;obtain⟨ws,e,s,i,o⟩:=h.ex;have b:=n.2;rw[subAt_eq]at b;have z:((cs x).drop k).take y.length=cs y:=Gj b;obtain⟨j,rfl⟩:∃j,k=a+j:=⟨k-a,Ψ⟩;have g:(cs x).drop (a+j)=cs y++((cs x).drop (a+j)).drop y.length:=by conv=>lhs;rw[<- Gg y.length ((cs x).drop (a+j)),z]
 have e1:cs t++S=(cs t++S).take j++32::(cs w++32::((cs x).drop (a+j)).drop y.length):=by
  rw[<- B];conv=>lhs;rw[<- Gg j ((cs x).drop a),Gq,g,d]
  simp
 have D:=A8 t;have e2:J (ws.map cs)++S=(cs t++S).take j++32::(cs w++32::((cs x).drop (a+j)).drop y.length):=by rw[<- B3,<- e];exact e1
 have f:=vY (λv m=>by obtain⟨u,c,rfl⟩:=AK.mp m;exact i u c) r (by simpa using s) p l e2 (by rw[<- B3,<- e,Bm,AM];lia);obtain⟨u,c,q⟩:=AK.mp f;exact o (by rw[<- BF q];exact c)
open StrLaws in
theorem Vj {x y w:Str}(n:32∉cs w)(m:cs w≠[])(i:cs y=32::(cs w++[32])):∀(ts:List Str) (d:List Nat) (a f:Nat),ts≠[]->(∀t∈ts,Tw w t)->(cs x).drop a=JS (cs y) (ts.map cs)->a<=x.length->ChainG x y x.length a d f->(∀k,f<=k->¬At x y x.length k)->partsFrom x y.length a d=ts
 | [],_,_,_,h,_,_,_,_,_=>absurd U h
 | [t],d,a,f,_,ht,hd,ha,hG,hn=>by
  have b:(cs x).drop a=cs t++[]:=by rw[BC];exact hd
  have s:=A8 x;have g:t.length=x.length-a:=by have:=A5 List.length b;rw[BC,Dc,s,A8]at this;lia
  cases d with
  | cons c r=>have q:=hG.2.1.1;have l:y.length=(cs y).length:=(A8 y).symm;rw[i]at l;simp at l;exact absurd hG.2.1 (Ge n m i (ht t (AF.mpr U)) b (.inl U) hG.1 Ψ)
  | nil=>show [Builtin.Str.strSub x a x.length]=[t];congr 1;apply BF;show(Builtin.Str.strSub x a x.length).cps.toList=_;rw[strSub_toList,FA (by rw[Dc];show(cs x).length-a<=_;lia)];rw[BC]at b;exact b
 | t::u::r,d,a,f,_,ht,hd,ha,hG,hn=>by
  have b:(cs x).drop a=cs t++(cs y++JS (cs y) ((u::r).map cs)):=hd;have s:(cs x).length=x.length:=A8 x;have p:(cs y).length=y.length:=A8 y;have g:(cs t).length=t.length:=A8 t;have v:x.length-a=t.length+(y.length+(JS (cs y) ((u::r).map cs)).length):=by have:=A5 List.length b;rw[Dc,AM,AM]at this;lia
  have j:At x y x.length (a+t.length):=by
   refine⟨Ψ,?_⟩;rw[subAt_eq];have e:((cs x).drop (a+t.length)).take y.length=cs y:=by rw[<- Gq,b,<- g,FN,<- p,OH]
   show(((cs x).drop (a+t.length)).take y.length == cs y)=true;rw[e];simp
  have o:∀k,a<=k->k<a+t.length->¬At x y x.length k:=λk C q=>Ge n m i (ht t (Bb ..)) b (.inr ⟨_,by rw[i];rfl⟩) C q;cases d with
  | nil=>have E:f=a:=hG;exact absurd j (hn _ Ψ)
  | cons c r'=>
   obtain⟨g1,g2,g3,D⟩:=hG
   have B:c=a+t.length:=by
    rcases SO c (a+t.length)with z | z | z
    ·exact absurd g2 (o c g1 z)
    ·exact z
    exact absurd j (g3 _ Ψ z)
   subst B;show Builtin.Str.strSub x a (a+t.length)::partsFrom x y.length (a+t.length+y.length) r'=t::u::r;have A:=Vj n m i (u::r) r' (a+t.length+y.length) f (Bo _ _) (λz hz=>ht z (Bc _ hz)) (by rw[FM,<- Gq,b,<- B4,show t.length+y.length=(cs t++cs y).length by rw[AM];lia,FN]) Ψ D hn;rw[A];congr 1;apply BF;show(Builtin.Str.strSub x a (a+t.length)).cps.toList=_;rw[strSub_toList,show a+t.length-a=t.length by lia];show((cs x).drop a).take t.length=cs t;rw[b,<- g,OH]
open StrLaws in
def FT {w y:Str}{ts:List Str}(m:32∉cs w)(l:cs w≠[])(d:cs y=32::(cs w++[32]))(o:Builtin.Str.strKind y=1)(q:ts≠[])(p:∀t∈ts,Tw w t):Txt.split (Txt.join y ts) y=ts:=by
 have e:=Da y ts;generalize Txt.join y ts=x at e;have s:2<=y.length:=by rw[<- A8,d];simp
 obtain⟨f,b,j⟩:=occ_tight x y Ψ;have a:=Vj m l d ts _ 0 f q p (Ht▸e) (Bt _) b j;have one:partsFrom x y.length 0 []=[x]:=by show [Builtin.Str.strSub x 0 x.length]=[x];rw[sub_whole]
 unfold Txt.split;split
 ·rename_i g;(rw[OK,Ej,Ej]at g)
  have n:x.length<y.length:=by
   rcases g with h | h
   ·exact h
   exfalso;rw[o]at h
   have:1<=Builtin.Str.strKind x:=by
    unfold Builtin.Str.strKind;split
    ·lia
    split <;> lia
   lia
  cases ho:Builtin.Str.occurrences x y 0 x.length (x.length+1)with
  | nil=>rw[ho,one]at a;exact a
  | cons c r=>rw[ho]at b;have:=b.2.1.1;lia
 split
 ·rename_i i;rw[(List.isEmpty_iff.mp i),one]at a;exact a
 rw[partsBetween_eq];exact a
abbrev Tt:=Bool×Am
theorem Am.ne:∀a:Am,a.ws≠[]
 | .free=>Bo _ _
 | .pl _ _ _=>Bo _ _
 | .isin _ _ _=>Bo _ _
 | .on _ _=>Bo _ _
 | .top _=>Bo _ _
 | .held _=>Bo _ _
def A2.nil {a:Type}{R:V->a->Prop}:A2 R [] []:=⟨U,λi v t h _=>by cases h⟩
def A2.snoc {c:Type}{R:V->c->Prop}{vs:List V}{ts:List c}{v:V}{t:c}(h:A2 R vs ts)(r:R v t):A2 R (vs++[v]) (ts++[t]):=⟨by simp[h.len],λi x y a b=>by
 by_cases d:i<vs.length
 ·rw[CQ d]at a;rw[CQ (by rw[<- h.len];exact d)]at b;exact h.got i x y a b
 rw[DK Ψ]at a;rw[DK (by rw[<- h.len];lia),<- h.len]at b;have e:i-vs.length=0:=by have:=(AW.mp a).1;simp at this;lia
 rw[e]at a b;cases a;cases b;exact r⟩
def A2.ref {d:Type}{R:V->d->Prop}{vs:List V}{ts:List d}(h:A2 R vs ts)(m:∀v t,R v t->∃a,v=V.ref a):∀v∈vs,∃a,v=V.ref a:=λv e=>by
 obtain⟨i,c⟩:=Hu e;have b:i<ts.length:=by rw[<- h.len];exact ((AW.mp c).1)
 exact m v _ (h.got i v ts[i] c (Ay b))
inductive TmV (H:Hp)(v:V)(t:Tt):Prop
 | mk (a l:Addr) (e:v=.ref a) (ha:H a=some (.tup [.bl t.1,.ref l])) (hl:H l=some (.lst (t.2.ws.map V.str))):TmV H v t
inductive PtV (H:Hp)(v:V)(ts:List Tt):Prop
 | mk (d:Addr) (vs:List V) (e:v=.ref d) (hd:H d=some (.lst vs)) (hv:A2 (TmV H) vs ts):PtV H v ts
def TmV.rf {t:Tt}(h:TmV H v t):∃a,v=V.ref a:=by obtain⟨a,l,e,_⟩:=h;exact⟨a,e⟩
def PtV.rf {t:List Tt}(h:PtV H v t):∃a,v=V.ref a:=by obtain⟨a,l,e,_⟩:=h;exact⟨a,e⟩
def TmV.same {t:Tt}(s:Same H H')(h:TmV H v t):TmV H' v t:=by obtain⟨a,l,e,b,c⟩:=h;exact⟨a,l,e,s _ _ b,s _ _ c⟩
def PtV.same (s:Same H H')(h:PtV H v ts):PtV H' v ts:=by obtain⟨d,vs,e,a,b⟩:=h;exact⟨d,vs,e,s _ _ a,b.mono λv t _ r=>r.same s⟩
def TmV.upd {t:Tt} (h:TmV H v t)(hD:H D=some (.lst ys))(d:∀y∈ys,∃a,y=V.ref a):TmV (upd H D o) v t:=by
 obtain⟨a,l,e,b,c⟩:=h
 have f:l≠D:=Ba c hD λz=>by obtain⟨j,i,g⟩:=Hi t.2.ne;rw[g]at z;cases z;obtain⟨a,q⟩:=d _ (Bb ..);cases q
 exact⟨a,l,e,by rw[Ao (Ba b hD λz=>by cases z)];exact b,by rw[Ao f];exact c⟩
def PtV.upd (h:PtV H v ts)(g:v≠.ref D)(hD:H D=some (.lst ys))(c:∀y∈ys,∃a,y=V.ref a):PtV (upd H D o) v ts:=by obtain⟨d,vs,e,f,b⟩:=h;exact⟨d,vs,e,by rw[Ao (λz=>g (by rw[e,z]))];exact f,b.mono λv t _ r=>r.upd hD c⟩
def Bn (t:Tt):Str:=Txt.join blank (BY t.1 t.2.ws)
def A9 (ts:List Tt):Str:=Txt.join " and " (ts.map Bn)
def AE (ps:List (List Tt)):Str:=Txt.join " or " (ps.map A9)
structure Fe (rs:List Ro)(ts:List Tt):Prop where
 ne:ts≠[]
 few:ts.length<=3
 ok:∀t∈ts,t.2.ok rs
structure Cd (rs:List Ro)(ps:List (List Tt)):Prop where
 ne:ps≠[]
 few:ps.length<=3
 ok:∀ts∈ps,Fe rs ts
def Am.nwhile (g:Good rs):∀{c:Am},c.ok rs->∀w∈c.ws,w ≠ "while" := by
 have b:∀{x:Str},x∈tn rs->x ≠ "while" := λ{x} h e=>(Ga g (Fp h)).fix (by rw[e];decide +kernel);have d:∀{x:Str},x∈pn rs->x ≠ "while" := λ{x} h e=>(Ga g (LJ h)).fix (by rw[e];decide +kernel);intro c ok w a;cases c with
 | free=>rw[AF.mp a];decide +kernel
 | pl p i w'=>
  simp only[Am.ws,Ar,AS,AQ]at a;rcases a with e | e
  ·rw[e];exact d (G6 ok.1)
  rw[e];have:=ok.2;simp only[Iz,Ar,AS,AQ]at this;rcases this with e | e | e | e <;> (rw[e];decide +kernel)
 | isin t p i=>
  simp only[Am.ws,Ar,AS,AQ]at a;rcases a with e | e | e
  ·rw[e];exact b ok.1
  ·rw[e];decide +kernel
  rw[e];exact d (G6 ok.2)
 | on t u=>
  simp only[Am.ws,Ar,AS,AQ]at a;rcases a with e | e | e
  ·rw[e];exact b ok.1
  ·rw[e];decide +kernel
  rw[e];exact b ok.2
 | top t=>
  simp only[Am.ws,Ar,AS,AQ]at a;rcases a with e | e
  ·rw[e];exact b ok
  rw[e];decide +kernel
 | held t=>
  simp only[Am.ws,Ar,AS,AQ]at a;rcases a with e | e
  ·rw[e];exact b ok
  rw[e];decide +kernel
def FS (g:Good rs){t:Tt}(ok:t.2.ok rs):BY t.1 t.2.ws≠[]/\(∀w∈BY t.1 t.2.ws,32∉cs w)/\∀w∈BY t.1 t.2.ws,w ≠ "and" /\ w ≠ "or" /\ w ≠ "while" := by
 obtain⟨b,_,d,_⟩:=Am.woks g ok;have c:=Am.nwhile g ok;unfold BY;split
 ·exact⟨d,λw c=>(b w c).1,λw a=>⟨(b w a).2.1.2.1,(b w a).2.1.2.2,c w a⟩⟩
 refine⟨Bo _ _,λw a=>?_,λw a=>?_⟩
 ·rcases Ar.mp a with e | e
  ·rw[e];decide +kernel
  exact(b w e).1
 rcases Ar.mp a with e | e
 ·rw[e];decide +kernel
 exact⟨(b w e).2.1.2.1,(b w e).2.1.2.2,c w e⟩
def iw (c:Str):List (List Str)->List Str
 | []=>[]
 | [a]=>a
 | a::b::r=>a++c::iw c (b::r)
theorem En:∀{xs:List (List Nat)}{ys:List (List Nat)},xs≠[]->ys≠[]->J (xs++ys)=J xs++32::J ys
 | [],_,h,_=>absurd U h
 | [a],[],_,h=>absurd U h
 | [a],b::r,_,_=>rfl
 | a::b::r,ys,_,h=>by show a++32::J ((b::r)++ys)=(a++32::J (b::r))++32::J ys;rw[En (xs:=b::r) (Bo _ _) h];simp
theorem RS (d:cs y=32::(cs c++[32])):∀{wss:List (List Str)},wss≠[]->(∀ws∈wss,ws≠[])->iw c wss≠[]/\Txt.join y (wss.map (Txt.join blank))=Txt.join blank (iw c wss)
 | [],h,_=>absurd U h
 | [a],_,hn=>⟨hn a (AF.mpr U),by apply BF;rw[Da];rfl⟩
 | a::b::r,_,hn=>by
  obtain⟨i,e⟩:=RS d (Bo _ _) λws h=>hn ws (Bc _ h);have g:=hn a (Bb ..);refine⟨λz=>?_,?_⟩
  ·have f:a++c::iw c (b::r)=[]:=z;simp at f
  apply BF;rw[Da];show cs (Txt.join blank a)++(cs y++JS (cs y) (((b::r).map (Txt.join blank)).map cs))=cs (Txt.join blank (a++c::iw c (b::r)));rw[<- Da,e,B3,B3,B3,AR,En (xs:=a.map cs) (ys:=(c::iw c (b::r)).map cs) (by simpa using g) Θ,d];rw[show J ((c::iw c (b::r)).map cs)=cs c++32::J ((iw c (b::r)).map cs) from En (xs:=[cs c]) (Bo _ _) (by simpa using i)];simp
theorem LR :∀{wss:List (List Str)},x∈iw c wss->x=c\/∃ws∈wss,x∈ws
 | [],h=>nomatch h
 | [a],h=>.inr ⟨a,AF.mpr U,h⟩
 | a::b::r,h=>by
  rcases Br.mp (show x∈a++c::iw c (b::r) from h)with z | z
  ·exact .inr ⟨a,Bb ..,z⟩
  rcases(Ar.mp z)with z | z
  ·exact .inl z
  rcases LR z with q | ⟨ws,h1,h2⟩
  ·exact .inl q
  exact .inr ⟨ws,Bc _ h1,h2⟩
def Fl (ts:List Tt):List Str:=iw "and" (ts.map λt=>BY t.1 t.2.ws)
def Hc (ps:List (List Tt)):List Str:=iw "or" (ps.map Fl)
def F4 (g:Good rs) (p:Fe rs ts):Fl ts≠[]/\A9 ts=Txt.join blank (Fl ts)/\(∀w∈Fl ts,32∉cs w)/\∀w∈Fl ts,w ≠ "or" /\ w ≠ "while" := by
 have h:=RS (c := "and") (y := " and ") Δ (wss:=ts.map λt=>BY t.1 t.2.ws) (by simpa using p.ne) λws b=>by obtain⟨t,a,rfl⟩:=AK.mp b;exact(FS g (p.ok t a)).1
 rw[Bk]at h;refine⟨h.1,h.2,λw b=>?_,λw b=>?_⟩
 ·rcases LR b with e | ⟨ws,h1,h2⟩
  ·rw[e];decide +kernel
  obtain⟨t,a,rfl⟩:=AK.mp h1;exact(FS g (p.ok t a)).2.1 w h2
 rcases LR b with e | ⟨ws,h1,h2⟩
 ·rw[e];decide +kernel
 obtain⟨t,a,rfl⟩:=AK.mp h1;exact((FS g (p.ok t a)).2.2 w h2).2
def Oj (g:Good rs) (p:Cd rs ps):Hc ps≠[]/\AE ps=Txt.join blank (Hc ps)/\(∀w∈Hc ps,32∉cs w)/\∀w∈Hc ps,w ≠ "while" := by
 have h:=RS (c := "or") (y := " or ") Δ (wss:=ps.map Fl) (by simpa using p.ne) λws b=>by obtain⟨t,a,rfl⟩:=AK.mp b;exact(F4 g (p.ok t a)).1
 rw[Bk]at h;refine⟨h.1,?_,λw b=>?_,λw b=>?_⟩
 ·rw[show Hc ps=iw "or" (ps.map Fl) from U,<- h.2];show Txt.join " or " (ps.map A9)=_;congr 1;exact map_congr_left λt a=>(F4 g (p.ok t a)).2.1
 ·rcases LR b with e | ⟨ws,h1,h2⟩
  ·rw[e];decide +kernel
  obtain⟨t,a,rfl⟩:=AK.mp h1;exact(F4 g (p.ok t a)).2.2.1 w h2
 rcases LR b with e | ⟨ws,h1,h2⟩
 ·rw[e];decide +kernel
 obtain⟨t,a,rfl⟩:=AK.mp h1;exact((F4 g (p.ok t a)).2.2.2 w h2).2
def PB (g:Good rs) (p:Fe rs ts):Txt.split (A9 ts) " and " = ts.map Bn:=
 FT (w := "and") Δ Δ Δ Δ (by simpa using p.ne) λx b=>by obtain⟨t,a,rfl⟩:=AK.mp b;have h:=FS g (p.ok t a);exact⟨_,U,h.1,h.2.1,λz=>(h.2.2 _ z).1 U⟩
def Py (g:Good rs) (p:Cd rs ps):Txt.split (AE ps) " or " = ps.map A9:=
 FT (w := "or") Δ Δ Δ Δ (by simpa using p.ne) λx b=>by obtain⟨t,a,rfl⟩:=AK.mp b;have h:=F4 g (p.ok t a);exact⟨_,h.2.1,h.1,h.2.2.1,λz=>(h.2.2.2 _ z).1 U⟩
def Ol (g:Good rs) (p:Cd rs ps):Tw "while" (AE ps):=by have h:=Oj g p;exact⟨_,h.2.1,h.1,h.2.2.1,λz=>h.2.2.2 _ z U⟩
def E1 (p:List (List Tt)):Option (List (List Tt))->Str
 | none=>AE p
 | some q=>AE p ++ " while " ++ AE q
def Gb (p:List (List Tt))(o:Option (List (List Tt))):List (List (List Tt)):=p::o.toList
def YW (g:Good rs) (d:Cd rs p)(c:∀q,o=some q->Cd rs q):Txt.split (E1 p o) " while " = (Gb p o).map AE:=by
 have e:E1 p o=Txt.join " while " ((Gb p o).map AE):=by
  apply BF;rw[Da];cases o with
  | none=>rfl
  | some q=>show cs (AE p ++ " while " ++ AE q)=cs (AE p)++(cs " while "++cs (AE q));rw[AZ,AZ,B4]
 rw[e];refine FT (w := "while") Δ Δ Δ Δ (by simp[Gb]) λx b=>?_;obtain⟨q,a,rfl⟩:=AK.mp b;rcases(Ar.mp a)with e | e
 ·rw[e];exact Ol g d
 exact Ol g (c q (by simpa using e))
theorem RQ {y:Str}{n:Nat}:∀{xs:List Str},(∀x∈xs,x.length<=n)->(xs.map (·.length)).sum+xs.length*y.length<=xs.length*(n+y.length)
 | [],_=>by simp
 | x::xs,h=>by (have b:=h x (Bb ..));have a:=RQ (y:=y) λz hz=>h z (Bc _ hz);rw[Bg,Hs,BU,Nat.succ_mul,Nat.succ_mul];lia
def GA (g:Good rs){t:Tt}(ok:t.2.ok rs):(Bn t).length<=1000:=(Am.tm g ok t.1).ln
def cF (g:Good rs) (p:Fe rs ts):((ts.map Bn).map (·.length)).sum+(ts.map Bn).length*(Str.ofString " and ").length<=3015:=by
 have h:=RQ (y := " and ") λx c=>by obtain⟨t,b,rfl⟩:=AK.mp c;exact GA g (p.ok t b)
 have a:(Str.ofString " and ").length=5:=by decide +kernel
 rw[Ah,a]at h;rw[Ah,a];have d:ts.length*(1000+5)<=3*(1000+5):=Nat.mul_le_mul_right _ p.few;lia
def GQ (g:Good rs) (p:Fe rs ts):(A9 ts).length<=3015:=by have a:=Ta " and " (ts.map Bn);have b:=cF g p;have e:(A9 ts).length=(Str.join " and " (ts.map Bn)).length:=A5 Str.length (Gi " and " (ts.map Bn));lia
def rJ (g:Good rs) (p:Cd rs ps):((ps.map A9).map (·.length)).sum+(ps.map A9).length*(Str.ofString " or ").length<=9057:=by
 have h:=RQ (y := " or ") λx c=>by obtain⟨t,b,rfl⟩:=AK.mp c;exact GQ g (p.ok t b)
 have a:(Str.ofString " or ").length=4:=by decide +kernel
 rw[Ah,a]at h;rw[Ah,a];have d:ps.length*(3015+4)<=3*(3015+4):=Nat.mul_le_mul_right _ p.few;lia
def Eh (g:Good rs) (p:Cd rs ps):(AE ps).length<=9057:=by have a:=Ta " or " (ps.map A9);have b:=rJ g p;have e:(AE ps).length=(Str.join " or " (ps.map A9)).length:=A5 Str.length (Gi " or " (ps.map A9));lia
def dB (F:Fun K "things" "Room.things" QW f fd)(L:Cl K C)(T:Bl mg):Aj P w K mg base CX0 1 f fd ["self"] (Ic C):=by refine F.oq Zg λg A a s H vs Q E m h=>?_;obtain⟨x,rs,rfl,R,q⟩:=h;obtain⟨i,j,b,o,kvs,d,n,p,e⟩:=R.ex;refine⟨_,Al (Av (CG (Ou U) Φ T.list DX (Aa (CA (pv 0) U) Ac))),_,U,x,C,i,_,_,U,d,L.cl,L.nS,Rf j b,b,_,U,.inl e,λl c=>?_⟩;refine q l _ (Same.new c) c ?_;rw[Af];unfold shK;(rw[Bk,Bk]);rfl
def dQ (F:Fun K "is_short_atom" "is_short_atom" Ny f fd)(L:Cl K C)(X:Ml K mg aI)(c:Binds K d_places ["self"] [])(j:B5 K C "places" f_places)(i:Aj P w K mg base CX0 1 f_places d_places ["self"] (FU C))
  (g:Binds K d_things ["self"] [])(d:B5 K C "things" f_things)(e:Aj P w K mg base CX0 1 f_things d_things ["self"] (Ic C)):Aj P w K mg base CX0 2 f fd IM (PQ C):=by
 refine F.oq Zv λa0 A I s H vs Q E u h=>?_
 obtain⟨x,rs,a,b,rfl,R,q⟩:=h
 obtain⟨G,M,B,o,kvs,N,h2,h3,h4⟩:=R.ex
 refine⟨_,(Ai (AY (AN Ez (pv 2) (A6 (Aa AC (Aa AC Ac))) Φ) (Al (Av (Cn Ez (pv 1) (Cr (pv 0) L.cl d e u g .nil Aq) Φ))) AX) (Al (Av (KB (bU (Cn Ez (pv 2) (CY (v:=.ref aI) Φ X.wm U) Φ) (IA (Cn By (pv 2) AC (AJ _)))) (IA (Cn Ez (pv 1) (Cr (pv 0) L.cl j i u c .nil Aq) Φ)))))),?_⟩
 refine⟨_,U,Ξ,λS D=>?_⟩
 have m:Same H (upd H S (.tup [V.str "top",V.str "held"])):=Same.new D
 refine⟨S,_,U,.inr (SqT.of Af),U,flat_strs ["top", "held"],_,U,?_⟩
 show if Fu (V.str b) ((["top", "held"]:List Str).map V.str)=true then _ else _
 rw[DH]
 unfold C5 at q
 by_cases z:b∈(["top", "held"]:List Str)
 ·rw[As z]at q;rw[AV z];refine Bw ⟨_,U,_,U,x,G,_,U,m _ _ N,DQ M B Δ Δ,x,rs,U,R.same m,λl n y T r=>?_⟩;refine⟨l,_,U,.inl (Y.of r),U,flat_strs _,?_⟩;rw[DH];exact q n (m.trans y)
 rw[Ag z]at q
 rw[Bi z]
 refine A7 ?_
 generalize upd H S (.tup [V.str "top",V.str "held"])=H0 at m ⊢
 refine⟨_,U,aI,_,U,.inr (X.wv H0),U,flat_strs _,_,U,?_⟩
 rw[DH]
 by_cases W:b∈lidsS
 ·rw[AV W]at q ⊢;refine Bw ⟨_,U,?_⟩;refine Bw ?_;exact⟨_,U,_,U,x,G,_,U,m _ _ N,DQ M B Δ Δ,x,rs,U,R.same m,λl n y T r=>⟨l,_,U,.inl (Y.of r),U,flat_strs _,by rw[DH];exact q n (m.trans y)⟩⟩
 rw[Bi W]at q ⊢
 refine A7 ?_
 refine⟨_,U,U,_,U,?_⟩
 rw[Os]
 by_cases p:b = "bare"
 ·rw[AV p]at q ⊢;refine Bw ?_;exact⟨_,U,_,U,x,G,_,U,m _ _ N,DQ M B Δ Δ,x,rs,U,R.same m,λl n y T r=>⟨l,_,U,.inl (Y.of r),U,flat_strs _,by
  rw[DH];exact q n (m.trans y)⟩⟩
 rw[Bi p]at q ⊢
 exact A7 (q H0 m)
def dM (F:Fun K "is_spot" "is_spot" Nu f fd)(L:Cl K C)(a:Binds K d_places ["self"] [])(j:B5 K C "places" f_places)(i:Aj P w K mg base CX0 1 f_places d_places ["self"] (FU C))
  (g:Binds K d_things ["self"] [])(d:B5 K C "things" f_things)(e:Aj P w K mg base CX0 1 f_things d_things ["self"] (Ic C)):Aj P w K mg base CX0 2 f fd IL (PP C):=by
 refine F.oq Zu λM A r s H vs Q E m h=>?_
 obtain⟨x,rs,b,c,rfl,R,q⟩:=h
 obtain⟨z,B,y,o,kvs,G,S,T,N⟩:=R.ex
 refine⟨_,(Ai (AY (AN By (pv 1) AC (AJ _)) (Al (Av (Cn Ez (pv 2) (Cr (pv 0) L.cl j i m a .nil Aq) Φ))) AX) (Al (Av (KB (Cn By (pv 1) AC (AJ _)) (IA (Cn Ez (pv 2) (Cr (pv 0) L.cl d e m g .nil Aq) Φ)))))),?_⟩
 unfold Cz at q
 refine⟨_,U,U,_,U,?_⟩
 by_cases n:b = "in"
 ·rw[As n]at q;refine Fs n ⟨_,U,_,U,x,z,_,U,G,DQ B y Δ Δ,x,rs,U,R,λl p v I u=>⟨l,_,U,.inl (Y.of u),U,flat_strs _,?_⟩⟩;rw[DH];exact q p v
 rw[Ag n]at q
 refine EZ n ?_
 refine⟨_,U,U,_,U,?_⟩
 rw[Os]
 by_cases D:b = "on"
 ·rw[AV D]at q ⊢;refine Bw ⟨_,U,_,U,x,z,_,U,G,DQ B y Δ Δ,x,rs,U,R,λl p v I u=>⟨l,_,U,.inl (Y.of u),U,flat_strs _,?_⟩⟩;rw[DH];exact q p v
 rw[Bi D]at q ⊢
 exact A7 (q H (Same.refl _))
def lQ2{α:Type}{l:List α}(h:l.length=2):∃a b,l=[a,b]:=by rcases l with _|⟨a,_|⟨b,_|⟨c,t⟩⟩⟩<;>first|exact⟨_,_,rfl⟩|cases h
def lQ3{α:Type}{l:List α}(h:l.length=3):∃a b c,l=[a,b,c]:=by rcases l with _|⟨a,_|⟨b,_|⟨c,_|⟨d,t⟩⟩⟩⟩<;>first|exact⟨_,_,_,rfl⟩|cases h
def iG {f1 f2:Addr} (F:Fun K "is_atom" "is_atom" Kk f fd)(L:Cl K C)(T:Bl mg)(m:Binds K d_things ["self"] [])(i:B5 K C "things" f_things)(j:Aj P w K mg base CX0 1 f_things d_things ["self"] (Ic C))
  (D_is_short_atom:Df K mg "is_short_atom" Ny IM f1 d1')(d:Aj P w K mg base CX0 2 f1 d1' IM (PQ C))(D_is_spot:Df K mg "is_spot" Nu IL f2 d2')(e:Aj P w K mg base CX0 2 f2 d2' IL (PP C)):Aj P w K mg base CX0 3 f fd IP (M5 C):=by
 refine F.oq ZA λa2 A G s H vs Q E p h=>?_
 obtain⟨x,l,rs,ws,rfl,R,S,sk,q⟩:=h
 obtain⟨dx,d1,d2,o,kvs,h1,D,M,h4⟩:=R.ex
 refine⟨_,(Ai (AY (AN (Vr p.units) (pv 1) (Cu (Aa AC Ac)) (AJ _)) (Al (Av Ex)) AX) (Ai (AY (AN By (Be Cv Φ T.len BM (Aa (pv 1) Ac)) Ad (AJ _)) (Al (Av (Cj d p Φ D_is_short_atom.m D_is_short_atom.F.kp D_is_short_atom.b .nil Aq (Aa (pv 0) (Aa (Ap AL (pv 1) Ad (λ_ _=>U)) (Aa (Ap AL (pv 1) Ad (λ_ _=>U)) Ac)))))) AX) (Ai (AY (PW.pt (U2 (AN By (Be Cv Φ T.len BM (Aa (pv 1) Ac)) Ad (AJ _)) (U1 (AN Ez (Ap AL (pv 1) Ad (λ_ _=>U)) (Cr (pv 0) L.cl i j (p.mono Ξ) m .nil Aq) Φ)))) (Al (Av (Cj e p Φ D_is_spot.m D_is_spot.F.kp D_is_spot.b .nil Aq (Aa (pv 0) (Aa (Ap AL (pv 1) Ad (λ_ _=>U)) (Aa (Ap AL (pv 1) Ad (λ_ _=>U)) Ac)))))) AX) (Al (Av Ex))))),?_⟩
 refine⟨_,U,Ξ,λv I=>?_⟩
 have g:Same H (upd H v (.lst [V.str "free"])):=Same.new I
 have N:(upd H v (.lst [V.str "free"])) v=some (.lst ((["free"]:List Str).map V.str)):=Af
 generalize upd H v (.lst [V.str "free"])=H0 at g N ⊢
 refine⟨l,v,ws,["free"],U,U,g _ _ S,N,FV sk,FV Δ,_,U,?_⟩
 rw[Om]
 unfold BP at q
 have n:=g _ _ S
 by_cases y:ws=(["free"]:List Str)
 ·rw[As y]at q;rw[AV y];exact Bw (q H0 g)
 rw[Ag y]at q
 rw[Bi y]
 refine A7 ?_
 have ll:(ws.map V.str).length=ws.length:=Ah ..
 refine⟨_,U,_,_,U,.inl ⟨_,Y.of n,U⟩,U,_,U,?_⟩
 by_cases D:ws.length=2
 ·obtain⟨a,b,rfl⟩:∃a b,ws=[a,b]:=lQ2 D
  refine Bw ?_;have a0:atI [V.str a,V.str b] ((0:Nat):Int)=some (.str a):=Au U;have a1:atI [V.str a,V.str b] ((1:Nat):Int)=some (.str b):=Au U;exact⟨_,U,_,U,l,_,_,_,U,U,Y.of n,a0,_,U,l,_,_,_,U,U,Y.of n,a1,x,rs,a,b,U,R.same g,λB r=>q B (g.trans r)⟩
 refine Bq (λz=>?_) (λ_=>?_)
 ·exfalso;have:=V.int.inj (Bp z);lia
 refine⟨_,U,_,_,U,.inl ⟨_,Y.of n,U⟩,U,_,U,?_⟩
 by_cases M:ws.length=3
 ·obtain⟨a,b,c,rfl⟩:∃a b c,ws=[a,b,c]:=lQ3 M
  refine Bw ?_;refine⟨_,U,l,_,_,_,U,U,Y.of n,Au U,_,U,x,dx,_,U,g _ _ h1,DQ d1 d2 Δ Δ,x,rs,U,R.same g,λl1 B r fl e1=>⟨l1,_,U,.inl (Y.of e1),U,flat_strs _,_,U,?_⟩⟩
  rw[DH];have u:=r _ _ n;have q:∀H':Hp,Same H H'->Q (.bl (decide (a∈tn rs) && Cz rs b c)) H':=q;by_cases W:a∈tn rs
  ·rw[AV W]at q ⊢;refine Bw ?_;exact⟨_,U,_,U,l,_,_,_,U,U,Y.of u,Au U,_,U,l,_,_,_,U,U,Y.of u,Au U,x,rs,b,c,U,R.same (g.trans r),λH2 s2=>q H2 ((g.trans r).trans s2)⟩
  rw[Bi W]at q ⊢;exact A7 (q B (g.trans r))
 refine Bq (λz=>?_) (λ_=>?_)
 ·exfalso;have:=V.int.inj (Bp z);lia
 refine A7 ?_
 have X:Q (.bl false) H0:=by
  rcases ws with _|⟨a,_|⟨b,_|⟨c,_|⟨d,t⟩⟩⟩⟩<;>first|exact q H0 g|exact absurd U D|exact absurd U M
 exact X
def dG (F:Fun K "read_term" "read_term" Ih f fd)(T:Bl mg)(a:Ca P w K mg base CX0 3 "is_atom" Kk IP (M5 C)):Aj P w K mg base CX0 4 f fd GS (PN C):=by
 refine F.oq scReadTerm λM A B s H vs Q E v h=>?_;obtain⟨x,rs,b,ws,o,rfl,R,tm,q⟩:=h;have G:=AB;have S:=tm.ln
 have y:Txt.split o blank=BY b ws:=by
  rw[tm.e];refine Pz ?_ λw d=>?_
  ·unfold BY;split
   ·exact tm.ne
   exact Bo _ _
  unfold BY at d;split at d
  ·exact tm.nb w d
  rcases(Ar.mp d)with e | e
  ·rw[e];decide +kernel
  exact tm.nb w e
 refine⟨_,(Ai (AO (i:=2) scReadTerm.nd (Dg Ek DJ EM EA (pv 1) (Aa AC Ac))) (Ai (AO (i:=3) scReadTerm.nd (Cn Fn (Ap AL (pv 2) Ad (λ_ _=>U)) AC (AJ _))) (Ai (AO (i:=4) scReadTerm.nd (Fk (CS (pv 3)) (pv 2) (Ew M7 (pv 2) (Et Ad) Eu))) (Ai (AY (C6 (CS (Az a v Aq (Aa (pv 0) (Aa (pv 4) Ac))))) B6 AX) (Al (Av (A6 (Aa (pv 3) (Aa (pv 4) Ac))))))))),_,U,U,_,_,U,U,Φ,Ψ,λl L=>?_⟩;refine Oa (BY b ws) _ (by show(Txt.split _ blank).map V.str=_;rw[y]) L λm r c=>?_;cases b with
 | true=>
  have c:=c;obtain⟨p,D,rfl⟩:=Hi tm.ne;have I:atI ((p::D).map V.str) ((0:Nat):Int)=some (.str p):=Au U;refine⟨_,U,l,_,_,_,U,U,Y.of c,I,U,?_⟩;have d:(!decide (V.str p=V.str "not"))=true:=by rw[Bi (λz=>(tm.nf p Θ).1 (V.str.inj z))];rfl
  rw[d];refine⟨_,U,_,U,?_⟩;refine Bw ⟨_,U,_,U,_,U,x,l,rs,p::D,U,R.same r,c,tm.sk,λN s2=>⟨_,U,?_⟩⟩;rw[tm.at'];refine A7 ?_;exact⟨_,U,_,U,AG,λt n=>q t l _ ((r.trans s2).trans (Same.new n)) Af (Same.new n _ _ (s2 _ _ c))⟩
 | false=>
  have c:m l=some (.lst ((("not" : Str)::ws).map V.str)):=c;refine⟨_,U,l,_,_,_,U,U,Y.of c,Au U,U,?_⟩;have d:(!decide (V.str "not" = V.str "not"))=false:=by rw[AV rfl];rfl
  rw[d];refine⟨_,U,_,U,?_⟩;refine A7 ⟨_,U,_,U,l,_,U,Y.of c,λj u=>?_⟩;have g:(upd m j (.lst (BE ((("not" : Str)::ws).map V.str) (some 1) none))) j=some (.lst (ws.map V.str)):=by rw[Af,show((1:Int))=((1:Nat):Int) from U,LY Θ];rfl
  have s2:Same m (upd m j (.lst (BE ((("not" : Str)::ws).map V.str) (some 1) none))):=Same.new u;generalize (upd m j (.lst (BE ((("not" : Str)::ws).map V.str) (some 1) none)))=N at g s2 ⊢;refine⟨_,U,_,U,x,j,rs,ws,U,R.same (r.trans s2),g,tm.sk,λW s3=>⟨_,U,?_⟩⟩;rw[tm.at'];refine A7 ?_;exact⟨_,U,_,U,AG,λt n=>q t j _ (((r.trans s2).trans s3).trans (Same.new n)) Af (Same.new n _ _ (s3 _ _ g))⟩
def fL (F:Fun K "lies_on" "lies_on" Nm f fd)(T:Bl mg):Aj P w K mg base CX0 1 f fd KO Qh:=by
 refine F.oq Zp λR A n s H vs Q E C h=>?_;obtain⟨a,h,t,u,rfl,M,X,S,G,W,q⟩:=h;have z:=AB;have r:h.tail=[]:=Mp.mp (by rw[List.length_tail];lia);have D:Gf u t h=false:=by unfold Gf;rw[r];simp
 rw[D]at q;refine⟨_,(Al (Av (Cn (cQ (lt_of_le_of_lt (Nat.add_le_add_left (by decide:65<=16*0+200) _) C.un)) (A6 (Aa (pv 2) (Aa (pv 1) Ac))) (bV U Φ T.list DX Φ T.zip uD (Aa (pv 0) (Aa (Ew Ux (pv 0) (Et Ad) Eu) Ac))) Φ))),?_⟩;refine⟨_,U,_,U,AG,λp I=>?_⟩;have j:Same H (upd H p (.tup [V.str u,V.str t])):=Same.new I;have ep:(upd H p (.tup [V.str u,V.str t])) p=some (.tup [V.str u,V.str t]):=Af;generalize upd H p (.tup [V.str u,V.str t])=H1 at j ep ⊢;have c:=j _ _ M
 have g:∀(d:Hp),Same H1 d->∀l H',Same d H'->d l=none->H' l=some (.lst [])->UV false (.ref p) (.ref l) H' Q:=λd s2 l H' s3 fl N=>by
  refine⟨l,_,dH [u,t],_,U,N,.nil,.tup ((s2.trans s3) _ _ ep) (.cons (.str _) (.cons (.str _) .nil)),QU ?_,Y6 (ps:=[]) (λ_ i=>nomatch i),q H' ((j.trans s2).trans s3)⟩;intro x i;(simp only[Ar,AS,AQ]at i);rcases i with e | e
  ·rw[e];exact G
  rw[e];exact S
 refine⟨_,U,_,U,_,U,a,_,U,SqT.of c,λo=>?_,λo b B=>?_⟩
 ·have L:h=[]:=by
   have:=o.1;rw[show((1:Int))=((1:Nat):Int) from U,HT.sIx_nat]at this;cases h with
   | nil=>rfl
   | cons y ys=>exfalso;simp at this
  subst L;exact⟨a,a,_,U,SqT.of c,SqT.of c,g H1 (Same.refl _)⟩
 have m:h≠[]:=λe=>by subst e;exact o ⟨U,U⟩
 have v:(upd H1 b (.tup (BE (h.map V.str) (some 1) none))) b=some (.tup []):=by rw[Af,show((1:Int))=((1:Nat):Int) from U,LY (by rw[Ah];exact List.length_pos_iff.mpr m),<- List.map_drop,List.drop_one,r];rfl
 have s2:Same H1 (upd H1 b (.tup (BE (h.map V.str) (some 1) none))):=Same.new B;generalize upd H1 b (.tup (BE (h.map V.str) (some 1) none))=d at v s2 ⊢;exact⟨a,b,_,U,SqT.of (s2 _ _ c),SqT.of v,g d s2⟩
def eX (F:Fun K "holds_of_thing" "holds_of_thing" Io f fd)(T:Bl mg)(j:Ca P w K mg base CX0 2 "heap_in" GH EY (Ie C))
  (d:Ca P w K mg base CX0 1 "lies_on" Nm KO Qh):Aj P w K mg base CX0 3 f fd IQ (P9 C):=by
 refine F.oq scHoldsOfThing λag A aa s H vs Q E N h=>?_
 obtain⟨x,l,rs,v,W,am,rfl,R,g,rv,r,ok,nf,np,q⟩:=h
 have ac:=AB
 have ab:=r.g.fewP
 have af:W.heaps.length<=6:=by have:=r.sz.1;lia
 obtain⟨c,v0,hb,cl,xs,ys,rfl,ea,r0,I,rb,ec,rc⟩:=parts rv
 have a7:=LU r0
 subst a7
 have w1:atI [oV W.hand,V.ref hb,V.ref cl] ((1:Nat):Int)=some (.ref hb):=Au U
 have ad:xs.length=W.heaps.length:=by have:=rb.length;rw[Ah]at this;exact this
 refine⟨_,(Ai (Es (i:=3) scHoldsOfThing.nd U (DN U) (Ap AL (pv 1) Ad (λ_ _=>U))) (Ai (AY (AN By (Ap AL (pv 1) Ad (λ_ _=>U)) AC (AJ _)) (Al (Av (Cn By (Ap Bf (pv 2) Ad (λ_ _=>U)) (pv 3) (AJ _)))) AX) (Ai (AY (AN By (Ap AL (pv 1) Ad (λ_ _=>U)) AC (AJ _)) (Al (Av (Be (So U) Φ T.any Su (Aa (B1 (sc:=Ak Io) (own:=["heap"]) (js:=[3]) BA U (Va (Ap Bf (pv 2) Ad (λ_ _=>U))) (λ_ _ _ _=>A0 (i:=0) (show List.Nodup (["heap", "thing"]:List Str) by decide +kernel)) (λ_ _ _ _=>BV) (λ_ _ _ _=>(Cn (cS N.units) (Ew (Y5 K U) (pv 0) (Et (Rr Pm Ad)) Eu) (A6 (Aa (pv 1) Ac)) (AJ _)))) Ac)))) AX) (Ai (AY (AN By (Ap AL (pv 1) Ad (λ_ _=>U)) AC (AJ _)) (Al (Av (Cn Ez (pv 3) (Az j N Aq (Aa (pv 0) (Aa (pv 2) (Aa (Ap AL (pv 1) Ad (λ_ _=>U)) Ac)))) Φ))) AX) (Al (Av (Be (So U) Φ T.any Su (Aa (B1 (sc:=Ak Io) (own:=["heap"]) (js:=[3,1]) BA U (Va (Ap Bf (pv 2) Ad (λ_ _=>U))) (λ_ _ _ _=>A0 (i:=0) (show List.Nodup (["heap", "thing", "atom"]:List Str) by decide +kernel)) (λ_ _ _ _=>BV) (λ_ _ _ _=>(Az d (N.mono Ξ) Aq (Aa (pv 0) (Aa (pv 1) (Aa (Ap (RW K U) (pv 2) Ad (λ_ _=>U)) Ac)))))) Ac)))))))),?_⟩
 cases am with
 | free=>exact absurd U nf
 | pl p i w'=>exact absurd U (np p i w')
 | held t=>have a0:atI [V.str t,V.str "held"] ((0:Nat):Int)=some (.str t):=Au U;have o:atI [V.str t,V.str "held"] ((1:Nat):Int)=some (.str "held"):=Au U;refine⟨_,U,l,_,_,_,U,U,Y.of g,a0,_,U,l,_,_,_,U,U,Y.of g,o,U,_,U,?_⟩;refine Fs U ?_;refine⟨_,U,c,_,_,_,U,U,SqT.of ea,Au U,_,U,by cases W.hand <;> rfl,?_⟩;rw[iP];exact q H (Same.refl _)
 | top t=>
  have kt:=FR r.g ok;have a0:atI [V.str t,V.str "top"] ((0:Nat):Int)=some (.str t):=Au U;have o:atI [V.str t,V.str "top"] ((1:Nat):Int)=some (.str "top"):=Au U;refine⟨_,U,l,_,_,_,U,U,Y.of g,a0,_,U,l,_,_,_,U,U,Y.of g,o,U,_,U,?_⟩;refine EZ Δ ⟨_,U,l,_,_,_,U,U,Y.of g,o,U,_,U,?_⟩;refine Fs U ⟨_,U,c,_,_,_,U,U,SqT.of ea,w1,hb,U,⟨_,SqT.of I⟩,λD hD=>?_⟩
  refine BK (n:=W.heaps.length) (λi ys a=>ys=((W.heaps.take i).map λh=>decide (h.getLast? = some t)).map V.bl/\Same H a/\a D=some (.lst ys)) ⟨U,Same.new hD,Af⟩
   (λi ys a m ⟨_,s3,_⟩=>⟨_,xs[i]'Ψ,SqT.of (s3 _ _ I),Ay Ψ⟩) (λys a L=>by obtain⟨_,s3,_⟩:=L;exact⟨_,SqT.of (s3 _ _ I),Ψ⟩) ?_ ?_
  ·rintro i ys H4 y a m ⟨rfl,s3,e3⟩ ⟨rfl,hx⟩;refine BX ?_;have z:=hx _ (SqT.of (s3 _ _ I));obtain⟨th,et,eh⟩:=RZ rb (Ay m);rw[et]at z;cases z;have hm:=Cb m;have a4:=s3 _ _ eh;have a3:∀B:Hp,Same a B->∃S,B D=some (.lst S)/\S.length<sizeLine/\(S++[V.bl (decide (W.heaps[i].getLast? = some t))]=((W.heaps.take (i+1)).map λh=>decide (h.getLast? = some t)).map V.bl/\Same H (upd B D (.lst (S++[V.bl (decide (W.heaps[i].getLast? = some t))])))/\(upd B D (.lst (S++[V.bl (decide (W.heaps[i].getLast? = some t))]))) D=some (.lst (S++[V.bl (decide (W.heaps[i].getLast? = some t))]))):=λB G=>by refine⟨_,G _ _ e3,by simp only[Ah,Bm];lia,?_,(s3.trans G).put hD,Af⟩;rw[BN m,AR,AR];rfl
   refine⟨_,U,_,U,_,U,th,_,U,SqT.of a4,λhw=>?_,λhw b a9=>?_⟩
   ·refine⟨_,U,AG,λtp M=>?_⟩;exact Wv (by rw[oK hw.1];exact a4) M (r.skh hm) kt λB G=>a3 B G
   have a6:(upd a b (.tup (BE (W.heaps[i].map V.str) (some (-1)) none))) b=some (.tup ((W.heaps[i].drop (W.heaps[i].length-1)).map V.str)):=by rw[Af,oO hw]
   have s4:Same a (upd a b (.tup (BE (W.heaps[i].map V.str) (some (-1)) none))):=Same.new a9;generalize upd a b (.tup (BE (W.heaps[i].map V.str) (some (-1)) none))=H4 at a6 s4 ⊢;exact⟨_,U,AG,λtp M=>Wv a6 M (r.skh hm) kt λB G=>a3 B (s4.trans G)⟩
  rintro ys a ⟨rfl,s3,e3⟩;rw[BQ]at e3;refine⟨D,_,U,Y.of e3,?_⟩;rw[List.any_map];exact q a s3
 | isin t p i=>
  obtain⟨X,m⟩:=ok;have ae:=(AW.mp m).1;have a5:i<W.heaps.length:=by have:=r.sz.1;lia
  have a0:atI [V.str t,V.str "in",V.str p.1] ((0:Nat):Int)=some (.str t):=Au U;have o:atI [V.str t,V.str "in",V.str p.1] ((1:Nat):Int)=some (.str "in"):=Au U;have a2:atI [V.str t,V.str "in",V.str p.1] ((2:Nat):Int)=some (.str p.1):=Au U;refine⟨_,U,l,_,_,_,U,U,Y.of g,a0,_,U,l,_,_,_,U,U,Y.of g,o,U,_,U,?_⟩;refine EZ Δ ⟨_,U,l,_,_,_,U,U,Y.of g,o,U,_,U,?_⟩;refine EZ Δ ⟨_,U,l,_,_,_,U,U,Y.of g,o,U,_,U,?_⟩;refine Fs U ?_;refine⟨_,U,_,U,_,U,_,U,l,_,_,_,U,U,Y.of g,a2,x,rs,_,W,i,p,W.heaps[i],U,R,r.g,rv,m,Ay a5,λth H1 s1 eh=>?_⟩;refine⟨th,_,U,.inr (SqT.of (s1 _ _ eh)),U,flat_strs _,?_⟩;rw[DH];have q':Q (.bl (decide (t∈W.heaps.getD i []))) H1:=q H1 s1;have e:W.heaps.getD i []=W.heaps[i]:=by simp[List.getD,a5]
  rw[e]at q';exact q'
 | on t u=>
  obtain⟨X,a8⟩:=ok;have o:atI [V.str t,V.str "on",V.str u] ((1:Nat):Int)=some (.str "on"):=Au U;refine⟨_,U,l,_,_,_,U,U,Y.of g,Au U,?_⟩;refine⟨_,U,l,_,_,_,U,U,Y.of g,o,U,_,U,?_⟩;refine EZ Δ ⟨_,U,l,_,_,_,U,U,Y.of g,o,U,_,U,?_⟩;refine EZ Δ ⟨_,U,l,_,_,_,U,U,Y.of g,o,U,_,U,?_⟩;refine EZ Δ ⟨_,U,c,_,_,_,U,U,SqT.of ea,w1,hb,U,⟨_,SqT.of I⟩,λD hD=>?_⟩
  refine BK (n:=W.heaps.length) (λi ys a=>ys=((W.heaps.take i).map (Gf u t)).map V.bl/\Same H a/\a D=some (.lst ys)) ⟨U,Same.new hD,Af⟩
   (λi ys a m ⟨_,s3,_⟩=>⟨_,xs[i]'Ψ,SqT.of (s3 _ _ I),Ay Ψ⟩) (λys a L=>by obtain⟨_,s3,_⟩:=L;exact⟨_,SqT.of (s3 _ _ I),Ψ⟩) ?_ ?_
  ·rintro i ys H4 y a m ⟨rfl,s3,e3⟩ ⟨rfl,hx⟩;refine BX ?_;have z:=hx _ (SqT.of (s3 _ _ I));obtain⟨th,et,eh⟩:=RZ rb (Ay m);rw[et]at z;cases z;have hm:=Cb m;refine⟨_,U,_,U,_,U,l,_,_,_,U,U,Y.of (s3 _ _ g),Au U,th,W.heaps[i],t,u,U,s3 _ _ eh,r.skh hm,FR r.g X,FR r.g a8,r.few hm,λB G=>?_⟩;refine⟨_,G _ _ e3,by simp only[Ah,Bm];lia,?_,(s3.trans G).put hD,Af⟩;rw[BN m,AR,AR];rfl
  rintro ys a ⟨rfl,s3,e3⟩;rw[BQ]at e3;refine⟨D,_,U,Y.of e3,?_⟩;rw[List.any_map];exact q a s3
def iK {f1 f2 f3:Addr} (F:Fun K "atom_holds" "atom_holds" NJ f fd)(L:Cl K C)(T:Bl mg)(n:Binds K d_things ["self"] [])(m:B5 K C "things" f_things)(j:Aj P w K mg base CX0 1 f_things d_things ["self"] (Ic C))
  (D_heap_in:Df K mg "heap_in" GH EY f1 d1')(d:Aj P w K mg base CX0 2 f1 d1' EY (Ie C))(D_lid_on:Df K mg "lid_on" Ka GW f2 d2')(r:Aj P w K mg base CX0 2 f2 d2' GW (MU C))
  (D_holds_of_thing:Df K mg "holds_of_thing" Io IQ f3 d3')(a:Aj P w K mg base CX0 3 f3 d3' IQ (P9 C)):Aj P w K mg base CX0 4 f fd Lx (QT C):=by
 refine F.oq ZW λad A a9 s H vs Q E M h=>?_
 obtain⟨x,l,rs,v,W,S,rfl,R,el,rv,X,ok,q⟩:=h
 have a4:Room 2 _:=M.mono Ξ
 have ab:=AB
 obtain⟨dx,d1,d2,o,kvs,h1,h2,h3,h4⟩:=R.ex
 have a2:=rv
 obtain⟨c,v0,hb,cl,xs,ys,rfl,ea,r0,eb,rb,ec,rc⟩:=parts rv
 have a6:=LU r0
 subst a6
 refine⟨_,(Ai (AY (AN (Vr M.units) (pv 1) (Cu (Aa AC Ac)) (AJ _)) (Al (Av (Cn IZ (Ap Bf (pv 2) Ad (λ_ _=>U)) CW (AJ _)))) AX) (Ai (AY (AN Ez (Ap AL (pv 1) Ad (λ_ _=>U)) (Cr (pv 0) L.cl m j (M.mono Ξ) n .nil Aq) Φ) (Al (Av (Cj a M Φ D_holds_of_thing.m D_holds_of_thing.F.kp D_holds_of_thing.b .nil Aq (Aa (pv 0) (Aa (pv 1) (Aa (pv 2) Ac)))))) AX) (Ai (AY (AN By (Ap AL (pv 1) Ad (λ_ _=>U)) AC (AJ _)) (Al (Av (Cn By (Be Cv Φ T.len BM (Aa (Cj d a4 Φ D_heap_in.m D_heap_in.F.kp D_heap_in.b .nil Aq (Aa (pv 0) (Aa (pv 2) (Aa (Ap AL (pv 1) Ad (λ_ _=>U)) Ac)))) Ac)) Ad (AJ _)))) AX) (Al (Av (Cn By (Cj r a4 Φ D_lid_on.m D_lid_on.F.kp D_lid_on.b .nil Aq (Aa (pv 0) (Aa (pv 2) (Aa (Ap AL (pv 1) Ad (λ_ _=>U)) Ac)))) (Ap AL (pv 1) Ad (λ_ _=>U)) (AJ _))))))),?_⟩
 refine⟨_,U,Ξ,λlf aa=>?_⟩
 have B:Same H (upd H lf (.lst [V.str "free"])):=Same.new aa
 have ef:(upd H lf (.lst [V.str "free"])) lf=some (.lst ((["free"]:List Str).map V.str)):=Af
 generalize upd H lf (.lst [V.str "free"])=H0 at B ef ⊢
 refine⟨l,lf,S.ws,["free"],U,U,B _ _ el,ef,FV (Am.sks X.g ok),FV Δ,_,U,?_⟩
 rw[Om]
 have N:=B _ _ el
 by_cases hf:S=.free
 ·subst hf;refine Bw ?_;refine⟨_,U,c,_,_,_,U,U,SqT.of (B _ _ ea),Au U,?_⟩;have D:=q H0 B;unfold Am.tv at D;cases hh:W.hand with
  | none=>rw[hh]at D;exact⟨U,D⟩
  | some t=>rw[hh]at D;exact⟨U,D⟩
 have a7:¬S.ws=(["free"]:List Str):=by
  intro z;cases S with
  | free=>exact hf U
  | _=>simp[Am.ws]at z
 rw[Bi a7]
 refine A7 ?_
 by_cases hp:∃p i g,S=.pl p i g
 ·obtain⟨p,i,g,rfl⟩:=hp;obtain⟨hi,hw⟩:=ok;have ac:=(AW.mp hi).1;have a5:i<W.heaps.length:=by have:=X.sz.1;lia
  have a3:i<W.lids.length:=by have:=X.sz.2;lia
  have a0:atI [V.str p.1,V.str g] ((0:Nat):Int)=some (.str p.1):=Au U;have a1:atI [V.str p.1,V.str g] ((1:Nat):Int)=some (.str g):=Au U;refine⟨_,U,l,_,_,_,U,U,Y.of N,a0,_,U,x,dx,_,U,B _ _ h1,DQ d1 d2 Δ Δ,x,rs,U,R.same B,λl1 H1 s1 fl e1=>⟨l1,_,U,.inl (Y.of e1),U,flat_strs _,_,U,?_⟩⟩
  rw[DH,Bi (JY X.g.nd (G6 hi))];refine A7 ?_;have b:=B.trans s1;have G:=s1 _ _ N;refine⟨_,U,l,_,_,_,U,U,Y.of G,a1,U,_,U,?_⟩;by_cases I:g = "bare"
  ·refine Fs I ⟨_,U,_,U,_,U,l,_,_,_,U,U,Y.of G,a0,x,rs,_,W,i,p,W.heaps[i],U,R.same b,X.g,b.rd a2,hi,Ay a5,λth H2 s2 eh=>?_⟩;refine⟨_,_,U,.inr ⟨_,SqT.of (s2 _ _ eh),U⟩,U,?_⟩;have D:Q (.bl (if g = "bare" then decide (W.heaps.getD i []=[])else decide (W.lids.getD i "" = g))) H2:=q H2 (b.trans s2);have e:W.heaps.getD i []=W.heaps[i]:=by simp[List.getD,a5]
   rw[As I,e]at D
   have e2:decide (V.int ((W.heaps[i].map V.str).length:Int)=V.int 0)=decide (W.heaps[i]=[]):=by
    rw[Ah];cases W.heaps[i]with
    | nil=>rfl
    | cons y ys=>rw[Bi (Bo _ _)];refine Bi λz=>?_;have:=V.int.inj z;rw[BU]at this;lia
   rw[e2];exact D
  refine EZ I ⟨_,U,_,U,_,U,l,_,_,_,U,U,Y.of G,a0,x,rs,_,W,i,p,W.lids[i],U,R.same b,X.g,b.rd a2,hi,Ay a3,λH2 s2=>?_⟩;refine⟨_,U,l,_,_,_,U,U,Y.of (s2 _ _ G),a1,U,?_⟩;have D:Q (.bl (if g = "bare" then decide (W.heaps.getD i []=[])else decide (W.lids.getD i "" = g))) H2:=q H2 (b.trans s2);have e:W.lids.getD i "" = W.lids[i]:=by simp[List.getD,a3]
  rw[Ag I,e]at D;rw[Os];exact D
 obtain⟨t,ws,a8,ht⟩:∃t ws,S.ws=t::ws/\t∈tn rs:=by
  cases S with
  | free=>exact absurd U hf
  | pl p i g=>exact absurd ⟨p,i,g,U⟩ hp
  | isin t p i=>exact⟨t,_,U,ok.1⟩
  | on t u=>exact⟨t,_,U,ok.1⟩
  | top t=>exact⟨t,_,U,ok⟩
  | held t=>exact⟨t,_,U,ok⟩
 refine⟨_,U,l,_,_,_,U,U,Y.of N,Au (by rw[a8];rfl),_,U,x,dx,_,U,B _ _ h1,DQ d1 d2 Δ Δ,x,rs,U,R.same B,λl1 H1 s1 fl e1=>⟨l1,_,U,.inl (Y.of e1),U,flat_strs _,_,U,?_⟩⟩
 rw[DH,AV ht]
 refine Bw ?_
 have b:=B.trans s1
 exact⟨_,U,_,U,_,U,x,l,rs,_,W,S,U,R.same b,s1 _ _ N,b.rd a2,X,ok,hf,(λp i g z=>hp ⟨p,i,g,z⟩),λH2 s2=>q H2 (b.trans s2)⟩
inductive P7 (C:Addr)(vs:List V)(H:Hp)(Q:VK)(E0_:XK):Prop
 | mk (x:Addr) (rs:List Ro) (ts:List Tt) (c0:vs=[.ref x,.str (A9 ts)]) (c1:RoomAt C H x rs) (c2:Good rs) (c3:Fe rs ts) (c4:∀(d:Addr) (H':Hp),Same H H'->H d=none->PtV H' (.ref d) ts->Q (.ref d) H'):P7 C vs H Q E0_
inductive MY (C:Addr)(vs:List V)(H:Hp)(Q:VK)(E0_:XK):Prop
 | mk (x:Addr) (rs:List Ro) (ps:List (List Tt)) (c0:vs=[.ref x,.str (AE ps)]) (c1:RoomAt C H x rs) (c2:Good rs) (c3:Cd rs ps) (c4:∀(d:Addr) (us:List V) (H':Hp),Same H H'->H' d=some (.lst us)->A2 (PtV H') us ps->Q (.ref d) H'):MY C vs H Q E0_
def F5 (W:Wl)(ts:List Tt):Bool:=ts.all λt=>t.2.tv W == t.1
def CK (W:Wl)(ps:List (List Tt)):Bool:=ps.any (F5 W)
inductive P8 (C:Addr)(vs:List V)(H:Hp)(Q:VK)(E0_:XK):Prop
 | mk (x:Addr) (pv:V) (rs:List Ro) (v:V) (W:Wl) (ts:List Tt) (c0:vs=[.ref x,pv,v]) (c1:RoomAt C H x rs) (c2:PtV H pv ts) (c3:RdV H v (dW W)) (c4:Wo rs W) (c5:Fe rs ts) (c6:∀H':Hp,Same H H'->Q (.bl (F5 W ts)) H'):P8 C vs H Q E0_
inductive Qq (C:Addr)(vs:List V)(H:Hp)(Q:VK)(E0_:XK):Prop
 | mk (x:Addr) (rs:List Ro) (v:V) (W:Wl) (ps:List (List Tt)) (c0:vs=[.ref x,.str (AE ps),v]) (c1:RoomAt C H x rs) (c2:Cd rs ps) (c3:RdV H v (dW W)) (c4:Wo rs W) (c5:∀H':Hp,Same H H'->Q (.bl (CK W ps)) H'):Qq C vs H Q E0_
inductive Qu (C:Addr)(vs:List V)(H:Hp)(Q:VK)(E0_:XK):Prop
 | mk (x:Addr) (rs:List Ro) (p:List (List Tt)) (o:Option (List (List Tt))) (c0:vs=[.ref x,.str (E1 p o)]) (c1:RoomAt C H x rs) (c2:Good rs) (c3:Cd rs p) (c4:(∀q,o=some q->Cd rs q)) (c5:∀(t:Addr) (H':Hp),Same H H'->H' t=some (.tup [.str (AE p),oV (o.map AE)])->Q (.ref t) H'):Qu C vs H Q E0_
abbrev GV:List Str:=["room", "text"]
abbrev jD:List Str:=BG GV ["facts", "fact"]
def scReadErrand:Aw jD GV (Ak Ij):=AA
def MH {a:Type}{xs:List a}{i:Nat}{x:a}(h:xs[i]? = some x):xs.take (i+1)=xs.take i++[x]:=by obtain⟨b,e⟩:=AW.mp h;rw[List.take_add_one,Ay b,e];rfl
def MJ {a:Type}(xs:List a):xs.take xs.length=xs:=FA (An _)
def eW (F:Fun K "read_part" "read_part" FY f fd)(T:Bl mg)(a:Ca P w K mg base CX0 4 "read_term" Ih GS (PN C)):Aj P w K mg base CX0 5 f fd GU (P7 C):=by
 refine F.oq UD λX A z s H vs Q E o h=>?_;obtain⟨x,rs,ts,rfl,R,g,m,q⟩:=h;have L:=AB;have a0:=GQ g m;have I:=m.few;refine⟨_,(Al (Av (B1 (sc:=Ak FY) (own:=["term"]) (js:=[0]) BA U (BB (Dg Ek DJ EM EA (pv 1) (Aa AC Ac))) (λ_ _ _ _=>A0 (i:=0) (show List.Nodup (["term", "room"]:List Str) by decide +kernel)) (λ_ _ _ _=>BV) (λ_ _ _ _=>(Az a o Aq (Aa (pv 1) (Aa (pv 0) Ac))))))),?_⟩;refine⟨_,U,U,_,_,U,U,Φ,Ψ,λl S=>?_⟩;have j:(upd H l (.lst ((Txt.split (A9 ts) " and ").map V.str))) l=some (.lst ((ts.map Bn).map V.str)):=by rw[Af,PB g m]
 have n:Same H (upd H l (.lst ((Txt.split (A9 ts) " and ").map V.str))):=Same.new S;generalize (upd H l (.lst ((Txt.split (A9 ts) " and ").map V.str)))=H1 at j n ⊢;have ll:((ts.map Bn).map V.str).length=ts.length:=by simp
 refine⟨l,U,⟨_,Y.of j⟩,λD hD=>?_⟩
 refine BK (λi ys b=>Same H1 b/\b D=some (.lst ys)/\A2 (TmV b) ys (ts.take i)) ⟨Same.new hD,Af,by rw[EO];exact A2.nil⟩
  (λi ys b e c=>by obtain⟨s2,_,_⟩:=c;exact⟨_,.str (Bn ts[i]),Y.of (s2 _ _ j),by simp[e]⟩) (λys b c=>by obtain⟨s2,_,_⟩:=c;exact⟨_,Y.of (s2 _ _ j),Ψ⟩) ?_ ?_
 ·rintro i ys b y H3 e ⟨s2,e2,d⟩ ⟨rfl,hx⟩;refine BX ?_;have B:y=.str (Bn ts[i]):=by have:=hx _ (Y.of (s2 _ _ j));rw[AU,AU,Ay e]at this;(exact(Bh this).symm)
  subst B;have N:ys.length<=3:=by rw[d.len,Bm];lia
  refine⟨_,U,_,U,x,rs,ts[i].1,ts[i].2.ws,_,U,R.same (n.trans s2),Am.tm g (m.ok _ (Cb e)) ts[i].1,λt M H4 u W G=>?_⟩;have p:=u _ _ e2;have rf:=d.ref λv t r=>TmV.rf r;refine⟨_,p,Ψ,(s2.trans u).put hD,Af,?_⟩;rw[MH (Ay e)];exact((d.mono λv t _ r=>TmV.same u r).mono λv t _ r=>r.upd p rf).snoc (TmV.upd ⟨t,M,U,W,G⟩ p rf)
 rintro ys b ⟨s2,e2,d⟩;rw[MJ]at d;exact q D b (n.trans s2) (none_of n hD) ⟨D,ys,U,e2,d⟩
def gE (F:Fun K "read_fact" "read_fact" Fi f fd)(T:Bl mg)(a:Ca P w K mg base CX0 5 "read_part" FY GU (P7 C)):Aj P w K mg base CX0 6 f fd F6 (MY C):=by
 refine F.oq UE λW A u s H vs Q E G h=>?_;obtain⟨x,rs,ps,rfl,R,g,o,q⟩:=h;have N:=AB;have X:=Eh g o;have M:=o.few;refine⟨_,(Al (Av (B1 (sc:=Ak Fi) (own:=["part"]) (js:=[0]) BA U (BB (Dg Ek DJ EM EA (pv 1) (Aa AC Ac))) (λ_ _ _ _=>A0 (i:=0) (show List.Nodup (["part", "room"]:List Str) by decide +kernel)) (λ_ _ _ _=>BV) (λ_ _ _ _=>(Az a G Aq (Aa (pv 1) (Aa (pv 0) Ac))))))),?_⟩;refine⟨_,U,U,_,_,U,U,Φ,Ψ,λl S=>?_⟩;have n:(upd H l (.lst ((Txt.split (AE ps) " or ").map V.str))) l=some (.lst ((ps.map A9).map V.str)):=by rw[Af,Py g o]
 have I:Same H (upd H l (.lst ((Txt.split (AE ps) " or ").map V.str))):=Same.new S;generalize (upd H l (.lst ((Txt.split (AE ps) " or ").map V.str)))=H1 at n I ⊢;have ll:((ps.map A9).map V.str).length=ps.length:=by simp
 refine⟨l,U,⟨_,Y.of n⟩,λD hD=>?_⟩
 refine BK (λi ys b=>Same H1 b/\b D=some (.lst ys)/\A2 (λv ts=>PtV b v ts/\v≠.ref D) ys (ps.take i)) ⟨Same.new hD,Af,by rw[EO];exact A2.nil⟩
  (λi ys b m c=>by obtain⟨s2,_,_⟩:=c;exact⟨_,.str (A9 ps[i]),Y.of (s2 _ _ n),by simp[m]⟩) (λys b c=>by obtain⟨s2,_,_⟩:=c;exact⟨_,Y.of (s2 _ _ n),Ψ⟩) ?_ ?_
 ·rintro i ys b y H3 m ⟨s2,e2,e⟩ ⟨rfl,hx⟩;refine BX ?_;have B:y=.str (A9 ps[i]):=by have:=hx _ (Y.of (s2 _ _ n));rw[AU,AU,Ay m]at this;(exact(Bh this).symm)
  subst B;have a0:ys.length<=3:=by rw[e.len,Bm];lia
  refine⟨_,U,_,U,x,rs,ps[i],U,R.same (I.trans s2),g,o.ok _ (Cb m),λd H4 p j pv=>?_⟩;have L:=p _ _ e2;have rf:=e.ref λv t r=>PtV.rf r.1;have dD:V.ref d≠V.ref D:=λz=>by cases z;rw[e2]at j;cases j
  refine⟨_,L,Ψ,(s2.trans p).put hD,Af,?_⟩;rw[MH (Ay m)];exact(e.mono λv t _ r=>⟨(r.1.same p).upd r.2 L rf,r.2⟩).snoc ⟨pv.upd dD L rf,dD⟩
 rintro ys b ⟨s2,e2,e⟩;rw[MJ]at e;exact q D ys b (I.trans s2) e2 (e.mono λv t _ r=>r.1)
def eS (F:Fun K "part_holds" "part_holds" J7 f fd)(T:Bl mg)(a:Ca P w K mg base CX0 4 "atom_holds" NJ Lx (QT C)):Aj P w K mg base CX0 5 f fd KH (P8 C):=by
 refine F.oq Zl λa0 A o s H vs Q E n h=>?_;obtain⟨x,pv,rs,v,W,ts,rfl,R,pt,rv,X,B,q⟩:=h;obtain⟨d,us,rfl,m,u⟩:=pt;have N:=AB;have I:=B.few;refine⟨_,(Al (Av (Be (Ox U) Φ T.all Jk (Aa (B1 (sc:=Ak J7) (own:=["term"]) (js:=[0,2]) BA U (BB (pv 1)) (λ_ _ _ _=>A0 (i:=0) (show List.Nodup (["term", "room", "world"]:List Str) by decide +kernel)) (λ_ _ _ _=>BV) (λ_ _ _ _=>(Cn By (Az a n Aq (Aa (pv 1) (Aa (Ap (C8 K U) (pv 0) Ad (λ_ _=>U)) (Aa (pv 2) Ac)))) (Ap (C8 K U) (pv 0) Ad (λ_ _=>U)) (AJ _)))) Ac)))),?_⟩;refine⟨_,U,d,U,⟨_,Y.of m⟩,λD hD=>?_⟩
 refine BK (λi ys g=>Same H g/\g D=some (.lst ys)/\ys=((ts.take i).map λt=>t.2.tv W == t.1).map V.bl) ⟨Same.new hD,Af,by rw[EO];rfl⟩
  (λi ys g z c=>by obtain⟨s2,_,_⟩:=c;exact⟨_,us[i],Y.of (s2 _ _ m),by simp[z]⟩) (λys g c=>by obtain⟨s2,_,_⟩:=c;exact⟨_,Y.of (s2 _ _ m),An _⟩) ?_ ?_
 ·rintro i ys g y H3 z ⟨s2,e2,y0⟩ ⟨rfl,hx⟩;refine BX ?_;obtain⟨S,p,l,L,l',e',G,el⟩:=u.at (hx _ (Y.of (s2 _ _ m)));subst e';subst y0;refine⟨_,U,_,U,L,_,_,_,U,U,SqT.of (s2 _ _ G),Au U,_,U,x,l',rs,v,W,S.2,U,R.same s2,s2 _ _ el,s2.rd rv,X,B.ok _ l,λH4 r=>?_⟩;have j:=s2.trans r;refine⟨_,U,L,_,_,_,U,U,SqT.of (j _ _ G),Au U,U,?_⟩;rw[uM];refine⟨_,r _ _ e2,?_,j.put hD,Af,?_⟩
  ·rw[Ah,Ah,Bm];lia
  rw[MH p,AR,AR];rfl
 rintro ys g ⟨s2,e2,M⟩;rw[u.len,MJ]at M;subst M;refine⟨D,_,U,Y.of e2,?_⟩;have e:((ts.map λt=>t.2.tv W == t.1).all λb=>b)=F5 W ts:=by rw[List.all_map];rfl
 rw[e];exact q g s2
def gA (F:Fun K "holds" "holds" Kl f fd)(T:Bl mg)(c:Ca P w K mg base CX0 6 "read_fact" Fi F6 (MY C))(a:Ca P w K mg base CX0 5 "part_holds" J7 KH (P8 C)):Aj P w K mg base CX0 7 f fd Lc (Qq C):=by
 refine F.oq scHolds λa0 A p s H vs Q E m h=>?_;obtain⟨x,rs,v,W,ps,rfl,R,r,rv,u,q⟩:=h;have S:=AB;have I:=r.few;refine⟨_,(Ai (AO (i:=3) scHolds.nd (Az c m Aq (Aa (pv 0) (Aa (pv 1) Ac)))) (Al (Av (Be (So U) Φ T.any Su (Aa (B1 (sc:=Ak Kl) (own:=["part"]) (js:=[0,2]) BA U (BB (pv 3)) (λ_ _ _ _=>A0 (i:=0) (show List.Nodup (["part", "room", "world"]:List Str) by decide +kernel)) (λ_ _ _ _=>BV) (λ_ _ _ _=>(Az a (m.mono Ξ) Aq (Aa (pv 1) (Aa (pv 0) (Aa (pv 2) Ac)))))) Ac))))),?_⟩;refine⟨_,U,_,U,x,rs,ps,U,R,u.g,r,λe us N L n z=>?_⟩;refine⟨_,U,e,U,⟨_,Y.of n⟩,λD hD=>?_⟩
 refine BK (λi ys g=>Same N g/\g D=some (.lst ys)/\ys=((ps.take i).map (F5 W)).map V.bl) ⟨Same.new hD,Af,by rw[EO];rfl⟩
  (λi ys g G d=>by obtain⟨s2,_,_⟩:=d;exact⟨_,us[i],Y.of (s2 _ _ n),by simp[G]⟩) (λys g d=>by obtain⟨s2,_,_⟩:=d;exact⟨_,Y.of (s2 _ _ n),An _⟩) ?_ ?_
 ·rintro i ys g y H3 G ⟨s2,e2,X⟩ ⟨rfl,hx⟩;refine BX ?_;obtain⟨ts,o,l,pv⟩:=z.at (hx _ (Y.of (s2 _ _ n)));subst X;have j:=L.trans s2;refine⟨_,U,_,U,_,U,x,_,rs,v,W,ts,U,R.same j,pv.same s2,j.rd rv,u,r.ok _ l,λH4 B=>⟨_,B _ _ e2,?_,(s2.trans B).put hD,Af,?_⟩⟩
  ·rw[Ah,Ah,Bm];lia
  rw[MH o,AR,AR];rfl
 rintro ys g ⟨s2,e2,M⟩;rw[z.len,MJ]at M;subst M;refine⟨D,_,U,Y.of e2,?_⟩;have e:((ps.map (F5 W)).any λb=>b)=CK W ps:=by rw[List.any_map];rfl
 rw[e];exact q g (L.trans s2)
def gH (F:Fun K "read_errand" "read_errand" Ij f fd)(T:Bl mg)(b:Ca P w K mg base CX0 6 "read_fact" Fi F6 (MY C)):Aj P w K mg base CX0 7 f fd GV (Qu C):=by
 refine F.oq scReadErrand λa2 A M s H vs Q E S h=>?_;obtain⟨x,rs,p,o,rfl,R,g,G,N,q⟩:=h;have X:=AB;have W:=Eh g G
 have a3:(E1 p o).length<=20000:=by
  cases o with
  | none=>show(AE p).length<=20000;lia
  | some r=>
   have h1:=Eh g (N r U);show(AE p ++ " while " ++ AE r).length<=20000;rw[BW,BW];have:(Str.ofString " while ").length=7:=by decide +kernel
   lia
 refine⟨_,(Ai (AO (i:=2) scReadErrand.nd (Dg Ek DJ EM EA (pv 1) (Aa AC Ac))) (Ai (AY (AN F7 (Be Cv Φ T.len BM (Aa (pv 2) Ac)) Ad (AJ _)) B6 AX) (Ai (CU C2 U (BB (pv 2)) (A0 (i:=3) scReadErrand.nd) (Al (CV (Az b S Aq (Aa (pv 0) (Aa (pv 3) Ac)))))) (Al (Av (A6 (Aa (Ap AL (pv 2) Ad (λ_ _=>U)) (Aa (Fk (AN By (Be Cv Φ T.len BM (Aa (pv 2) Ac)) Ad (AJ _)) (Ap AL (pv 2) Ad (λ_ _=>U)) CW) Ac)))))))),_,U,U,_,_,U,U,Φ,Ψ,λl hl=>?_⟩;have n:(upd H l (.lst ((Txt.split (E1 p o) " while ").map V.str))) l=some (.lst (((Gb p o).map AE).map V.str)):=by rw[Af,YW g G N]
 have v:Same H (upd H l (.lst ((Txt.split (E1 p o) " while ").map V.str))):=Same.new hl;generalize (upd H l (.lst ((Txt.split (E1 p o) " while ").map V.str)))=H1 at n v ⊢;have a1:(((Gb p o).map AE).map V.str).length<=2:=by rw[Ah,Ah];cases o <;> simp[Gb]
 refine⟨_,U,_,_,U,.inl ⟨_,Y.of n,U⟩,_,_,U,U,_,U,?_⟩;refine Bq (λz=>?_) (λ_=>?_)
 ·exfalso;have:=Bp z;lia
 refine⟨_,U,l,U,⟨_,Y.of n⟩,DI (K:=K) (a:=l) (λi B u=>∃I:Option V,B = [some (.ref x),some (.str (E1 p o)),some (.ref l),I]/\Same H1 u) ⟨none,U,Same.refl _⟩ (λi B u _ L=>by obtain⟨_,_,c⟩:=L;exact Y.of (c _ _ n)) ?_ ?_⟩
 ·rintro i y B u hx ⟨I,rfl,c⟩;obtain⟨r,D,e⟩:∃r∈Gb p o,y=.str (AE r):=by obtain⟨t,j,e⟩:=AK.mp (Cc hx);obtain⟨r,D,e2⟩:=AK.mp j;exact⟨r,D,by rw[<- e,<- e2]⟩
  subst e
  have fr:Cd rs r:=by
   rcases(Ar.mp D)with e | e
   ·rw[e];exact G
   exact N r (by simpa using e)
  exact⟨_,U,_,U,x,rs,r,U,R.same (v.trans c),g,fr,λd us H7 s7 _ _=>⟨_,U,c.trans s7⟩⟩
 rintro B u ⟨I,rfl,c⟩;have m:=c _ _ n;cases o with
 | none=>have a0:atI (((Gb p none).map AE).map V.str) ((0:Nat):Int)=some (.str (AE p)):=Au U;refine⟨_,U,l,_,_,_,U,U,Y.of m,a0,_,U,_,_,U,.inl ⟨_,Y.of m,U⟩,U,_,U,?_⟩;refine A7 ?_;exact⟨AG,λt j=>q t _ ((v.trans c).trans (Same.new j)) Af⟩
 | some r=>refine⟨_,U,l,_,_,_,U,U,Y.of m,Au U,_,U,_,_,U,.inl ⟨_,Y.of m,U⟩,U,_,U,?_⟩;refine Bw ?_;refine⟨_,U,l,_,_,_,U,U,Y.of m,Au U,?_⟩;exact⟨AG,λt j=>q t _ ((v.trans c).trans (Same.new j)) Af⟩
structure LL where
 line:Str
def TJ (_:List Ro)(l:LL):Prop:=l.line=fhS
def Jl (rs:List Ro)(_:LL)(W:Wl):Option Str:=some (J2 rs W.hand)
def qG (r:Ci rs W):∀t,W.hand=some t->t∈(BD rs).map (·.1):=λt a=>r.1.perm.mem_iff.mp (Hw _ (a▸AF.mpr U))
inductive Qe (C:Addr)(vs:List V)(H:Hp)(Q:VK)(E0_:XK):Prop
 | mk (x d:Addr) (rs:List Ro) (l:LL) (L:List Wl) (c0:vs=[.ref x,.ref d,.str l.line]) (c1:RoomAt C H x rs) (c2:Good rs) (c3:Rd H d (.dT (Bz 0 L))) (c4:(∀W∈L,Ci rs W)) (c5:L.length<=200) (c6:TJ rs l) (c7:∀(t:Addr) (H':Hp),(∀c u,H c=some u->c≠d->H' c=some u)->Rd H' d (.dT (Bz 0 L))->H t=none->H' t=some (.lst ((L.map (Jl rs l)).map oS))->Q (.ref t) H'):Qe C vs H Q E0_
def fF (F:Fun K "look_table" "look_table" J9 f fd)(a:Ca P w K mg base CX0 4 "looked" Nl KM (Qd C)):Aj P w K mg base CX0 8 f fd KN (Qe C):=by
 refine F.oq Zo λa0 A D s H vs Q E B h=>?_;obtain⟨x,d,rs,l,L,rfl,W,g,N,G,few,lo,q⟩:=h;have hu:=Dh B;have T:=AB;refine⟨_,(Al (Av (B1 (sc:=Ak J9) (own:=["world"]) (js:=[0,2]) BA U (Vc (pv 1)) (λ_ _ _ _=>A0 (i:=0) (show List.Nodup (["world", "room", "line"]:List Str) by decide +kernel)) (λ_ _ _ _=>BV) (λ_ _ _ _=>(Az a (B.mono Ξ) Aq (Aa (pv 1) (Aa (pv 2) (Aa (pv 0) Ac)))))))),?_⟩;unfold Pr tLc;refine V1 (n:=1) ?_ N λo S k1 e1=>?_
 ·intro q h;exact⟨_,U,h⟩
 intro R j
 refine BK (λi ys p=>ys=((L.take i).map (Jl rs l)).map oS/\Same S p/\p R=some (.lst ys)) ⟨U,Same.new j,Af⟩
  (λi ys p r m=>by obtain⟨_,s2,_⟩:=m;exact⟨by rw[Dn];exact r,s2 _ _ e1⟩) (λys p m=>by obtain⟨_,s2,_⟩:=m;exact⟨by rw[Dn];exact An _,s2 _ _ e1⟩) ?_ ?_
 ·rintro i ys p y H3 r ⟨rfl,s2,e2⟩ ⟨rfl,k,v,b,hk,rfl,rt⟩;refine BX ?_;have hz:=Ay r;have M:=G L[i] (Cb r);have z:=BN r;generalize L[i]=Z at hz M z;rw[G4 hz]at hk;cases hk;refine⟨_,U,_,U,_,U,x,rs,_,Z,by rw[show l.line=fhS from lo];rfl,(W.keepT N k1).same s2,g,Iv rt.rd,qG M,λH6 I=>?_⟩;refine⟨_,I _ _ e2,by rw[Ah,Ah,Bm];lia,?_,(s2.trans I).put j,Af⟩;rw[z,AR,AR];rfl
 rintro ys p ⟨rfl,s2,e2⟩;rw[BQ]at e2;exact q R p (λc u e X=>s2 _ _ (k1 c u e X)) (.inr ⟨o,s2 _ _ e1⟩) (RE k1 e1 j) e2
def TF (H:Hp)(v:V)(q:LL×Int):Prop:=∃a,v=V.ref a/\H a=some (.tup [.str q.1.line,.int q.2])
structure O4 (rs:List Ro)(Ps:List (DO×Int))(Ls:List (LL×Int)):Prop where
 ok:∀q∈Ls,TJ rs q.1
 st:∀q∈Ls,Mv (q.1.line,q.2)
 few:Ls.length<=40
 nd:((Ps.map λq=>q.1.line)++Ls.map λq=>q.1.line).Nodup
def N7 (rs:List Ro)(L:List Wl)(q:LL×Int):Loo:=⟨q.1.line,q.2,L.map (Jl rs q.1)⟩
def LxV (D1 d:Addr)(H:Hp)(v:V)(l:Loo):Prop:=∃a t,v=V.ref a/\a≠D1/\a≠d/\H a=some (.tup [.str l.name,.int l.price,.ref t])/\t≠D1/\t≠d/\H t=some (.lst (l.tab.map oS))
def LxV.keep (h:LxV D1 d H v l)(k:∀c u,H c=some u->c≠D1->c≠d->H' c=some u):LxV D1 d H' v l:=by obtain⟨a,t,e,f,i,m,g,b,j⟩:=h;exact⟨a,t,e,f,i,k _ _ m f i,g,b,k _ _ j g b⟩
def LxV.lo (h:LxV D1 d H v l):LoV H v l:=by obtain⟨a,t,e,f,i,c,g,j,b⟩:=h;exact⟨t,⟨a,e,c⟩,b⟩
inductive QM (C CH:Addr)(vs:List V)(H:Hp)(Q:VK)(E0_:XK):Prop
 | mk (x d a b:Addr) (rs:List Ro) (Ps:List (DO×Int)) (Ls:List (LL×Int)) (L:List Wl) (us us2:List V) (as:List Str) (c0:vs=[.ref x,.ref d,.ref a,.ref b]) (c1:RoomAt C H x rs) (c2:Good rs) (c3:Rd H d (.dT (Bz 0 L))) (c4:L.Nodup) (c5:(∀W∈L,Ci rs W)) (c6:1<=L.length) (c7:L.length<=200) (c8:H a=some (.lst us)) (c9:A2 (O5 H) us Ps) (c10:O6 rs Ps) (c11:H b=some (.lst us2)) (c12:A2 (TF H) us2 Ls) (c13:O4 rs Ps Ls) (c14:(∀q∈Ls,∀W∈L,∀s,Jl rs q.1 W=some s->s∈as)) (c15:as.length<=3) (c16:as.Nodup) (c17:(∀q∈Ps,∀Z∈L,∀W∈DC q.1 Z,W∈L)) (c18:∀(y:Addr) (ds:List Dee) (H':Hp),(∀c u,H c=some u->c≠d->H' c=some u)->Rd H' d (.dT (Bz 0 L))->ChAt CH H' y L.length ds (Ls.map (N7 rs L))->ds.map (λe=>(e.name,e.price))=Ps.map (λq=>(q.1.line,q.2))->Q (.ref y) H'):QM C CH vs H Q E0_
def hU (F:Fun K "chart_of" "chart_of" Iu f fd)(T:Bl mg)(MC:L2.Mk K CH fI)(mC:mg "Chart" = some (.ref CH))(bI:Binds K dI ["self", "many", "deeds", "looks"] [])(GI:Aj P w K mg base CX0 3 fI dI Lp (Qo CH))
  (p:Ca P w K mg base CX0 8 "deed_table" Kn Lg (QD C))(m:Ca P w K mg base CX0 8 "look_table" J9 KN (Qe C)):Aj P w K mg base CX0 9 f fd Lm (QM C CH):=by
 refine F.oq scChartOf λb5 A aq s H vs Q E a4 h=>?_
 obtain⟨x,d,a,b,rs,Ps,Ls,L,us,ay,as,rfl,ro,g,hd,nd,ai,l1,l2,ha,al,tok,hb,a7,a1,ao,a3,ad,an,q⟩:=h
 have ae:=a7.len
 have b2:=a1.few
 have hu:=Dh a4
 have ag:Room 8 _:=a4.mono Ξ
 have b4:Room 3 _:=a4.mono Ξ
 have b3:=AB
 have au:=al.len
 have b1:=tok.few
 have na:a≠d:=LG hd ha (λz=>by cases z) (λo z=>by cases z)
 have nb:b≠d:=LG hd hb (λz=>by cases z) (λo z=>by cases z)
 refine⟨_,(Ai (Iy (i:=4) (sc:=Ak Iu) (own:=["deed"]) (js:=[0,1]) scChartOf.nd U U BA U (BB (pv 2)) (λ_ _ _ _=>A0 (i:=0) (show List.Nodup (["deed", "room", "numbers"]:List Str) by decide +kernel)) (λ_ _ _ _=>BV) (λ_ _ _ _=>(A6 (Aa (Ap (C8 K U) (pv 0) Ad (λ_ _=>U)) (Aa (Ap (C8 K U) (pv 0) Ad (λ_ _=>U)) (Aa (Az p ag Aq (Aa (pv 1) (Aa (pv 2) (Aa (Ap (C8 K U) (pv 0) Ad (λ_ _=>U)) Ac)))) Ac)))))) (Ai (Iy (i:=5) (sc:=Ak Iu) (own:=["look"]) (js:=[0,1]) scChartOf.nd U U BA U (BB (pv 3)) (λ_ _ _ _=>A0 (i:=0) (show List.Nodup (["look", "room", "numbers"]:List Str) by decide +kernel)) (λ_ _ _ _=>BV) (λ_ _ _ _=>(A6 (Aa (Ap (C8 K U) (pv 0) Ad (λ_ _=>U)) (Aa (Ap (C8 K U) (pv 0) Ad (λ_ _=>U)) (Aa (Az m ag Aq (Aa (pv 1) (Aa (pv 2) (Aa (Ap (C8 K U) (pv 0) Ad (λ_ _=>U)) Ac)))) Ac)))))) (Al (Av (NU MC GI (a4.mono Ξ) Φ mC bI .nil Aq (Aa (Be Ov Φ T.len BM (Aa (pv 1) Ac)) (Aa (pv 4) (Aa (pv 5) Ac)))))))),?_⟩
 refine⟨_,U,a,U,⟨_,Y.of ha⟩,λD0 I=>?_⟩
 have aD:a≠D0:=A1 ha I
 have dD:d≠D0:=by
  rcases hd with h | ⟨o,h⟩
  ·exact A1 h I
  exact A1 h I
 refine BK (λi ys H2=>∃ds:List Dee,A2 (DxV D0 d H2) ys ds/\ds.map (λe=>(e.name,e.price))=(Ps.take i).map (λq=>(q.1.line,q.2))/\(∀e∈ds,DeOk L.length e)/\(∀c u,H c=some u->c≠d->H2 c=some u)/\Rd H2 d (.dT (Bz 0 L))/\H2 D0=some (.lst ys)) ⟨[],⟨U,λi v t hv=>by cases hv⟩,U,λe he=>(by cases he),λc u e _=>by rw[Ao (A1 e I)];exact e,GJ (Same.new I) hd,Af⟩
  (λi ys H2 hi ⟨_,_,_,_,k2,_⟩=>⟨_,us[i],Y.of (k2 _ _ ha na),Ay hi⟩) (λys H2 a9=>by obtain⟨_,_,_,_,k2,_⟩:=a9;exact⟨_,Y.of (k2 _ _ ha na),An _⟩) ?_ ?_
 ·rintro i ys H2 y N hi ⟨ds,a2,hm,aa,k2,r2,e2⟩ ⟨rfl,hy⟩;refine BX ?_;obtain⟨⟨Dl,r⟩,hq,a5,a',rfl,et⟩:=al.at (hy _ (Y.of (k2 _ _ ha na)));have S:atI [V.str Dl.line,V.int r] ((0:Nat):Int)=some (.str Dl.line):=Au U;have ar:atI [V.str Dl.line,V.int r] ((1:Nat):Int)=some (.int r):=Au U;have D:=k2 _ _ et (LG hd et (λz=>by cases z) (λo z=>by cases z));have ab:=ro.keepT hd k2;refine⟨_,U,a',_,_,_,U,U,SqT.of D,S,_,U,a',_,_,_,U,U,SqT.of D,ar,_,U,_,U,_,U,a',_,_,_,U,U,SqT.of D,S,x,d,rs,Dl,L,U,ab,g,r2,nd,ai,l2,tok.ok _ a5,an _ a5,λl ap av H4 k4 r4 n4 e4 t4 d4=>?_⟩;refine⟨AG,λB G=>?_⟩;have s5:Same H4 (upd H4 B (.tup [.str Dl.line,.int r,.ref l])):=Same.new G;have e5:(upd H4 B (.tup [.str Dl.line,.int r,.ref l])) B=some (.tup [.str Dl.line,.int r,.ref l]):=Af;have tD:B≠D0:=(A1 (k4 _ _ e2 dD.symm) G).symm;have td:B≠d:=(GL r4 G).symm;generalize (upd H4 B (.tup [.str Dl.line,.int r,.ref l]))=H5 at s5 e5 ⊢;have ak:=a2.len;have ax:=A5 List.length hm;rw[Ah,Ah,Bm]at ax;have a0:i<Ps.length:=by lia
  have a8:Ps.take (i+1)=Ps.take i++[(Dl,r)]:=by rw[BN a0];rw[Ay a0]at hq;rw[Bh hq]
  have k6:∀c u,N c=some u->c≠D0->c≠d->(upd H5 D0 (.lst (ys++[V.ref B]))) c=some u:=λc u e c1 c2=>by rw[Ao c1];exact s5 _ _ (k4 c u e c2)
  have lD:l≠D0:=(A1 e2 n4).symm;have ld:l≠d:=(GL r2 n4).symm;refine⟨_,s5 _ _ (k4 _ _ e2 dD.symm),Ψ,ds++[⟨Dl.line,r,ap⟩],(a2.mono λv e _ h=>h.keep k6).app ⟨U,λj v e hv R=>?_⟩,by rw[a8,AR,AR,hm];rfl,λe R=>?_,λc u e hc=>?_,?_,Af⟩
  ·match j with
   | 0=>cases hv;cases R;refine⟨B,l,av,U,tD,td,by rw[Ao tD];exact e5,lD,ld,(Ao lD)▸s5 _ _ e4,t4.mono λv e _ am=>?_⟩;obtain⟨z,hz,n,ez⟩:=am;refine⟨z,hz,(A1 e2 n).symm,(GL r2 n).symm,?_⟩;rw[Ao (A1 e2 n).symm];exact s5 _ _ ez
   | j+1=>cases hv
  ·rcases Br.mp R with z | z
   ·exact aa e z
   rw[AF.mp z];exact⟨d4.len,d4.up,d4.inn,d4.few⟩
  ·rw[Ao (A1 e I)];exact s5 _ _ (k4 _ _ (k2 c u e hc) hc)
  rcases GJ s5 r4 with h | ⟨o,h⟩
  ·exact .inl ((Ao dD)▸h)
  exact .inr ⟨o,(Ao dD)▸h⟩
 rintro ys H2 ⟨ds,a2,hm,aa,k2,r2,e2⟩
 rw[au,BQ]at hm
 refine⟨_,U,b,U,⟨_,Y.of (k2 _ _ hb nb)⟩,λD1 X=>?_⟩
 have bD:b≠D1:=A1 (k2 _ _ hb nb) X
 have a6:d≠D1:=GL r2 X
 have ab:=ro.keepT hd k2
 refine BK (λi zs N=>A2 (LxV D1 d N) zs ((Ls.take i).map (N7 rs L))/\(∀c u,H2 c=some u->c≠d->N c=some u)/\Rd N d (.dT (Bz 0 L))/\N D1=some (.lst zs)) ⟨⟨U,λi v t hv=>by cases hv⟩,λc u e _=>by rw[Ao (A1 e X)];exact e,GJ (Same.new X) r2,Af⟩
  (λi zs N hi ⟨_,k3,_⟩=>⟨_,ay[i],Y.of (k3 _ _ (k2 _ _ hb nb) nb),Ay hi⟩) (λzs N a9=>by obtain⟨_,k3,_⟩:=a9;exact⟨_,Y.of (k3 _ _ (k2 _ _ hb nb) nb),An _⟩) ?_ ?_
 ·rintro i zs N y H4 hi ⟨af,k3,r3,e3⟩ ⟨rfl,hy⟩;refine BX ?_;obtain⟨⟨lk,r⟩,hq,a5,a',rfl,et⟩:=a7.at (hy _ (Y.of (k3 _ _ (k2 _ _ hb nb) nb)));have S:atI [V.str lk.line,V.int r] ((0:Nat):Int)=some (.str lk.line):=Au U;have nt:=LG hd et (λz=>by cases z) (λo z=>by cases z);have D:=k3 _ _ (k2 _ _ et nt) nt;refine⟨_,U,a',_,_,_,U,U,SqT.of D,S,_,U,a',_,_,_,U,U,SqT.of D,Au U,_,U,_,U,_,U,a',_,_,_,U,U,SqT.of D,S,?_⟩;refine⟨x,d,rs,lk,L,U,ab.keepT r2 k3,g,r3,ai,l2,a1.ok _ a5,λl H5 k5 r5 n5 e5=>?_⟩;refine⟨AG,λB G=>?_⟩;have s6:Same H5 (upd H5 B (.tup [.str lk.line,.int r,.ref l])):=Same.new G;have e6:(upd H5 B (.tup [.str lk.line,.int r,.ref l])) B=some (.tup [.str lk.line,.int r,.ref l]):=Af;have tD:B≠D1:=(A1 (k5 _ _ e3 a6.symm) G).symm;generalize (upd H5 B (.tup [.str lk.line,.int r,.ref l]))=H6 at s6 e6 ⊢;have ak:=af.len;rw[Ah,Bm]at ak;have a0:i<Ls.length:=by lia
  have a8:Ls.take (i+1)=Ls.take i++[(lk,r)]:=by rw[BN a0];rw[Ay a0]at hq;rw[Bh hq]
  have k7:∀c u,H4 c=some u->c≠D1->c≠d->(upd H6 D1 (.lst (zs++[V.ref B]))) c=some u:=λc u e c1 c2=>by rw[Ao c1];exact s6 _ _ (k5 c u e c2)
  have lD:l≠D1:=(A1 e3 n5).symm;refine⟨_,s6 _ _ (k5 _ _ e3 a6.symm),Ψ,?_,λc u e hc=>?_,?_,Af⟩
  ·rw[a8,AR];refine(af.mono λv e _ h=>h.keep k7).app ⟨U,λj v e hv R=>?_⟩;match j with
   | 0=>cases hv;cases R;exact⟨B,l,U,tD,(GL r5 G).symm,by rw[Ao tD];exact e6,lD,(GL r3 n5).symm,(Ao lD)▸s6 _ _ e5⟩
   | j+1=>cases hv
  ·rw[Ao (A1 e X)];exact s6 _ _ (k5 _ _ (k3 c u e hc) hc)
  rcases GJ s6 r5 with h | ⟨o,h⟩
  ·exact .inl ((Ao a6)▸h)
  exact .inr ⟨o,(Ao a6)▸h⟩
 rintro zs N ⟨ah,k3,r3,e3⟩
 rw[ae,BQ]at ah
 refine⟨_,U,d,_,U,r3,_,U,_,U,?_⟩
 rw[Dn]
 intro y dy ny aw b6
 have s4:Same N (upd (upd N dy (.own y)) y (.ins CH dy [])):=λc o e=>by rw[Ao (A1 e ny),Ao (A1 e aw)];exact e
 have b0:=A5 List.length hm
 rw[Ah,Ah]at b0
 have az:ds.map Dee.name=Ps.map λq=>q.1.line:=by have:=A5 (List.map Prod.fst) hm;rw[Bk,Bk]at this;exact this
 refine⟨y,dy,D0,D1,L.length,ys,zs,ds,Ls.map (N7 rs L),as,U,Af,s4 _ _ (k3 _ _ e2 (dD.symm)),s4 _ _ e3,a2.mono λv e _ h=>(h.keep λc u e _ hc=>s4 _ _ (k3 c u e hc)).de,ah.mono λv e _ h=>(h.keep λc u e _ _=>s4 _ _ e).lo,⟨l1,l2,Ψ,by rw[Ah];lia,?_,λe he=>?_,λe he=>?_,aa,λe he=>?_,λe he s' hs=>?_,a3,ad⟩,λH5 kp ca=>⟨U,?_⟩⟩
 ·rw[az,Bk];exact a1.nd
 ·have ac:(e.name,e.price)∈ds.map λe=>(e.name,e.price):=HM he;rw[hm]at ac;obtain⟨q',M,e'⟩:=AK.mp ac;rw[<- e'];exact tok.st q' M
 ·obtain⟨q',M,rfl⟩:=AK.mp he;exact a1.st q' M
 ·obtain⟨q',M,rfl⟩:=AK.mp he;show(L.map _).length=_;rw[Ah]
 ·obtain⟨q',M,rfl⟩:=AK.mp he;obtain⟨W,hW,e'⟩:=AK.mp hs;exact ao q' M W hW s' e'
 refine q y ds H5 (λc u e hc=>?_) ?_ ca hm
 ·have e':=k3 _ _ (k2 c u e hc) hc;exact kp c u (s4 _ _ e') (A1 e' ny)
 have aj:=GL r3 ny
 rcases GJ s4 r3 with h | ⟨o,h⟩
 ·exact .inl (kp _ _ h aj)
 exact .inr ⟨o,kp _ _ h aj⟩
inductive QG (C:Addr)(vs:List V)(H:Hp)(Q:VK)(E0_:XK):Prop
 | mk (x a b:Addr) (rs:List Ro) (Ps:List (DO×Int)) (Ls:List (LL×Int)) (us us2:List V) (c0:vs=[.ref x,.ref a,.ref b]) (c1:RoomAt C H x rs) (c2:Good rs) (c3:H a=some (.lst us)) (c4:A2 (O5 H) us Ps) (c5:O6 rs Ps) (c6:H b=some (.lst us2)) (c7:A2 (TF H) us2 Ls) (c8:O4 rs Ps Ls) (c9:∀H':Hp,Same H H'->Q .non H'):QG C vs H Q E0_
def gZ (F:Fun K "check_told" "check_told" NB f fd)(j:Ca P w K mg base CX0 2 "read_deed" Ik IG (MS C))(d:Ca P w K mg base CX0 3 "read_look" J4 IE MQ)
  (c:Ca P w K mg base CX0 2 "check_steps" Ir G0 M0):Aj P w K mg base CX0 4 f fd Lh (QG C):=by
 refine F.oq scCheckTold λa9 A a2 s H vs Q E N h=>?_
 obtain⟨x,a,b,rs,Ps,Ls,us,S,rfl,ro,g,ha,z,tok,hb,n,o,q⟩:=h
 have M:=n.len
 have a7:=o.few
 have R:Room 2 _:=N.mono Ξ
 have a5:=z.len
 have a8:=tok.few
 refine⟨_,(Ai (CU C2 U (BB (pv 1)) (A0 (i:=3) scCheckTold.nd) (Al (CV (Az j R Aq (Aa (pv 0) (Aa (Ap Bf (pv 3) Ad (λ_ _=>U)) Ac)))))) (Ai (CU C2 U (BB (pv 2)) (A0 (i:=4) scCheckTold.nd) (Al (CV (Az d N Aq (Aa (pv 0) (Aa (Ap Bf (pv 4) Ad (λ_ _=>U)) Ac)))))) (Al (CV (Az c R Aq (Aa (pv 1) (Aa (pv 2) Ac))))))),?_⟩
 refine⟨_,U,a,U,⟨_,Y.of ha⟩,DI (K:=K) (a:=a) (λi r W=>∃T:Option V,r = [some (.ref x),some (.ref a),some (.ref b),T,none]/\Same H W) ⟨none,U,λ_ _ e=>e⟩ (λi r W _ u=>by obtain⟨_,_,s2⟩:=u;exact Y.of (s2 _ _ ha)) ?_ ?_⟩
 ·rintro i y r W X ⟨T,rfl,s2⟩;obtain⟨⟨Dl,pr⟩,hq,p,D,rfl,B⟩:=z.at X;have a6:atI [V.str Dl.line,V.int pr] ((0:Nat):Int)=some (.str Dl.line):=Au U;obtain⟨ps,hw,a4,a3⟩:=Gc g (tok.ok _ p);exact⟨_,U,_,U,D,_,_,_,U,U,SqT.of (s2 _ _ B),a6,x,rs,Dl.line,Dl.w,ps,U,ro.same s2,hw,(tok.ok _ p).len,a4,a3,λl G s3 _=>⟨_,U,s2.trans s3⟩⟩
 rintro r W ⟨T,rfl,s2⟩
 refine⟨_,U,b,U,⟨_,Y.of (s2 _ _ hb)⟩,DI (K:=K) (a:=b) (λi r G=>∃v4:Option V,r = [some (.ref x),some (.ref a),some (.ref b),T,v4]/\Same H G) ⟨none,U,s2⟩ (λi r G _ u=>by obtain⟨_,_,s3⟩:=u;exact Y.of (s3 _ _ hb)) ?_ ?_⟩
 ·rintro i y r G X ⟨v4,rfl,s3⟩;obtain⟨⟨lk,pr⟩,hq,p,D,rfl,B⟩:=n.at X;refine⟨_,U,_,U,D,_,_,_,U,U,SqT.of (s3 _ _ B),Au U,_,by rw[show lk.line=fhS from (o.ok _ p)];rfl,λl H4 s4 _=>?_⟩;exact⟨_,U,s3.trans s4⟩
 rintro r G ⟨v4,rfl,s3⟩
 have a1:A2 (vQ G) (us++S) ((Ps.map λq=>(q.1.line,q.2))++Ls.map λq=>(q.1.line,q.2)):=by
  refine A2.app ⟨by rw[Ah];exact a5,λi v t hv L=>?_⟩ ⟨by rw[Ah];exact M,λi v t hv L=>?_⟩
  ·obtain⟨I,m,_,D,e,B⟩:=z.at hv;rw[AU,m]at L;cases L;exact⟨D,e,s3 _ _ B⟩
  obtain⟨I,m,_,D,e,B⟩:=n.at hv;rw[AU,m]at L;cases L;exact⟨D,e,s3 _ _ B⟩
 refine⟨_,U,_,U,a,b,us,S,_,U,s3 _ _ ha,s3 _ _ hb,(a1.mono λv s _ a0=>by obtain⟨a,e,h⟩:=a0;exact⟨a,[],e,h⟩),Ψ,Ψ,by rw[AR,Bk,Bk];exact o.nd,λs hs=>?_,λH4 s4=>?_⟩
 ·rcases(Br.mp hs)with h | h
  ·obtain⟨I,m,rfl⟩:=AK.mp h;exact tok.st I m
  obtain⟨I,m,rfl⟩:=AK.mp h;exact o.st I m
 exact q H4 (s3.trans s4)
def Wp :(f6 m p o a q d).lookup ("many" : Str)=some (.int m):=by unfold f6 f5 f4 f3 f2 f1;rw[A3,Ag Δ,A3,Ag Δ,A3,Ag Δ,A3,Ag Δ,A3,Ag Δ,A3,As rfl]
def qY (x d:Addr):(g2 x d).lookup ("many" : Str)=none:=by unfold g2 g1;rw[A3,Ag Δ,A3,Ag Δ];rfl
def ChAt.kx (h:ChAt C H x m ds ls)(hz:H z=some (.ins CT dz fl))(I:x≠z)(k:∀c u,H c=some u->c≠z->H' c=some u):ChAt C H' x m ds ls:=by obtain⟨A,p,o,a,q,d,M,s,B,F,G,E,D,L,j,n,i,l,g,k1,k2,k3,y,k5⟩:=h.ex;have f:∀b xs,H b=some (.tup xs)->H' b=some (.tup xs):=λb xs e=>k _ _ e (Ba e hz nofun);exact⟨A,p,o,a,q,d,M,s,B,F,G,E,D,k _ _ L I,k _ _ j (Ba j hz nofun),k _ _ n (Ba n hz nofun),k _ _ i (Ba i hz nofun),k _ _ l (Ba l hz nofun),k _ _ g (Ba g hz nofun),k1,k2.mono λv d _ r=>OuV.keep f r,k3.mono λv d _ r=>AnV.keep f r,y.mono λv d _ r=>PaV.keep f (λb o xs e=>k _ _ e (Ba e hz nofun)) r,k5⟩
def ChAt.nz (h:ChAt C H x m ds ls)(hz:H z=some (.ins CT dz (g2 a1 a2))):x≠z:=λe=>by obtain⟨g,p,o,a,q,d,r,f,i,n,s,l,j,c,_⟩:=h.ex;rw[e,hz]at c;have b:=Bh c;injection b with _ _ b;have:=qY a1 a2;rw[b,Wp]at this;cases this
structure AtL (C CT CH:Addr)(H:Hp)(z:Addr)(rs:List Ro)(L:List Wl)(ds:List Dee)(ls:List Loo):Prop where
 ex:∃(dz x d y:Addr),H z=some (.ins CT dz (g3 x d y))/\RoomAt C H x rs/\Rd H d (.dT (Bz 0 L))/\ChAt CH H y L.length ds ls
inductive Qn (C CT CH:Addr)(vs:List V)(H:Hp)(Q:VK)(E0_:XK):Prop
 | mk (z dz x lw a b:Addr) (rs:List Ro) (Ws:List Wl) (Ps:List (DO×Int)) (Ls:List (LL×Int)) (us0 us us2:List V) (as:List Str) (c0:vs=[.ref z,.ref x,.ref lw,.ref a,.ref b]) (c1:H z=some (.ins CT dz [])) (c2:RoomAt C H x rs) (c3:Good rs) (c4:H lw=some (.lst us0)) (c5:RdVs H us0 (Ws.map dW)) (c6:Ws≠[]) (c7:(∀W∈Ws,Ci rs W)) (c8:H a=some (.lst us)) (c9:A2 (O5 H) us Ps) (c10:O6 rs Ps) (c11:H b=some (.lst us2)) (c12:A2 (TF H) us2 Ls) (c13:O4 rs Ps Ls) (c14:(∀q∈Ls,∀W,Ci rs W->∀s,Jl rs q.1 W=some s->s∈as)) (c15:as.length<=3) (c16:as.Nodup) (c17:(∀M:List Wl,M.Nodup->(∀W∈M,Ci rs W)->M.length<=200)) (c18:∀(L:List Wl) (ds:List Dee) (H':Hp),(∀c u,H c=some u->c≠z->H' c=some u)->AtL C CT CH H' z rs L ds (Ls.map (N7 rs L))->ds.map (λe=>(e.name,e.price))=Ps.map (λq=>(q.1.line,q.2))->NA rs Ws (Ps.map (·.1)) L.length L->Q .non H'):Qn C CT CH vs H Q E0_
def iH (F:Fun K "__init__" "Atlas.__init__" NL f fd)(T:Bl mg)(LT:HR K CT)(m:Ca P w K mg base CX0 4 "check_told" NB Lh (QG C))(l:Ca P w K mg base CX0 9 "number_all" Nj KJ (Qb C))
  (n:Ca P w K mg base CX0 9 "chart_of" Iu Lm (QM C CH)):Aj P w K mg base CX0 10 f fd IV (Qn C CT CH):=by
 refine F.oq ZY λau A ak s H vs Q E a0 h=>?_
 obtain⟨z,p,x,lw,a,b,rs,Ws,Ps,Ls,ah,us,af,as,rfl,hz,ro,g,ac,ap,ne,al,ha,X,tok,hb,a1,a5,aj,a3,ad,a9,q⟩:=h
 have a7:Room 9 _:=a0.mono Ξ
 have ar:=AB
 have am:=X.len
 have aq:=tok.few
 refine⟨_,(Ai (CV (Az m (a0.mono Ξ) Aq (Aa (pv 1) (Aa (pv 3) (Aa (pv 4) Ac))))) (Ai (DF (pv 0) (pv 1) U) (Ai (DF (pv 0) (Az l a7 Aq (Aa (pv 1) (Aa (pv 2) (Aa (B1 (sc:=Ak NL) (own:=["deed"]) (js:=[]) BA U (BB (pv 3)) (λ_ _ _ _=>A0 (i:=0) (show List.Nodup (["deed"]:List Str) by decide +kernel)) (λ_ _ _ _=>BV) (λ_ _ _ _=>(Ap (C8 K U) (pv 0) Ad (λ_ _=>U)))) Ac)))) U) (Al (DF (pv 0) (Az n a7 Aq (Aa (pv 1) (Aa (CA (pv 0) U) (Aa (pv 3) (Aa (pv 4) Ac))))) U))))),?_⟩
 refine⟨_,U,_,U,_,U,x,a,b,rs,Ps,Ls,us,af,U,ro,g,ha,X,tok,hb,a1,a5,λH1 s1=>?_⟩
 refine⟨_,U,_,U,z,CT,p,[],U,s1 _ _ hz,LT.cl,LT.n1,Ξ,?_⟩
 have r:∀c u,H c=some u->c≠z->(upd H1 z (.ins CT p (L2.putF "told_room" (.ref x) []))) c=some u:=λc u e R=>by rw[Ao R];exact s1 _ _ e
 have aa:(upd H1 z (.ins CT p (L2.putF "told_room" (.ref x) []))) z=some (.ins CT p (g1 x)):=Af
 generalize (upd H1 z (.ins CT p (L2.putF "told_room" (.ref x) [])))=H2 at r aa ⊢
 have ab:=ro.keepX hz qT r
 have az:a≠z:=Ba ha hz nofun
 have S:=r _ _ ha az
 have a8:A2 (O5 H2) us Ps:=X.mono λv s _ ⟨c,e,I⟩=>⟨c,e,r _ _ I (Ba I hz nofun)⟩
 refine⟨_,U,_,U,_,U,a,U,⟨_,Y.of S⟩,λD hD=>?_⟩
 refine BK (λi ys H3=>ys=((Ps.map (·.1)).take i).map (λD=>V.str D.line)/\Same H2 H3/\H3 D=some (.lst ys)) ⟨U,Same.new hD,Af⟩
  (λi ys H3 hi ⟨_,s3,_⟩=>⟨_,us[i],Y.of (s3 _ _ S),Ay hi⟩) (λys H3 ai=>by obtain⟨_,s3,_⟩:=ai;exact⟨_,Y.of (s3 _ _ S),An _⟩) ?_ ?_
 ·rintro i ys H3 y H4 hi ⟨rfl,s3,e3⟩ ⟨rfl,hy⟩;refine BX ?_;obtain⟨⟨Dl,pr⟩,hq,av,a',rfl,I⟩:=a8.at (hy _ (Y.of (s3 _ _ S)));have an:i<(Ps.map (·.1)).length:=by rw[Ah];lia
  refine⟨_,U,a',_,_,_,U,U,SqT.of (s3 _ _ I),Au U,_,e3,by rw[Ah,Bm];lia,?_,s3.put hD,Af⟩;have e:(Ps.map (·.1))[i]? = some Dl:=by rw[AU,hq];rfl
  obtain⟨_,e⟩:=AW.mp e;rw[BN an,AR,e];rfl
 rintro ys H3 ⟨rfl,s3,e3⟩
 rw[show us.length=(Ps.map (·.1)).length by rw[Ah];exact am,BQ]at e3
 refine⟨x,lw,D,rs,Ws,Ps.map (·.1),ah,U,ab.same s3,g,s3 _ _ (r _ _ ac (Ba ac hz (by intro z;cases z))),s3.rds (ap.same λc xs e=>r c _ e (Ba e hz (by intro z;cases z))),al,e3,λD' ao=>?_,a9,λd L H4 s4 ag e4 na=>?_⟩
 ·obtain⟨q',N,rfl⟩:=AK.mp ao;exact tok.ok q' N
 have a2:=s3.trans s4
 have z4:=a2 _ _ aa
 have G:d≠z:=Ba e4 z4 nofun
 refine⟨_,U,z,CT,p,_,U,z4,LT.cl,LT.n2,by show 1<1000;decide,?_⟩
 have M:∀c u,H4 c=some u->c≠z->(upd H4 z (.ins CT p (L2.putF "numbers" (.ref d) (g1 x)))) c=some u:=λc u e R=>by rw[Ao R];exact e
 have a4:(upd H4 z (.ins CT p (L2.putF "numbers" (.ref d) (g1 x)))) z=some (.ins CT p (g2 x d)):=Af
 generalize (upd H4 z (.ins CT p (L2.putF "numbers" (.ref d) (g1 x))))=H5 at M a4 ⊢
 have k5:=λc u e R=>M c u (a2 _ _ (r c u e R)) R
 have a6:=(ab.same a2).keepX z4 (We x) M
 have l1:1<=L.length:=by obtain⟨t,I⟩:=na.pre;obtain⟨W,hW⟩:=List.exists_mem_of_ne_nil _ ne;have hm:W∈BS [] Ws:=addN_mem.mpr (.inr hW);have:=List.length_pos_of_mem hm;rw[I,AM];lia
 refine⟨_,U,_,U,z,CT,p,_,_,U,a4,LT.cl,LT.n2,qW x d,_,U,_,U,?_⟩
 refine⟨x,d,a,b,rs,Ps,Ls,L,us,af,as,U,a6,g,.inl (M _ _ e4 G),na.nd,na.rw',l1,a9 _ na.nd na.rw',k5 _ _ ha az,X.mono λv s _ ⟨c,e,I⟩=>⟨c,e,k5 _ _ I (Ba I hz (by intro z;cases z))⟩,tok,k5 _ _ hb (Ba hb hz (by intro z;cases z)),a1.mono λv s _ ⟨c,e,I⟩=>⟨c,e,k5 _ _ I (Ba I hz (by intro z;cases z))⟩,a5,λq' N W hW s hs=>aj q' N W (na.rw' W hW) s hs,a3,ad,λq' N j hZ W hW=>?_,λy ds H6 k6 r6 ca hm=>?_⟩
 ·obtain⟨i,hi⟩:=Hu hZ;exact na.clo i j (AW.mp hi).1 hi q'.1 (HM N) W hW
 have z6:=k6 _ _ a4 G.symm
 refine⟨_,U,z,CT,p,_,U,z6,LT.cl,LT.n3,by show 2<1000;decide,?_⟩
 have B:∀c u,H6 c=some u->c≠z->(upd H6 z (.ins CT p (L2.putF "made_chart" (.ref y) (g2 x d)))) c=some u:=λc u e R=>by rw[Ao R];exact e
 have ae:(upd H6 z (.ins CT p (L2.putF "made_chart" (.ref y) (g2 x d)))) z=some (.ins CT p (g3 x d y)):=Af
 generalize (upd H6 z (.ins CT p (L2.putF "made_chart" (.ref y) (g2 x d))))=H7 at B ae ⊢
 refine q L ds H7 (λc u e R=>B c u (k6 c u (k5 c u e R) λh=>?_) R) ⟨p,x,d,y,ae,(a6.keepT (.inl (M _ _ e4 G)) k6).keepX z6 (qX x d) B,?_,ca.kx z6 (ca.nz z6) B⟩ hm na
 ·rw[h]at e
  have hn:H d=none:=by
   cases e':H d with
   | none=>rfl
   | some u'=>exact absurd (s3 _ _ (r _ _ e' G)) (by rw[ag];intro z;cases z)
  rw[hn]at e;cases e
 rcases r6 with h | ⟨o,h⟩
 ·exact .inl (B _ _ h G)
 exact .inr ⟨o,B _ _ h G⟩
def whN (ps:List (List Tt)):Nat->List Wl->List Int
 | _,[]=>[]
 | n,W::r=>(if CK W ps then [(n:Int)]else [])++whN ps (n+1) r
theorem JX (ps:List (List Tt)):∀(n:Nat) (L:List Wl) (W:Wl),whN ps n (L++[W])=whN ps n L++(if CK W ps then [((n+L.length:Nat):Int)]else [])
 | n,[],W=>by simp[whN]
 | n,a::r,W=>by show _++whN ps (n+1) (r++[W])=_++whN ps (n+1) r++_;rw[JX ps (n+1) r W,show n+1+r.length=n+(a::r).length by rw[BU];lia,B4]
theorem Pf (ps:List (List Tt)):∀(n:Nat) (L:List Wl),(whN ps n L).length<=L.length
 | _,[]=>An _
 | n,W::r=>by have:=Pf ps (n+1) r;rw[whN,AM,BU];split <;> simp <;> lia
theorem Pg (ps:List (List Tt)):∀(n:Nat) (L:List Wl),∀x∈whN ps n L,(n:Int)<=x/\x<((n+L.length:Nat):Int)
 | _,[],x,h=>nomatch h
 | n,W::r,x,h=>by
  rcases(Br.mp h)with h | h
  ·split at h
   ·cases AF.mp h;rw[BU];exact⟨Int.le_refl _,Ψ⟩
   cases h
  obtain⟨a,b⟩:=Pg ps (n+1) r x h;rw[BU];exact⟨Ψ,Ψ⟩
inductive PJ (C CT CH:Addr)(vs:List V)(H:Hp)(Q:VK)(E0_:XK):Prop
 | mk (z:Addr) (rs:List Ro) (L:List Wl) (ds:List Dee) (ls:List Loo) (ps:List (List Tt)) (c0:vs=[.ref z,.str (AE ps)]) (c1:AtL C CT CH H z rs L ds ls) (c2:Good rs) (c3:Cd rs ps) (c4:(∀W∈L,Ci rs W)) (c5:L.length<=200) (c6:(BD rs).length<=1) (c7:∀H':Hp,(∀c u,H c=some u->(∀kvs,u≠.dT kvs)->H' c=some u)->AtL C CT CH H' z rs L ds ls->Q (.int (bt (whN ps 0 L):Nat)) H'):PJ C CT CH vs H Q E0_
def ChAt.kT (h:ChAt C H x m ds ls)(k:∀c u,H c=some u->(∀kvs,u≠.dT kvs)->H' c=some u):ChAt C H' x m ds ls:=by obtain⟨s,p,o,a,q,d,L,j,y,D,F,B,A,G,l,I,i,E,g,k1,k2,k3,n,k5⟩:=h.ex;have f:∀b xs,H b=some (.tup xs)->H' b=some (.tup xs):=λb xs e=>k _ _ e (λ_ z=>nomatch z);exact⟨s,p,o,a,q,d,L,j,y,D,F,B,A,k _ _ G (λ_ z=>nomatch z),k _ _ l (λ_ z=>nomatch z),k _ _ I (λ_ z=>nomatch z),k _ _ i (λ_ z=>nomatch z),k _ _ E (λ_ z=>nomatch z),k _ _ g (λ_ z=>nomatch z),k1,k2.mono λv d _ r=>OuV.keep f r,k3.mono λv d _ r=>AnV.keep f r,n.mono λv d _ r=>PaV.keep f (λb o xs e=>k _ _ e (λ_ z=>nomatch z)) r,k5⟩
abbrev Ly:List Str:=["self", "fact"]
abbrev lZ:List Str:=BG Ly ["room"]
def scAtlasWhere:Aw lZ Ly (Ak NK):=AA
def iE (F:Fun K "where" "Atlas.where" NK f fd)(T:Bl mg)(LT:HR K CT)(I:Ca P w K mg base CX0 7 "holds" Kl Lc (Qq C))(m:Ca P w K mg base CX0 1 "set_of" FX Fm (GC K)):Aj P w K mg base CX0 8 f fd Ly (PJ C CT CH):=by
 refine F.oq scAtlasWhere λa6 A a3 s H vs Q E a2 h=>?_;obtain⟨z,rs,L,ds,ls,ps,rfl,at',g,a1,W,a4,n1,q⟩:=h;have a5:=AB;obtain⟨dz,x,d,y,hz,ro,hd,ca⟩:=at'.ex;refine⟨_,(Ai (Es (i:=2) scAtlasWhere.nd U (DN U) (CA (pv 0) U)) (Al (Av (Az m (a2.mono Ξ) Aq (Aa (B1 (sc:=Ak NK) (own:=["world", "number"]) (js:=[2,1]) BA U (bO (bZ (CA (pv 0) U))) (λ_ _ _ _=>Oi K U (GO (n:=2) U (DG (A0 (i:=0) (show List.Nodup (["world", "number", "room", "fact"]:List Str) by decide +kernel)) (DG (A0 (i:=1) (show List.Nodup (["world", "number", "room", "fact"]:List Str) by decide +kernel)) GN)))) (λ_ _ _ _=>GM (CS (Az I (a2.mono Ξ) Aq (Aa (pv 2) (Aa (pv 3) (Aa (pv 0) Ac)))))) (λ_ _ _ _=>(pv 1))) Ac))))),?_⟩;refine⟨_,U,z,CT,dz,_,_,U,hz,LT.cl,LT.n1,Wc x d y,_,U,z,CT,dz,_,_,U,hz,LT.cl,LT.n2,qU x d y,d,_,U,hd,λv hv=>?_⟩;have s1:Same H (upd H v (BO v d)):=Same.new hv;rcases id hd with B | ⟨o,B⟩
 ·refine⟨v,d,_,U,Af,.inl ⟨s1 _ _ B,λo D hD=>?_⟩⟩;have kp:∀c u,H c=some u->c≠d->(upd (upd H v (BO v d)) d (.frz o (.dT (Bz 0 L)))) c=some u:=λc u e r=>by rw[Ao r];exact s1 _ _ e
  have R:∀c u,H c=some u->(∀kvs,u≠.dT kvs)->(upd (upd H v (BO v d)) d (.frz o (.dT (Bz 0 L)))) c=some u:=λc u e r=>kp c u e (Ba e B (r _));have S:(upd (upd H v (BO v d)) d (.frz o (.dT (Bz 0 L)))) d=some (.frz o (.dT (Bz 0 L))):=Af;generalize (upd (upd H v (BO v d)) d (.frz o (.dT (Bz 0 L))))=H2 at kp R S hD ⊢;have M:=ro.keepT hd kp;refine Od (λi ys a=>ys=(whN ps 0 (L.take i)).map V.int/\Same H2 a/\a D=some (.lst ys)) ⟨U,Same.new hD,Af⟩ (λi ys a l j=>by obtain⟨_,s3,_⟩:=j;exact⟨by rw[Dn];exact l,s3 _ _ S⟩) (λys a j=>by obtain⟨_,s3,_⟩:=j;exact⟨by rw[Dn];exact An _,s3 _ _ S⟩) ?_ ?_
  ·rintro i ys a xx H4 l ⟨rfl,s3,e3⟩ ⟨p,k,b,v',rfl,hp,rfl,hk,rb⟩;have X:=Ay l;have hm:=Cb l;rw[G4 X]at hk;cases hk;have N:Same a (upd a p (.tup [.ref b,.int ((0+i:Nat):Int)])):=Same.new hp;refine⟨p,_,_,U,SqT.of Af,_,U,_,U,_,U,x,rs,.ref b,L[i],ps,U,(M.same s3).same N,a1,?_,⟨g,(W _ hm).1,(W _ hm).2,n1⟩,λH5 s5=>?_⟩
   ·exact Iv (rb.same λb xs e=>N _ _ e).rd
   refine⟨_,U,?_⟩;have e5:=s5 _ _ (N _ _ e3);have G:=BN l;have a0:=Pf ps 0 (L.take i);rw[Bm]at a0;refine Bq (λhB=>?_) (λhB=>?_)
   ·refine⟨_,U,_,e5,by rw[Ah];lia,?_,((s3.trans N).trans s5).put hD,Af⟩;rw[G,JX,As hB,AR,Bm,Mi (FH l)];rfl
   exact⟨by rw[G,JX,Ag hB,BC],(s3.trans N).trans s5,e5⟩
  rintro ys a ⟨rfl,s3,e3⟩;rw[BQ]at e3;refine⟨D,whN ps 0 L,U,Y.of e3,λn hn=>?_,q a (λc u e r=>s3 _ _ (R c u e r)) ⟨dz,x,d,y,s3 _ _ (R _ _ hz λ_ z=>nomatch z),M.same s3,.inr ⟨o,s3 _ _ S⟩,ca.kT λc u e r=>s3 _ _ (R c u e r)⟩⟩;have:=Pg ps 0 L n hn;exact⟨Ψ,Ψ⟩
 refine⟨v,d,_,U,Af,.inr ⟨o,s1 _ _ B,λD hD=>?_⟩⟩;have kp:∀c u,H c=some u->c≠d->(upd H v (BO v d)) c=some u:=λc u e r=>s1 _ _ e;have R:∀c u,H c=some u->(∀kvs,u≠.dT kvs)->(upd H v (BO v d)) c=some u:=λc u e r=>s1 _ _ e;have S:=s1 _ _ B;generalize (upd H v (BO v d))=H2 at kp R S hD ⊢;have M:=ro.keepT hd kp;refine Od (λi ys a=>ys=(whN ps 0 (L.take i)).map V.int/\Same H2 a/\a D=some (.lst ys)) ⟨U,Same.new hD,Af⟩ (λi ys a l j=>by obtain⟨_,s3,_⟩:=j;exact⟨by rw[Dn];exact l,s3 _ _ S⟩) (λys a j=>by obtain⟨_,s3,_⟩:=j;exact⟨by rw[Dn];exact An _,s3 _ _ S⟩) ?_ ?_
 ·rintro i ys a xx H4 l ⟨rfl,s3,e3⟩ ⟨p,k,b,v',rfl,hp,rfl,hk,rb⟩;have X:=Ay l;have hm:=Cb l;rw[G4 X]at hk;cases hk;have N:Same a (upd a p (.tup [.ref b,.int ((0+i:Nat):Int)])):=Same.new hp;refine⟨p,_,_,U,SqT.of Af,_,U,_,U,_,U,x,rs,.ref b,L[i],ps,U,(M.same s3).same N,a1,?_,⟨g,(W _ hm).1,(W _ hm).2,n1⟩,λH5 s5=>?_⟩
  ·exact Iv (rb.same λb xs e=>N _ _ e).rd
  refine⟨_,U,?_⟩;have e5:=s5 _ _ (N _ _ e3);have G:=BN l;have a0:=Pf ps 0 (L.take i);rw[Bm]at a0;refine Bq (λhB=>?_) (λhB=>?_)
  ·refine⟨_,U,_,e5,by rw[Ah];lia,?_,((s3.trans N).trans s5).put hD,Af⟩;rw[G,JX,As hB,AR,Bm,Mi (FH l)];rfl
  exact⟨by rw[G,JX,Ag hB,BC],(s3.trans N).trans s5,e5⟩
 rintro ys a ⟨rfl,s3,e3⟩;rw[BQ]at e3;refine⟨D,whN ps 0 L,U,Y.of e3,λn hn=>?_,q a (λc u e r=>s3 _ _ (R c u e r)) ⟨dz,x,d,y,s3 _ _ (R _ _ hz λ_ z=>nomatch z),M.same s3,.inr ⟨o,s3 _ _ S⟩,ca.kT λc u e r=>s3 _ _ (R c u e r)⟩⟩;have:=Pg ps 0 L n hn;exact⟨Ψ,Ψ⟩
def qV (x d y:Addr):(g3 x d y).lookup ("made_chart" : Str)=some (.ref y):=by unfold g3;rw[A3,As rfl]
inductive MP (C CT CH:Addr)(vs:List V)(H:Hp)(Q:VK)(E0_:XK):Prop
 | mk (z:Addr) (rs:List Ro) (L:List Wl) (ds:List Dee) (ls:List Loo) (c0:vs=[.ref z]) (c1:AtL C CT CH H z rs L ds ls) (c2:∀x,RoomAt C H x rs->Q (.ref x) H):MP C CT CH vs H Q E0_
inductive QN (C CT CH:Addr)(vs:List V)(H:Hp)(Q:VK)(E0_:XK):Prop
 | mk (z:Addr) (rs:List Ro) (L:List Wl) (ds:List Dee) (ls:List Loo) (c0:vs=[.ref z]) (c1:AtL C CT CH H z rs L ds ls) (c2:∀y,ChAt CH H y L.length ds ls->Q (.ref y) H):QN C CT CH vs H Q E0_
abbrev Ry:List Str:=["self"]
abbrev mF:List Str:=Ry
def ZZ:Aw mF Ry (Ak Ra):=AA
def iF (F:Fun K "room" "Atlas.room" Q9 f fd)(L:HR K CT):Aj P w K mg base CX0 1 f fd ["self"] (MP C CT CH):=by refine F.oq ZX ?_;rintro b A a s H vs Q E h⟨z,rs,i,ds,g,rfl,at',q⟩;obtain⟨c,x,d,y,hz,e,j,l⟩:=at'.ex;exact⟨_,(Al (Av (CA (pv 0) U))),_,U,z,CT,c,_,_,U,hz,L.cl,L.n1,Wc x d y,q x e⟩
def iI (F:Fun K "chart" "Atlas.chart" Ra f fd)(L:HR K CT):Aj P w K mg base CX0 1 f fd ["self"] (QN C CT CH):=by refine F.oq ZZ ?_;rintro b A a s H vs Q E h⟨z,rs,i,ds,g,rfl,at',q⟩;obtain⟨c,x,d,y,hz,j,l,e⟩:=at'.ex;exact⟨_,(Al (Av (CA (pv 0) U))),_,U,z,CT,c,_,_,U,hz,L.cl,L.n3,qV x d y,q y e⟩
structure JV (K:W.Frag)(C:Addr):Prop where
 cl:Cls K C
 n1:NoAttr K C "told_chart"
 n2:NoAttr K C "told_goal"
 n3:NoAttr K C "told_keep"
def e1 (c:Addr):List (Str×V):=L2.putF "told_chart" (.ref c) []
def e2 (c:Addr)(g:Nat):List (Str×V):=L2.putF "told_goal" (.int (g:Int)) (e1 c)
def e3 (c:Addr)(g k:Nat):List (Str×V):=L2.putF "told_keep" (.int (k:Int)) (e2 c g)
def LW {k:Nat}{n:Str}(h:n∉(["told_chart", "told_goal", "told_keep"]:List Str)):(e3 c g k).lookup n=none:=by simp[Ar,AS,AQ,E6]at h;obtain⟨b,d,a⟩:=h;unfold e3 e2 e1;rw[A3,Ag a,A3,Ag d,A3,Ag b];rfl
def rX {k:Nat}:(e3 c g k).lookup ("told_chart" : Str)=some (.ref c):=by unfold e3 e2 e1;rw[A3,Ag Δ,A3,Ag Δ,A3,As rfl]
def rW {k g:Nat}:(e3 c g k).lookup ("told_goal" : Str)=some (.int (g:Int)):=by unfold e3 e2;rw[A3,Ag Δ,A3,As rfl]
def rV {k:Nat}:(e3 c g k).lookup ("told_keep" : Str)=some (.int (k:Int)):=by unfold e3;rw[A3,As rfl]
inductive JU (CE C:Addr)(H:Hp)(x:Addr)(m:Nat)(ds:List Dee)(ls:List Loo)(g k:Nat):Prop
 | mk (dx c:Addr) (hx:H x=some (.ins CE dx (e3 c g k))) (hc:ChAt C H c m ds ls):JU CE C H x m ds ls g k
def Jg {f:Str}(h:f∉(["many", "prices", "told_outs", "told_answers", "told_parts", "told_doable"]:List Str)):(f6 m p o a q d).lookup f=none:=by simp[Ar,AS,AQ,E6]at h;obtain⟨e,j,b,g,i,c⟩:=h;unfold f6 f5 f4 f3 f2 f1;rw[A3,Ag c,A3,Ag i,A3,Ag g,A3,Ag b,A3,Ag j,A3,Ag e];rfl
def Wn :(f6 m p o a q d).lookup ("prices" : Str)=some (.ref p):=by unfold f6 f5 f4 f3 f2;rw[A3,Ag Δ,A3,Ag Δ,A3,Ag Δ,A3,Ag Δ,A3,As rfl]
def rM :(f6 m p o a q d).lookup ("told_outs" : Str)=some (.ref o):=by unfold f6 f5 f4 f3;rw[A3,Ag Δ,A3,Ag Δ,A3,Ag Δ,A3,As rfl]
def rN :(f6 m p o a q d).lookup ("told_answers" : Str)=some (.ref a):=by unfold f6 f5 f4;rw[A3,Ag Δ,A3,Ag Δ,A3,As rfl]
def ChAt.same (h:ChAt C H x m ds ls)(s:Same H H'):ChAt C H' x m ds ls:=h.kT λc u e _=>s _ _ e
def KA.keysS {b:Type}{nm:b->Str}{R:V->b->Prop}{kvs:List (Key×V)}{ds:List b}(h:KA nm R kvs ds):kvs.map (λa=>kV a.1)=(ds.map nm).map V.str:=by
 have e:kvs.map (λa=>kV a.1)=(kvs.map (·.1)).map kV:=by rw[Bk];rfl
 rw[e,h.keysE,Bk,Bk];rfl
def Jk (m:Nat):bt ((List.range m).map λi:Nat=>(i:Int))=2^m-1:=by
 refine eq_of_testBit_eq λi=>?_;rw[uI,Nat.testBit_two_pow_sub_one,EI,Hn,Ej];constructor
 ·rintro⟨w,b,e⟩;obtain⟨j,a,rfl⟩:=AK.mp b;have:=Dz.mp a;simp at e;lia
 intro h;exact⟨(i:Int),AK.mpr ⟨i,Dz.mpr h,U⟩,Θ⟩
def RN (m:Nat):Option Nat->Nat
 | none=>2^m-1
 | some k=>k
def oP:Option Nat->V
 | none=>.non
 | some k=>.int (k:Int)
inductive Qz (CE CC:Addr)(vs:List V)(H:Hp)(Q:VK)(E0_:XK):Prop
 | mk (y dy c:Addr) (g m:Nat) (ds:List Dee) (ls:List Loo) (o:Option Nat) (H0:Hp) (c0:vs=[.ref y,.ref c,.int (g:Int),oP o]) (c1:H y=some (.ins CE dy [])) (c2:H0 y=none) (c3:Same H0 H) (c4:ChAt CC H0 c m ds ls) (c5:m<=200) (c6:∀H':Hp,(∀a u,H a=some u->a≠y->H' a=some u)->H' y=some (.ins CE dy (e3 c g (RN m o)))->Q .non H'):Qz CE CC vs H Q E0_
inductive QB (CE C:Addr)(vs:List V)(H:Hp)(Q:VK)(E0_:XK):Prop
 | mk (x:Addr) (m:Nat) (ds:List Dee) (ls:List Loo) (g k:Nat) (c0:vs=[.ref x]) (c1:JU CE C H x m ds ls g k) (c2:∀c,ChAt C H c m ds ls->Q (.ref c) H):QB CE C vs H Q E0_
inductive QA (CE C:Addr)(vs:List V)(H:Hp)(Q:VK)(E0_:XK):Prop
 | mk (x:Addr) (m:Nat) (ds:List Dee) (ls:List Loo) (g k:Nat) (c0:vs=[.ref x]) (c1:JU CE C H x m ds ls g k) (c2:Q (.int (g:Int)) H):QA CE C vs H Q E0_
inductive Qy (CE C:Addr)(vs:List V)(H:Hp)(Q:VK)(E0_:XK):Prop
 | mk (x:Addr) (m:Nat) (ds:List Dee) (ls:List Loo) (g k:Nat) (c0:vs=[.ref x]) (c1:JU CE C H x m ds ls g k) (c2:Q (.int (k:Int)) H):Qy CE C vs H Q E0_
inductive MO (C:Addr)(vs:List V)(H:Hp)(Q:VK)(E0_:XK):Prop
 | mk (x:Addr) (m:Nat) (ds:List Dee) (ls:List Loo) (c0:vs=[.ref x]) (c1:ChAt C H x m ds ls) (c2:Q (.int (m:Int)) H):MO C vs H Q E0_
inductive QE (C:Addr)(vs:List V)(H:Hp)(Q:VK)(E0_:XK):Prop
 | mk (x:Addr) (m:Nat) (ds:List Dee) (ls:List Loo) (c0:vs=[.ref x]) (c1:ChAt C H x m ds ls) (c2:∀(l:Addr) (H':Hp),Same H H'->H l=none->H' l=some (.lst ((ds.map Dee.name).map V.str))->Q (.ref l) H'):QE C vs H Q E0_
inductive Qg (C:Addr)(vs:List V)(H:Hp)(Q:VK)(E0_:XK):Prop
 | mk (x:Addr) (m:Nat) (ds:List Dee) (ls:List Loo) (c0:vs=[.ref x]) (c1:ChAt C H x m ds ls) (c2:∀(l:Addr) (H':Hp),Same H H'->H l=none->H' l=some (.lst ((ls.map Loo.name).map V.str))->Q (.ref l) H'):Qg C vs H Q E0_
inductive QF (C:Addr)(vs:List V)(H:Hp)(Q:VK)(E0_:XK):Prop
 | mk (x:Addr) (m:Nat) (ds:List Dee) (ls:List Loo) (s:Str×Int) (c0:vs=[.ref x,.str s.1]) (c1:ChAt C H x m ds ls) (c2:(ds.map Dee.name++ls.map Loo.name).Nodup) (c3:s∈CF ds ls) (c4:Q .non H):QF C vs H Q E0_
inductive P4 (C:Addr)(vs:List V)(H:Hp)(Q:VK)(E0_:XK):Prop
 | mk (x:Addr) (m:Nat) (ds:List Dee) (ls:List Loo) (s:Str×Int) (c0:vs=[.ref x,.str s.1]) (c1:ChAt C H x m ds ls) (c2:(ds.map Dee.name++ls.map Loo.name).Nodup) (c3:s∈CF ds ls) (c4:Q (.int s.2) H):P4 C vs H Q E0_
abbrev NW:List Str:=["self", "chart", "goal", "keep"]
abbrev kX:List Str:=NW
def ZE:Aw kX NW (Ak Km):=AA
abbrev Lf:List Str:=["self"]
abbrev kZ:List Str:=Lf
def ZG:Aw kZ Lf (Ak Q3):=AA
abbrev Le:List Str:=["self"]
abbrev kY:List Str:=Le
def ZF:Aw kY Le (Ak Q2):=AA
abbrev Ld:List Str:=["self"]
abbrev kW:List Str:=Ld
def ZD:Aw kW Ld (Ak Q0):=AA
abbrev IU:List Str:=["self"]
abbrev lP:List Str:=IU
def ZO:Aw lP IU (Ak Q4):=AA
abbrev Lq:List Str:=["self"]
abbrev lU:List Str:=Lq
def ZS:Aw lU Lq (Ak Q7):=AA
abbrev Ln:List Str:=["self"]
abbrev lS:List Str:=Ln
def ZQ:Aw lS Ln (Ak Q6):=AA
abbrev Lr:List Str:=["self", "name"]
abbrev lV:List Str:=Lr
def ZU:Aw lV Lr (Ak Q8):=AA
abbrev Ll:List Str:=["self", "name"]
abbrev lQ:List Str:=Ll
def ZP:Aw lQ Ll (Ak Q5):=AA
def dN (F:Fun K "size" "Chart.size" Q4 f fd)(L:FP K C):Aj P w K mg base CX0 1 f fd IU (MO C):=by refine F.oq ZO ?_;rintro g A b s H vs Q E I⟨x,m,ds,h,rfl,R,q⟩;obtain⟨c,p,o,a,n,d,N,l,v,B,G,z,y,e,r,M,j,D,i,k1,k2,k3,u,k5⟩:=R.ex;exact⟨_,(Al (Av (CA (pv 0) U))),_,U,x,C,c,_,_,U,e,L.cl,L.n1,Wp,q⟩
def gX (F:Fun K "deed_names" "Chart.deed_names" Q7 f fd)(L:FP K C)(T:Bl mg):Aj P w K mg base CX0 1 f fd Lq (QE C):=by refine F.oq ZS ?_;rintro j A b s H vs Q E S⟨x,m,ds,r,rfl,R,q⟩;obtain⟨g,p,o,a,y,d,W,e,D,I,N,h,G,i,z,n,v,M,u,k1,k2,k3,B,k5⟩:=R.ex;refine⟨_,(Al (Av (CG (Ou U) Φ T.list DX (Aa (CA (pv 0) U) Ac)))),_,U,x,C,g,_,_,U,i,L.cl,L.n3,rM,o,e,U,.inr ⟨h,n⟩,λl c=>?_⟩;exact q l _ (Same.new c) c (by rw[Af,k2.keysS])
def fG (F:Fun K "look_names" "Chart.look_names" Q6 f fd)(L:FP K C)(T:Bl mg):Aj P w K mg base CX0 1 f fd Ln (Qg C):=by refine F.oq ZQ ?_;rintro n A b s H vs Q E N⟨x,m,ds,r,rfl,R,q⟩;obtain⟨g,p,o,a,y,d,W,v,h,G,M,D,i,j,z,S,e,I,u,k1,k2,k3,B,k5⟩:=R.ex;refine⟨_,(Al (Av (CG (Ou U) Φ T.list DX (Aa (CA (pv 0) U) Ac)))),_,U,x,C,g,_,_,U,j,L.cl,L.n4,rN,a,h,U,.inr ⟨i,e⟩,λl c=>?_⟩;exact q l _ (Same.new c) c (by rw[Af,k3.keysS])
def gY (F:Fun K "check_step" "Chart.check_step" Q8 f fd)(L:FP K C):Aj P w K mg base CX0 1 f fd Lr (QF C):=by
 refine F.oq ZU λu A c s H vs Q E r h=>?_;obtain⟨x,m,ds,e,st,rfl,R,z,l,q⟩:=h;obtain⟨i,p,o,a,I,d,y,G,S,X,kd,W,T,n,g,h3,D,h5,B,k1,k2,k3,M,k5⟩:=R.ex;refine⟨_,(Al (AY (Kw (NV (Dh r) (pv 1) (CA (pv 0) U))) B6 AX)),?_⟩;have b:((CF ds e).map λs:Str×Int=>s.1).Nodup:=by rw[Pw];exact z
 obtain⟨v,j,N⟩:=k1.val b l;refine⟨_,U,_,U,x,C,i,_,_,U,n,L.cl,L.n2,Wn,p,_,U,.inl ⟨y,(Sum.inr st.1:Key),.inl g,U,j.symm⟩,_,U,?_⟩;exact A7 q
def eN {f1:Addr} (F:Fun K "price_of" "Chart.price_of" Q5 f fd)(L:FP K C)(e:Binds K d1 ["self", "name"] [])(c:B5 K C "check_step" f1)(b:Aj P w K mg base CX0 1 f1 d1 Lr (QF C)):Aj P w K mg base CX0 2 f fd Ll (P4 C):=by
 refine F.oq ZP λI A j s H vs Q E g h=>?_;obtain⟨x,m,ds,l,st,rfl,R,y,r,q⟩:=h;have B:=Dh g;have D:=R;obtain⟨n,p,o,a,W,d,M,T,ka,kq,kd,o1,o2,u,z,h3,S,h5,N,k1,k2,k3,X,k5⟩:=R.ex;refine⟨_,(Ai (CV (Kz (pv 0) L.cl c b g e .nil Aq (Aa (pv 1) Ac))) (Al (Av (Ru B (CA (pv 0) U) (pv 1) (λ_ _=>U))))),_,U,x,n,_,U,u,Jg Δ,_,U,x,m,ds,l,st,U,D,y,r,?_⟩;have i:((CF ds l).map λs:Str×Int=>s.1).Nodup:=by rw[Pw];exact y
 obtain⟨v,G,rfl⟩:=k1.val i r;exact⟨_,U,x,C,n,_,_,U,u,L.cl,L.n2,Wn,_,U,p,_,U,.inl ⟨M,(Sum.inr st.1:Key),.inl z,U,G.symm⟩,q⟩
def gQ {CE f2:Addr} (F:FunD K "__init__" "Errand.__init__" Km f fd TD)(L:FP K CC)(v:JV K CE)(T:Bl mg)(b:Ca P w K mg base CX0 1 "set_of" FX Fm (GC K))(l:Binds K d2 ["self"] [])(i:B5 K CC "size" f2)(r:Aj P w K mg base CX0 1 f2 d2 IU (MO CC)):Aj P w K mg base CX0 2 f fd NW (Qz CE CC):=by
 refine F.ok ZE (λvs H Q E h=>?_) (λa0 A M s H vs Q E B h=>?_)
 ·obtain⟨y,d,c,g,m,ds,N,o,X,rfl,_⟩:=h;rfl
 obtain⟨y,d,c,g,m,ds,N,o,X,rfl,R,h0,sH,ch,m2,q⟩:=h;refine⟨_,(Ai (DF (pv 0) (pv 1) U) (Ai (DF (pv 0) (pv 2) U) (Al (DF (pv 0) (Fk (AN IZ (pv 3) CW (AJ _)) (Az b B Aq (Aa (bW U Φ T.list DX Φ T.range (Aa (Cr (pv 1) L.cl i r B l .nil Aq) Ac)) Ac)) (pv 3)) U)))),_,U,_,U,y,CE,d,_,U,R,v.cl,v.n1,by show 0<1000;decide,?_⟩;refine⟨_,U,_,U,y,CE,d,_,U,Af,v.cl,v.n2,by show 1<1000;decide,?_⟩;have ky:∀a u,H a=some u->a≠y->(upd (upd H y (.ins CE d (L2.putF "told_chart" (.ref c) []))) y (.ins CE d (L2.putF "told_goal" (.int (g:Int)) (L2.putF "told_chart" (.ref c) [])))) a=some u:=λa u z n=>by rw[Ao n,Ao n];exact z
 have C:(upd (upd H y (.ins CE d (L2.putF "told_chart" (.ref c) []))) y (.ins CE d (L2.putF "told_goal" (.int (g:Int)) (L2.putF "told_chart" (.ref c) [])))) y=some (.ins CE d (e2 c g)):=Af;generalize (upd (upd H y (.ins CE d (L2.putF "told_chart" (.ref c) []))) y (.ins CE d (L2.putF "told_goal" (.int (g:Int)) (L2.putF "told_chart" (.ref c) []))))=H2 at ky C ⊢;cases o with
 | some k=>refine⟨_,U,U,_,U,?_⟩;refine A7 ⟨_,U,_,U,y,CE,d,_,U,C,v.cl,v.n3,by show 2<1000;decide,?_⟩;exact q _ (λa u e n=>by rw[Ao n];exact ky a u e n) Af
 | none=>
  refine⟨_,U,U,_,U,?_⟩;refine Bw ?_;have x:=ch.same (λa u z=>ky a u (sH _ _ z) (A1 z h0));obtain⟨I,p',o',a',q',d',S,ko,ka,kq,kd,o1,o2,G,_⟩:=x.ex;refine⟨_,U,c,I,_,U,G,Jg Δ,c,m,ds,N,U,x,m,U,Ψ,λp D=>?_⟩;have W:p≠y:=λz=>by rw[z,C]at D;cases D
  refine⟨p,_,U,Y.of Af,λn hn=>?_,?_⟩
  ·obtain⟨j,hj,rfl⟩:=AK.mp hn;have:=Dz.mp hj;lia
  rw[Jk];refine⟨_,U,y,CE,d,_,U,(Ao W.symm).trans C,v.cl,v.n3,by show 2<1000;decide,?_⟩;exact q _ (λa u e n=>by rw[Ao n,Ao λz=>by rw[z]at e n;rw[ky p u e n]at D;cases D];exact ky a u e n) Af
def gS {CE:Addr} (F:Fun K "chart" "Errand.chart" Q3 f fd)(b:JV K CE):Aj P w K mg base CX0 1 f fd Lf (QB CE C):=by refine F.oq ZG ?_;rintro d A a s H vs Q E l⟨x,m,ds,j,g,k,rfl,⟨i,c,e,h⟩,q⟩;exact⟨_,(Al (Av (CA (pv 0) U))),_,U,x,CE,i,_,_,U,e,b.cl,b.n1,rX,q c h⟩
def gR {CE:Addr} (F:Fun K "goal" "Errand.goal" Q2 f fd)(b:JV K CE):Aj P w K mg base CX0 1 f fd Le (QA CE C):=by refine F.oq ZF ?_;rintro d A a s H vs Q E j⟨x,m,ds,i,g,k,rfl,⟨h,c,e,l⟩,q⟩;exact⟨_,(Al (Av (CA (pv 0) U))),_,U,x,CE,h,_,_,U,e,b.cl,b.n2,rW,q⟩
def gM {CE:Addr} (F:Fun K "keep" "Errand.keep" Q0 f fd)(b:JV K CE):Aj P w K mg base CX0 1 f fd Ld (Qy CE C):=by refine F.oq ZD ?_;rintro d A a s H vs Q E j⟨x,m,ds,i,g,k,rfl,⟨h,c,e,l⟩,q⟩;exact⟨_,(Al (Av (CA (pv 0) U))),_,U,x,CE,h,_,_,U,e,b.cl,b.n3,rV,q⟩
def Kt (H H':Hp):Prop:=∀c u,H c=some u->(∀kvs,u≠.dT kvs)->H' c=some u
def Kt.of (s:Same H H'):Kt H H':=λc u e _=>s _ _ e
def Kt.trans (h:Kt H H1)(h':Kt H1 H2):Kt H H2:=λc u e n=>h' c u (h c u e n) n
def AtL.same (h:AtL C CT CH H z rs L ds ls)(s:Same H H'):AtL C CT CH H' z rs L ds ls:=by obtain⟨c,x,d,y,hz,a,b,e⟩:=h.ex;exact⟨c,x,d,y,s _ _ hz,a.same s,GJ s b,e.same s⟩
inductive Qw (C CT CH CE:Addr)(vs:List V)(H:Hp)(Q:VK)(E0_:XK):Prop
 | mk (z:Addr) (rs:List Ro) (L:List Wl) (ds:List Dee) (ls:List Loo) (p:List (List Tt)) (o:Option (List (List Tt))) (c0:vs=[.ref z,.str (E1 p o)]) (c1:AtL C CT CH H z rs L ds ls) (c2:Good rs) (c3:Cd rs p) (c4:(∀q,o=some q->Cd rs q)) (c5:(∀W∈L,Ci rs W)) (c6:L.length<=200) (c7:(BD rs).length<=1) (c8:∀(x:Addr) (H':Hp),Kt H H'->AtL C CT CH H' z rs L ds ls->JU CE CH H' x L.length ds ls (bt (whN p 0 L)) (RN L.length (o.map λq=>bt (whN q 0 L)))->Q (.ref x) H'):Qw C CT CH CE vs H Q E0_
abbrev GZ:List Str:=["atlas", "text"]
abbrev kU:List Str:=BG GZ ["facts", "keep"]
def scErrandOf:Aw kU GZ (Ak Ip):=AA
def Ha (x d y:Addr){m:Str}(h:m∉(["told_room", "numbers", "made_chart"]:List Str)):(g3 x d y).lookup m=none:=by simp[Ar,AS,AQ,E6]at h;obtain⟨b,c,a⟩:=h;unfold g3 g2 g1;rw[A3,Ag a,A3,Ag c,A3,Ag b];rfl
def gK {CE f1 f2 f3:Addr} (F:Fun K "errand_of" "errand_of" Ip f fd)(LT:HR K CT)(ME:L2.Mk K CE fE)(mE:mg "Errand" = some (.ref CE))(bE:Binds K dE ["self", "chart", "goal", "keep"] [])(GE:Aj P w K mg base CX0 2 fE dE NW (Qz CE CH))(M:Binds K d1 ["self"] [])(N:B5 K CT "room" f1)(S:Aj P w K mg base CX0 1 f1 d1 ["self"] (MP C CT CH))
  (v:Binds K d2 ["self"] [])(G:B5 K CT "chart" f2)(D:Aj P w K mg base CX0 1 f2 d2 ["self"] (QN C CT CH))(b:Binds K d3 ["self", "fact"] [])(j:B5 K CT "where" f3)(l:Aj P w K mg base CX0 8 f3 d3 Ly (PJ C CT CH))(a:Ca P w K mg base CX0 7 "read_errand" Ij GV (Qu C)):Aj P w K mg base CX0 9 f fd GZ (Qw C CT CH CE):=by
 refine F.oq scErrandOf λa8 A a6 s H vs Q E B h=>?_
 obtain⟨z,rs,L,ds,T,p,o,rfl,a2,g,fp,fo,a1,m,n1,q⟩:=h
 have a3:Room 1 _:=B.mono Ξ
 obtain⟨dz,x,d,y,hz,ro,hd,ca⟩:=a2.ex
 refine⟨_,(Ai (AO (i:=2) scErrandOf.nd (Az a (B.mono Ξ) Aq (Aa (Cr (pv 0) LT.cl N S a3 M .nil Aq) (Aa (pv 1) Ac)))) (Ai (AO (i:=3) scErrandOf.nd (Fk (AN IZ (Ap Bf (pv 2) Ad (λ_ _=>U)) CW (AJ _)) CW (Kz (pv 0) LT.cl j l B b .nil Aq (Aa (Ap Bf (pv 2) Ad (λ_ _=>U)) Ac)))) (Al (Av (NU ME GE (B.mono Ξ) Φ mE bE .nil Aq (Aa (Cr (pv 0) LT.cl G D a3 v .nil Aq) (Aa (Kz (pv 0) LT.cl j l B b .nil Aq (Aa (Ap Bf (pv 2) Ad (λ_ _=>U)) Ac)) (Aa (pv 3) Ac)))))))),?_⟩
 refine⟨_,U,z,dz,_,U,hz,Ha x d y Δ,z,rs,L,ds,T,U,a2,λx1 a4=>?_⟩
 refine⟨_,U,x1,rs,p,o,U,a4,g,fp,fo,λt H1 s1 e1=>?_⟩
 have W:=a2.same s1
 have w0:atI [V.str (AE p),oV (o.map AE)] ((0:Nat):Int)=some (.str (AE p)):=Au U
 have w1:atI [V.str (AE p),oV (o.map AE)] ((1:Nat):Int)=some (oV (o.map AE)):=Au U
 have k1:Kt H H1:=Kt.of s1
 cases o with
 | none=>refine⟨_,U,t,_,_,_,U,U,SqT.of e1,w1,U,_,U,?_⟩;refine Bw ⟨_,U,z,dz,_,U,s1 _ _ hz,Ha x d y Δ,z,rs,L,ds,T,U,W,λy1 r=>?_⟩;refine⟨_,U,z,dz,_,U,s1 _ _ hz,Ha x d y Δ,_,U,t,_,_,_,U,U,SqT.of e1,w0,z,rs,L,ds,T,p,U,W,g,fp,a1,m,n1,λH2 k2 R=>?_⟩;refine⟨_,U,λex I n a0 X=>?_⟩;have sF:Same H2 (upd (upd H2 I (.own ex)) ex (.ins CE I [])):=(Same.new a0).trans (Same.new ((Ao X.symm)▸n));refine⟨ex,I,y1,bt (whN p 0 L),L.length,ds,T,none,H2,U,Af,n,sF,r.kT k2,m,λH3 k3 e3=>?_⟩;have s3:=λc u e=>k3 c u (sF _ _ e) (A1 e n);exact⟨U,q ex H3 ((k1.trans k2).trans (Kt.of s3)) (R.same s3) ⟨I,y1,e3,(r.kT k2).same s3⟩⟩
 | some p2=>have a7:=fo p2 U;refine⟨_,U,t,_,_,_,U,U,SqT.of e1,w1,U,_,U,?_⟩;refine A7 ⟨_,U,z,dz,_,U,s1 _ _ hz,Ha x d y Δ,_,U,t,_,_,_,U,U,SqT.of e1,w1,z,rs,L,ds,T,p2,U,W,g,a7,a1,m,n1,λH2 k2 R=>?_⟩;have z2:=k2 _ _ (s1 _ _ hz) (λ_ z=>nomatch z);have t2:=k2 _ _ e1 (λ_ z=>nomatch z);refine⟨_,U,z,dz,_,U,z2,Ha x d y Δ,z,rs,L,ds,T,U,R,λy1 r=>?_⟩;refine⟨_,U,z,dz,_,U,z2,Ha x d y Δ,_,U,t,_,_,_,U,U,SqT.of t2,w0,z,rs,L,ds,T,p,U,R,g,fp,a1,m,n1,λH3 k3 a5=>?_⟩;refine⟨_,U,λex I n a0 X=>?_⟩;have sF:Same H3 (upd (upd H3 I (.own ex)) ex (.ins CE I [])):=(Same.new a0).trans (Same.new ((Ao X.symm)▸n));refine⟨ex,I,y1,bt (whN p 0 L),L.length,ds,T,some (bt (whN p2 0 L)),H3,U,Af,n,sF,r.kT k3,m,λH4 k4 e4=>?_⟩;have s4:=λc u e=>k4 c u (sF _ _ e) (A1 e n);exact⟨U,q ex H4 (((k1.trans k2).trans k3).trans (Kt.of s4)) (a5.same s4) ⟨I,y1,e4,(r.kT k3).same s4⟩⟩
def Mw (x y:Str):Nat->List Str->Prop
 | _,[]=>True
 | a,t::r=>(∀k,a<=k->k<a+t.length->¬StrLaws.At x y x.length k)/\Mw x y (a+t.length+y.length) r
open StrLaws in
theorem Vk (j:2<=y.length):∀(ts:List Str) (b:List Nat) (a f:Nat),ts≠[]->Mw x y a ts->(cs x).drop a=JS (cs y) (ts.map cs)->a<=x.length->ChainG x y x.length a b f->(∀k,f<=k->¬At x y x.length k)->partsFrom x y.length a b=ts
 | [],_,_,_,h,_,_,_,_,_=>absurd U h
 | [t],b,a,f,_,ht,hd,ha,hG,hn=>by
  have d:(cs x).drop a=cs t:=hd;have n:(cs x).length=x.length:=A8 x;have g:t.length=x.length-a:=by have:=A5 List.length d;rw[Dc,n,A8]at this;lia
  cases b with
  | cons c r=>have s:=hG.2.1.1;exact absurd hG.2.1 (ht.1 c hG.1 Ψ)
  | nil=>show [Builtin.Str.strSub x a x.length]=[t];congr 1;apply BF;show(Builtin.Str.strSub x a x.length).cps.toList=_;rw[strSub_toList,FA (by rw[Dc];show(cs x).length-a<=_;lia)];exact d
 | t::u::r,b,a,f,_,ht,hd,ha,hG,hn=>by
  have d:(cs x).drop a=cs t++(cs y++JS (cs y) ((u::r).map cs)):=hd;have n:(cs x).length=x.length:=A8 x;have l:(cs y).length=y.length:=A8 y;have g:(cs t).length=t.length:=A8 t;have m:x.length-a=t.length+(y.length+(JS (cs y) ((u::r).map cs)).length):=by have:=A5 List.length d;rw[Dc,AM,AM]at this;lia
  have i:At x y x.length (a+t.length):=by
   refine⟨Ψ,?_⟩;rw[subAt_eq];have e:((cs x).drop (a+t.length)).take y.length=cs y:=by rw[<- Gq,d,<- g,FN,<- l,OH]
   show(((cs x).drop (a+t.length)).take y.length == cs y)=true;rw[e];simp
  cases b with
  | nil=>have v:f=a:=hG;exact absurd i (hn _ Ψ)
  | cons c r'=>
   obtain⟨g1,g2,g3,q⟩:=hG
   have p:c=a+t.length:=by
    rcases SO c (a+t.length)with z | z | z
    ·exact absurd g2 (ht.1 c g1 z)
    ·exact z
    exact absurd i (g3 _ Ψ z)
   subst p;show Builtin.Str.strSub x a (a+t.length)::partsFrom x y.length (a+t.length+y.length) r'=t::u::r;have o:=Vk j (u::r) r' (a+t.length+y.length) f (Bo _ _) ht.2 (by rw[FM,<- Gq,d,<- B4,show t.length+y.length=(cs t++cs y).length by rw[AM];lia,FN]) Ψ q hn;rw[o];congr 1;apply BF;show(Builtin.Str.strSub x a (a+t.length)).cps.toList=_;rw[strSub_toList,show a+t.length-a=t.length by lia];show((cs x).drop a).take t.length=cs t;rw[d,<- g,OH]
open StrLaws in
def Ut (d:2<=y.length)(o:Builtin.Str.strKind y=1)(j:ts≠[])(m:cs x=JS (cs y) (ts.map cs))(g:Mw x y 0 ts):Txt.split x y=ts:=by
 obtain⟨f,b,l⟩:=occ_tight x y Ψ;have a:=Vk d ts _ 0 f j g (Ht▸m) (Bt _) b l;have one:partsFrom x y.length 0 []=[x]:=by show [Builtin.Str.strSub x 0 x.length]=[x];rw[sub_whole]
 unfold Txt.split;split
 ·rename_i e;(rw[OK,Ej,Ej]at e)
  have n:x.length<y.length:=by
   rcases e with h | h
   ·exact h
   exfalso;rw[o]at h
   have:1<=Builtin.Str.strKind x:=by
    unfold Builtin.Str.strKind;split
    ·lia
    split <;> lia
   lia
  cases ho:Builtin.Str.occurrences x y 0 x.length (x.length+1)with
  | nil=>rw[ho,one]at a;exact a
  | cons c r=>rw[ho]at b;have:=b.2.1.1;lia
 split
 ·rename_i i;rw[(List.isEmpty_iff.mp i),one]at a;exact a
 rw[partsBetween_eq];exact a
open StrLaws in
theorem Vy {x y w:Str}(f:32∉cs w)(e:cs w≠[])(c:cs y=32::(cs w++[32])):∀(ts:List Str) (a:Nat),(∀t∈ts,Tw w t)->(ts≠[]->(cs x).drop a=JS (cs y) (ts.map cs))->Mw x y a ts
 | [],_,_,_=>trivial
 | [t],a,ht,hd=>⟨λk d g=>Ge f e c (ht t (AF.mpr U)) (by rw[hd (Bo _ _)];rw[BC];rfl) (.inl U) d g,trivial⟩
 | t::u::r,a,ht,hd=>by have b:(cs x).drop a=cs t++(cs y++JS (cs y) ((u::r).map cs)):=hd (Bo _ _);refine⟨λk d g=>Ge f e c (ht t (Bb ..)) b (.inr ⟨_,by rw[c];rfl⟩) d g,Vy f e c (u::r) _ (λz hz=>ht z (Bc _ hz)) λ_=>?_⟩;have h:(cs t).length=t.length:=A8 t;have i:(cs y).length=y.length:=A8 y;rw[FM,<- Gq,b,<- B4,show t.length+y.length=(cs t++cs y).length by rw[AM];lia,FN]
open StrLaws in
def Y0 {w y t:Str}{ts:List Str}{ws:List Str}(o:32∉cs w)(n:cs w≠[])(d:cs y=32::(cs w++[32]))(G:Builtin.Str.strKind y=1)(q:t=Txt.join blank ws)(s:ws≠[])(B:∀v∈ws,32∉cs v)(F:w∉ws)(A:∀t∈ts,Tw w t):Txt.split (Txt.join y (Txt.join blank (w::ws)::ts)) y=Txt.join blank (w::ws)::ts:=by
 have f:(cs y).length=y.length:=A8 y;have c:(cs w).length=w.length:=A8 w;have D:y.length=w.length+2:=by rw[<- f,d];simp[c]
 have h:cs (Txt.join y (Txt.join blank (w::ws)::ts))=JS (cs y) ((Txt.join blank (w::ws)::ts).map cs):=Da _ _;refine Ut Ψ G (Bo _ _) h ?_;generalize Txt.join y (Txt.join blank (w::ws)::ts)=x at h;have j:cs (Txt.join blank (w::ws))=cs w++32::cs t:=by rw[B3,q,B3];exact En (xs:=[cs w]) (Bo _ _) (by simpa using s)
 have ct:cs (Txt.join blank (Str.empty::ws))=32::cs t:=by rw[B3,q,B3];exact En (xs:=[[]]) (Bo _ _) (by simpa using s)
 have L:Tw w (Txt.join blank (Str.empty::ws)):=⟨_,U,Bo _ _,λv i=>by
  rcases(Ar.mp i)with e | e
  ·rw[e];decide +kernel
  ·exact B v e,λi=>by
  rcases(Ar.mp i)with e | e
  ·exact n (by rw[e];rfl)
  exact F e⟩
 obtain⟨S,I,b⟩:∃S,(S=[]\/∃H,S=32::H)/\cs x=cs w++(32::cs t++S)/\(ts≠[]->S=cs y++JS (cs y) (ts.map cs)):=by
  cases ts with
  | nil=>exact⟨[],.inl U,by rw[h];show cs (Txt.join blank (w::ws))=_;rw[j];simp,λz=>absurd U z⟩
  | cons u r=>exact⟨_,.inr ⟨_,by rw[d];rfl⟩,by rw[h];show cs (Txt.join blank (w::ws))++(cs y++JS (cs y) ((u::r).map cs))=_;rw[j];simp,λ_=>U⟩
 have N:(Txt.join blank (w::ws)).length=w.length+1+t.length:=by rw[<- A8,j,<- A8,<- A8,AM,BU];lia
 have m:(Txt.join blank (Str.empty::ws)).length=1+t.length:=by rw[<- A8,ct,<- A8,BU];lia
 refine⟨λk _ Q=>?_,Vy o n d ts _ A λne=>?_⟩
 ·by_cases E:k<w.length
  ·intro C;have g:=C.2;rw[subAt_eq]at g;have M:((cs x).drop k).take y.length=cs y:=Gj g;have p:(cs x)[k]? = some 32:=by have:=A5 (λl:List Nat=>l[0]?) M;rw[d]at this;simp only[List.getElem?_take,List.getElem?_drop]at this;rw[As Ψ]at this;simpa using this
   rw[b.1,CQ Ψ]at p;exact o (Cc p)
  exact Ge (a:=w.length) o n d L (by rw[b.1,ct,<- c,FN]) I Ψ (by rw[m];lia)
 rw[b.1,b.2 ne,show 0+(Txt.join blank (w::ws)).length+y.length=(cs w++32::cs t++cs y).length by rw[N,AM,AM,BU,c,A8,f];lia];rw[show cs w++(32::cs t++(cs y++JS (cs y) (ts.map cs)))=(cs w++32::cs t++cs y)++JS (cs y) (ts.map cs) by simp,FN]
open StrLaws in
theorem RD {x y w t:Str}{ws:List Str}(g:32∉cs w)(f:cs w≠[])(c:cs y=32::(cs w++[32]))(n:t=Txt.join blank ws)(m:ws≠[])(q:∀v∈ws,32∉cs v)(o:w∉ws):∀(ts:List Str) (a:Nat),(∀t∈ts,Tw w t)->a<=x.length->(cs x).drop a=JS (cs y) ((ts++[Txt.join blank (ws++[w])]).map cs)->Mw x y a (ts++[Txt.join blank (ws++[w])])
 | [],a,_,ha,hd=>by
  have d:=A8 y;have p:(cs w).length=w.length:=A8 w;have i:(cs t).length=t.length:=A8 t;have h:(cs x).length=x.length:=A8 x;have C:y.length=w.length+2:=by rw[<- d,c];simp[p]
  have s:cs (Txt.join blank (ws++[w]))=cs t++32::cs w:=by rw[B3,n,B3,AR];exact En (ys:=[cs w]) (by simpa using m) (Bo _ _)
  have b:(cs x).drop a=cs t++32::cs w:=by rw[hd,<- s];rfl
  have j:=A5 List.length b;rw[Dc,AM,BU]at j;refine⟨λk e l=>?_,trivial⟩;by_cases B:k<a+t.length
  ·exact Ge g f c ⟨ws,n,m,q,o⟩ b (.inr ⟨_,U⟩) e B
  intro A;have:=A.1;lia
 | [u],a,ht,ha,hd=>by have b:(cs x).drop a=cs u++(cs y++JS (cs y) ([Txt.join blank (ws++[w])].map cs)):=hd;have i:(cs u).length=u.length:=A8 u;have d:(cs y).length=y.length:=A8 y;have h:(cs x).length=x.length:=A8 x;have j:=A5 List.length b;rw[Dc,AM,AM]at j;refine⟨λk e l=>Ge g f c (ht u (Bb ..)) b (.inr ⟨_,by rw[c];rfl⟩) e l,RD g f c n m q o [] _ (λz hz=>nomatch hz) Ψ ?_⟩;rw[FM,<- Gq,b,<- B4,show u.length+y.length=(cs u++cs y).length by rw[AM];lia,FN];rfl
 | u::v::r,a,ht,ha,hd=>by have b:(cs x).drop a=cs u++(cs y++JS (cs y) ((v::r++[Txt.join blank (ws++[w])]).map cs)):=hd;have i:(cs u).length=u.length:=A8 u;have d:(cs y).length=y.length:=A8 y;have h:(cs x).length=x.length:=A8 x;have j:=A5 List.length b;rw[Dc,AM,AM]at j;refine⟨λk e l=>Ge g f c (ht u (Bb ..)) b (.inr ⟨_,by rw[c];rfl⟩) e l,RD g f c n m q o (v::r) _ (λz hz=>ht z (Bc _ hz)) Ψ ?_⟩;rw[FM,<- Gq,b,<- B4,show u.length+y.length=(cs u++cs y).length by rw[AM];lia,FN]
def YZ {w y:Str}{ts:List Str}{ws:List Str}(g:32∉cs w)(f:cs w≠[])(a:cs y=32::(cs w++[32]))(i:Builtin.Str.strKind y=1)(h:ws≠[])(d:∀v∈ws,32∉cs v)(e:w∉ws)(c:∀t∈ts,Tw w t):Txt.split (Txt.join y (ts++[Txt.join blank (ws++[w])])) y=ts++[Txt.join blank (ws++[w])]:=by have b:cs (Txt.join y (ts++[Txt.join blank (ws++[w])]))=JS (cs y) ((ts++[Txt.join blank (ws++[w])]).map cs):=Da _ _;exact Ut (by rw[<- (A8 y),a];simp) i Θ b (RD g f a U h d e ts 0 c (Bt _) (Ht▸b))
structure EF (K:W.Frag)(mg:Str->Option Value)(G NN:Addr):Prop where
 mG:mg "GropeError" = some (.ref G)
 mN:mg "NoFact" = some (.ref NN)
 oG:PySem.W.excIn K G E3 "ValueError.__new__" = true
 oN:PySem.W.excIn K NN E3 "ValueError.__new__" = true
 sub:mroIn K NN G=true
def wsT (t:Str):List Str:=Txt.split t blank
def atW (ws:List Str):List Str:=if ws.head? = some ("not" : Str)then ws.tail else ws
structure TxT (t:Str):Prop where
 ne:wsT t≠[]
 sk:Fd (wsT t)
 rp:Rp t
 ln:t.length<=2000
structure Pc (rs:List Ro)(t:Str):Prop where
 tx:TxT t
 at':BP rs (atW (wsT t))=true
structure MA (rs:List Ro)(t:Str):Prop where
 tx:TxT t
 at':BP rs (atW (wsT t))=false
structure FB (BR bad:Str->Prop)(ys:List Str):Prop where
 ex:∃k y,ys[k]? = some y/\bad y/\∀(j:Nat) z,j<k->ys[j]? = some z->BR z
structure Lv (BR:Str->Prop)(y t:Str):Prop where
 all:∀z∈Txt.split t y,BR z
 ln:t.length<=9900
 few:(Txt.split t y).length<=100
structure Bv (BR bad:Str->Prop)(y t:Str):Prop where
 fb:FB BR bad (Txt.split t y)
 ln:t.length<=9900
 few:(Txt.split t y).length<=100
abbrev Pd (rs:List Ro):=Lv (Pc rs) " and "
abbrev JW (rs:List Ro):=Bv (Pc rs) (MA rs) " and "
abbrev TQ (rs:List Ro):=Lv (Pd rs) " or "
abbrev BdF (rs:List Ro):=Bv (Pd rs) (JW rs) " or "
structure DA (rs:List Ro)(t:Str):Prop where
 ex:(2<(Txt.split t " while ").length/\Rp t)\/((Txt.split t " while ").length<=2/\FB (TQ rs) (BdF rs) (Txt.split t " while "))
 ln:t.length<=9900
abbrev Out (H:Hp)(E:XK)(NN:Addr):Prop:=∀(b:Addr) (H':Hp),Same H H'->H' b=none->E (.ref b) (some NN) H'
abbrev O7 (H:Hp)(Q:VK):Prop:=∀(v:V) (H':Hp),Same H H'->Q v H'
inductive PM (C NN:Addr)(vs:List V)(H:Hp)(Q:VK)(E:XK):Prop
 | mk (x:Addr) (rs:List Ro) (t:Str) (c0:vs=[.ref x,.str t]) (c1:RoomAt C H x rs) (c2:((MA rs t/\Out H E NN)\/(Pc rs t/\O7 H Q))):PM C NN vs H Q E
inductive P6 (C NN:Addr)(vs:List V)(H:Hp)(Q:VK)(E:XK):Prop
 | mk (x:Addr) (rs:List Ro) (t:Str) (c0:vs=[.ref x,.str t]) (c1:RoomAt C H x rs) (c2:((JW rs t/\Out H E NN)\/(Pd rs t/\O7 H Q))):P6 C NN vs H Q E
inductive Qs (C NN:Addr)(vs:List V)(H:Hp)(Q:VK)(E:XK):Prop
 | mk (x:Addr) (rs:List Ro) (t:Str) (c0:vs=[.ref x,.str t]) (c1:RoomAt C H x rs) (c2:((BdF rs t/\Out H E NN)\/(TQ rs t/\O7 H Q))):Qs C NN vs H Q E
inductive Qt (C NN:Addr)(vs:List V)(H:Hp)(Q:VK)(E:XK):Prop
 | mk (x:Addr) (rs:List Ro) (t:Str) (c0:vs=[.ref x,.str t]) (c1:RoomAt C H x rs) (c2:DA rs t) (c3:Out H E NN):Qt C NN vs H Q E
def FB.run {BR bad:Str->Prop} (h:(FB BR bad ys/\O)\/((∀z∈ys,BR z)/\F)):∃k:Nat,(∀(i:Nat) (c:i<ys.length),i<=k->(BR ys[i]/\i+1<=k)\/(bad ys[i]/\O))/\(ys.length<=k->F):=by
 rcases h with⟨⟨k,y,e,b,g⟩,o⟩ | ⟨a,f⟩
 ·obtain⟨d,e⟩:=AW.mp e;refine⟨k,λi c h=>?_,λh=>absurd d Ψ⟩;by_cases z:i=k
  ·subst z;exact .inr ⟨e▸b,o⟩
  exact .inl ⟨g i _ Ψ (Ay c),Ψ⟩
 exact⟨ys.length,λi c _=>.inl ⟨a _ (Cb c),c⟩,λ_=>f⟩
def VG {BR bad:Str->Prop}{t:Str} (h:(Bv BR bad y t/\O)\/(Lv BR y t/\F)):t.length<=9900/\(Txt.split t y).length<=100/\∃k:Nat,(∀(i:Nat) (a:i<(Txt.split t y).length),i<=k->(BR (Txt.split t y)[i]/\i+1<=k)\/(bad (Txt.split t y)[i]/\O))/\((Txt.split t y).length<=k->F):=by
 rcases h with⟨b,o⟩ | ⟨l,f⟩
 ·exact⟨b.ln,b.few,FB.run (.inl ⟨b.fb,o⟩)⟩
 exact⟨l.ln,l.few,FB.run (.inr ⟨l.all,f⟩)⟩
def dF (F:Fun K "read_term" "read_term" Ih f fd)(S:EF K mg G NN)(T:Bl mg)(a:Ca P w K mg base CX0 3 "is_atom" Kk IP (M5 C)):Aj P w K mg base (CXe P w) 4 f fd GS (PM C NN):=by
 refine F.oqE scReadTerm λa0 A I s H vs Q E B h=>?_;obtain⟨x,rs,t,rfl,R,q⟩:=h;have X:=AB
 obtain⟨tx,q⟩:TxT t/\((BP rs (atW (wsT t))=false/\Out H E NN)\/(BP rs (atW (wsT t))=true/\O7 H Q)):=by
  rcases q with⟨b,q⟩ | ⟨b,q⟩
  ·exact⟨b.tx,.inl ⟨b.at',q⟩⟩
  exact⟨b.tx,.inr ⟨b.at',q⟩⟩
 obtain⟨d,wr,g⟩:=Hi tx.ne;have D:=tx.sk;have W:=tx.rp;have a1:=tx.ln;rw[g]at q D;refine⟨_,(Ai (AO (i:=2) scReadTerm.nd (Dg Ek DJ EM EA (pv 1) (Aa AC Ac))) (Ai (AO (i:=3) scReadTerm.nd (Cn Fn (Ap AL (pv 2) Ad (λ_ _=>U)) AC (AJ _))) (Ai (AO (i:=4) scReadTerm.nd (Fk (CS (pv 3)) (pv 2) (Ew M7 (pv 2) (Et Ad) Eu))) (Ai (AY (C6 (CS (Az a B Aq (Aa (pv 0) (Aa (pv 4) Ac))))) (Al (U5 S.oN Φ S.mN (Aa (Vg (pv 1) Δ) Ac))) AX) (Al (Av (A6 (Aa (pv 3) (Aa (pv 4) Ac))))))))),_,U,U,_,_,U,U,Φ,Ψ,λl hl=>?_⟩;refine Oa (d::wr) _ (by show(wsT t).map V.str=_;rw[g]) hl λn p N=>?_;refine⟨_,U,l,_,_,_,U,U,Y.of N,Au U,U,?_⟩;by_cases o:d = "not"
 ·have g:(!decide (V.str d=V.str "not"))=false:=by rw[AV (by rw[o])];rfl
  rw[g];refine⟨_,U,_,U,?_⟩;refine A7 ⟨_,U,_,U,l,_,U,Y.of N,λj r=>?_⟩;have m:(upd n j (.lst (BE ((d::wr).map V.str) (some 1) none))) j=some (.lst (wr.map V.str)):=by rw[Af,show((1:Int))=((1:Nat):Int) from U,LY Θ];rfl
  have s2:Same n (upd n j (.lst (BE ((d::wr).map V.str) (some 1) none))):=Same.new r;generalize (upd n j (.lst (BE ((d::wr).map V.str) (some 1) none)))=H2 at m s2 ⊢;have M:atW (d::wr)=wr:=by unfold atW;rw[As (by rw[o];rfl)];rfl
  rw[M]at q;refine⟨_,U,_,U,x,j,rs,wr,U,R.same (p.trans s2),m,(λz hz=>D z (Bc _ hz)),λH3 s3=>⟨_,U,?_⟩⟩;have c:=(p.trans s2).trans s3;rcases q with⟨y,q⟩ | ⟨L,q⟩
  ·rw[y];exact Bw ⟨_,U,t,U,W,by show 1<=1000;decide,λb v=>q b _ c v⟩
  rw[L];refine A7 ?_;exact⟨_,U,_,U,AG,λu e=>q (.ref u) _ (c.trans (Same.new e))⟩
 have g:(!decide (V.str d=V.str "not"))=true:=by rw[Bi (λz=>o (V.str.inj z))];rfl
 rw[g];refine⟨_,U,_,U,?_⟩;refine Bw ⟨_,U,?_⟩;have M:atW (d::wr)=d::wr:=by unfold atW;(rw[Ag (by simpa using o)])
 rw[M]at q;refine⟨_,U,_,U,x,l,rs,d::wr,U,R.same p,N,D,λH2 s2=>⟨_,U,?_⟩⟩;have c:=p.trans s2;rcases q with⟨y,q⟩ | ⟨L,q⟩
 ·rw[y];exact Bw ⟨_,U,t,U,W,by show 1<=1000;decide,λb v=>q b _ c v⟩
 rw[L];refine A7 ?_;exact⟨_,U,_,U,AG,λu e=>q (.ref u) _ (c.trans (Same.new e))⟩
def eV (F:Fun K "read_part" "read_part" FY f fd)(R':EF K mg G NN)(T:Bl mg)(a:Ca P w K mg base (CXe P w) 4 "read_term" Ih GS (PM C NN)):Aj P w K mg base (CXe P w) 5 f fd GU (P6 C NN):=by
 refine F.oqE UD λa0 A B s H vs Q E r h=>?_;obtain⟨x,rs,t,rfl,R,q⟩:=h;have W:=AB;obtain⟨a1,few,k,M,S⟩:=VG q;refine⟨_,(Al (Av (Vf (sc:=Ak FY) (own:=["term"]) (js:=[0]) U BA U (BB (Dg Ek DJ EM EA (pv 1) (Aa AC Ac))) (λ_ _ _ _ _=>A0 (i:=0) (show List.Nodup (["term", "room"]:List Str) by decide +kernel)) (λ_ _ _ _ _=>BV) (λ_ _ _ _ _ L=>(Az a r L (Aa (pv 1) (Aa (pv 0) Ac))))))),?_⟩;refine⟨_,U,U,_,_,U,U,Φ,Ψ,λl X=>?_⟩;have j:(upd H l (.lst ((Txt.split t " and ").map V.str))) l=some (.lst ((Txt.split t " and ").map V.str)):=Af;have u:Same H (upd H l (.lst ((Txt.split t " and ").map V.str))):=Same.new X;generalize (upd H l (.lst ((Txt.split t " and ").map V.str)))=H1 at j u ⊢;clear q;generalize Txt.split t " and " = ys0 at j few M S;refine⟨l,U,⟨_,Y.of j⟩,λD hD=>?_⟩
 refine BK (λi ys e=>Same H1 e/\e D=some (.lst ys)/\ys.length=i/\i<=k) ⟨Same.new hD,Af,U,Bt _⟩
  (λi ys e p d=>by obtain⟨s2,_⟩:=d;exact⟨_,.str ys0[i],Y.of (s2 _ _ j),by simp[p]⟩) (λys e d=>by obtain⟨s2,_⟩:=d;exact⟨_,Y.of (s2 _ _ j),Θ⟩) ?_ ?_
 ·rintro i ys e y H3 p ⟨s2,e2,m,c⟩ ⟨rfl,L⟩;refine BX ?_;have I:y=.str ys0[i]:=by have:=L _ (Y.of (s2 _ _ j));rw[AU,Ay p]at this;(exact(Bh this).symm)
  subst I;have n:=u.trans s2;refine⟨_,U,_,U,x,rs,_,U,R.same n,?_⟩;rcases M i p c with⟨g,z⟩ | ⟨b,o⟩
  ·exact .inr ⟨g,λv H4 N=>⟨_,N _ _ e2,Ψ,(s2.trans N).put hD,Af,by simp[m],z⟩⟩
  exact .inl ⟨b,λb H' s'=>o b H' (n.trans s')⟩
 rintro ys e ⟨s2,e2,m,c⟩;exact S c (.ref D) e (u.trans s2)
def gD (F:Fun K "read_fact" "read_fact" Fi f fd)(R':EF K mg G NN)(T:Bl mg)(a:Ca P w K mg base (CXe P w) 5 "read_part" FY GU (P6 C NN)):Aj P w K mg base (CXe P w) 6 f fd F6 (Qs C NN):=by
 refine F.oqE UE λa0 A z s H vs Q E I h=>?_;obtain⟨x,rs,t,rfl,R,q⟩:=h;have W:=AB;obtain⟨a1,few,k,M,S⟩:=VG q;refine⟨_,(Al (Av (Vf (sc:=Ak Fi) (own:=["part"]) (js:=[0]) U BA U (BB (Dg Ek DJ EM EA (pv 1) (Aa AC Ac))) (λ_ _ _ _ _=>A0 (i:=0) (show List.Nodup (["part", "room"]:List Str) by decide +kernel)) (λ_ _ _ _ _=>BV) (λ_ _ _ _ _ L=>(Az a I L (Aa (pv 1) (Aa (pv 0) Ac))))))),?_⟩;refine⟨_,U,U,_,_,U,U,Φ,Ψ,λl X=>?_⟩;have j:(upd H l (.lst ((Txt.split t " or ").map V.str))) l=some (.lst ((Txt.split t " or ").map V.str)):=Af;have r:Same H (upd H l (.lst ((Txt.split t " or ").map V.str))):=Same.new X;generalize (upd H l (.lst ((Txt.split t " or ").map V.str)))=H1 at j r ⊢;clear q;generalize Txt.split t " or " = ys0 at j few M S;refine⟨l,U,⟨_,Y.of j⟩,λD hD=>?_⟩
 refine BK (λi ys e=>Same H1 e/\e D=some (.lst ys)/\ys.length=i/\i<=k) ⟨Same.new hD,Af,U,Bt _⟩
  (λi ys e p d=>by obtain⟨s2,_⟩:=d;exact⟨_,.str ys0[i],Y.of (s2 _ _ j),by simp[p]⟩) (λys e d=>by obtain⟨s2,_⟩:=d;exact⟨_,Y.of (s2 _ _ j),Θ⟩) ?_ ?_
 ·rintro i ys e y H3 p ⟨s2,e2,m,c⟩ ⟨rfl,L⟩;refine BX ?_;have B:y=.str ys0[i]:=by have:=L _ (Y.of (s2 _ _ j));rw[AU,Ay p]at this;(exact(Bh this).symm)
  subst B;have n:=r.trans s2;refine⟨_,U,_,U,x,rs,_,U,R.same n,?_⟩;rcases M i p c with⟨g,u⟩ | ⟨b,o⟩
  ·exact .inr ⟨g,λv H4 N=>⟨_,N _ _ e2,Ψ,(s2.trans N).put hD,Af,by simp[m],u⟩⟩
  exact .inl ⟨b,λb H' s'=>o b H' (n.trans s')⟩
 rintro ys e ⟨s2,e2,m,c⟩;exact S c (.ref D) e (r.trans s2)
def gG (F:Fun K "read_errand" "read_errand" Ij f fd)(W:EF K mg G NN)(T:Bl mg)(c:Ca P w K mg base (CXe P w) 6 "read_fact" Fi F6 (Qs C NN)):Aj P w K mg base (CXe P w) 7 f fd GV (Qt C NN):=by
 refine F.oqE scReadErrand λa1 A L s H vs Q E M h=>?_;obtain⟨x,rs,t,rfl,R,b,o⟩:=h;have a0:=AB;have a2:=b.ln;refine⟨_,(Ai (AO (i:=2) scReadErrand.nd (Dg Ek DJ EM EA (pv 1) (Aa AC Ac))) (Ai (AY (AN F7 (Be Cv Φ T.len BM (Aa (pv 2) Ac)) Ad (AJ _)) (Al (U5 W.oN Φ W.mN (Aa (Vg (pv 1) Δ) Ac))) AX) (Ai (CU PassesOwn.leaving U (BB (pv 2)) (A0 (i:=3) scReadErrand.nd) (Al (CV (Az c M Vi (Aa (pv 0) (Aa (pv 3) Ac)))))) (Al (Av (A6 (Aa (Ap AL (pv 2) Ad (λ_ _=>U)) (Aa (Fk (AN By (Be Cv Φ T.len BM (Aa (pv 2) Ac)) Ad (AJ _)) (Ap AL (pv 2) Ad (λ_ _=>U)) CW) Ac)))))))),_,U,U,_,_,U,U,Φ,Ψ,λl hl=>?_⟩;have n:(upd H l (.lst ((Txt.split t " while ").map V.str))) l=some (.lst ((Txt.split t " while ").map V.str)):=Af;have B:Same H (upd H l (.lst ((Txt.split t " while ").map V.str))):=Same.new hl;generalize (upd H l (.lst ((Txt.split t " while ").map V.str)))=H1 at n B ⊢;refine⟨_,U,_,_,U,.inl ⟨_,Y.of n,U⟩,_,_,U,U,_,U,?_⟩;have j:((Txt.split t " while ").map V.str).length=(Txt.split t " while ").length:=Ah ..;rcases b.ex with⟨h2,rp⟩ | ⟨h2,fb⟩
 ·refine Bq (λ_=>?_) (λz=>absurd (AV (by rw[j];lia)) z);exact⟨_,U,t,U,rp,by show 1<=1000;decide,λb hb=>o b _ B hb⟩
 refine Bq (λz=>?_) (λ_=>?_)
 ·exfalso;have:=Bp z;rw[j]at this;lia
 obtain⟨k,N,X⟩:=FB.run (F:=False) (.inl ⟨fb,o⟩);generalize Txt.split t " while " = ys0 at n N X;refine⟨_,U,l,U,⟨_,Y.of n⟩,DI (K:=K) (a:=l) (λi r q=>(∃u:Option V,r = [some (.ref x),some (.str t),some (.ref l),u])/\Same H1 q/\i<=k) ⟨⟨none,U⟩,Same.refl _,Bt _⟩ (λi r q _ I=>by obtain⟨_,e,_⟩:=I;exact Y.of (e _ _ n)) ?_ ?_⟩
 ·rintro i y r q p ⟨⟨u,rfl⟩,e,d⟩;rw[AU]at p;cases hz:ys0[i]? with
  | none=>rw[hz]at p;cases p
  | some z=>
   rw[hz]at p;obtain⟨hi,S⟩:=AW.mp hz;have hy:=(Bh p).symm;subst hy;have m:=B.trans e;refine⟨_,U,_,U,x,rs,z,U,R.same m,?_⟩;rcases N i hi d with⟨g,D⟩ | ⟨b,o⟩
   ·rw[S]at g;exact .inr ⟨g,λv H7 s7=>⟨⟨_,U⟩,e.trans s7,D⟩⟩
   rw[S]at b;exact .inl ⟨b,λb H' s'=>o b H' (m.trans s')⟩
 rintro r q ⟨⟨u,rfl⟩,e,d⟩;rw[Ah]at d;exact(X d).elim
def Re (h:strOk x=true)(l:x.length<=9900):Rp x:=by
 have b:=StrLaws.reprText_len x λc a=>by have:=LC h a;lia
 unfold Rp;lia
theorem XD :∀{ps:List (List Nat)},c∈JS y ps->c∈y\/∃p∈ps,c∈p
 | [],h=>nomatch h
 | [a],h=>.inr ⟨a,AF.mpr U,h⟩
 | a::b::r,h=>by
  rcases Br.mp (show c∈a++(y++JS y (b::r)) from h)with z | z
  ·exact .inr ⟨a,Bb ..,z⟩
  rcases(Br.mp z)with z | z
  ·exact .inl z
  rcases XD z with q | ⟨p,h1,h2⟩
  ·exact .inl q
  exact .inr ⟨p,Bc _ h1,h2⟩
def N1 (b:strOk y=true)(h:∀x∈xs,strOk x=true):strOk (Txt.join y xs)=true:=NZ λc e=>by
 have a:c∈cs (Txt.join y xs):=e;rw[Da]at a;rcases XD a with z | ⟨p,h1,h2⟩
 ·exact LC b z
 obtain⟨x,d,rfl⟩:=AK.mp h1;exact LC (h x d) h2
structure Wds (ws:List Str):Prop where
 ne:ws≠[]
 nb:∀v∈ws,32∉cs v
 sk:Fd ws
def Wds.app (h:Wds xs)(h':∀v∈ys,32∉cs v/\strOk v=true):Wds (xs++ys):=⟨by simp[h.ne],λv a=>by
 rcases(Br.mp a)with z | z
 ·exact h.nb v z
 ·exact(h' v z).1,λv a=>by
 rcases(Br.mp a)with z | z
 ·exact h.sk v z
 exact(h' v z).2⟩
def Wds.cons {x:Str}{xs:List Str}(h:Wds xs)(h':32∉cs x/\strOk x=true):Wds (x::xs):=⟨Bo _ _,λv a=>by
 rcases(Ar.mp a)with z | z
 ·rw[z];exact h'.1
 ·exact h.nb v z,λv a=>by
 rcases(Ar.mp a)with z | z
 ·rw[z];exact h'.2
 exact h.sk v z⟩
def Wds.ws {ws:List Str}(h:Wds ws):wsT (Txt.join blank ws)=ws:=Pz h.ne h.nb
def Wds.ok {ws:List Str}(h:Wds ws):strOk (Txt.join blank ws)=true:=N1 Δ h.sk
def Wds.tx {ws:List Str}(h:Wds ws)(l:(Txt.join blank ws).length<=2000):TxT (Txt.join blank ws):=⟨by rw[h.ws];exact h.ne,by rw[h.ws];exact h.sk,Re h.ok Ψ,l⟩
def Wds.bad {ws:List Str}(h:Wds ws)(l:(Txt.join blank ws).length<=2000)(n:BP rs (atW ws)=false):MA rs (Txt.join blank ws):=⟨h.tx l,by rw[h.ws];exact n⟩
def MG (g:Good rs){t:Tt}(ok:t.2.ok rs):Wds (BY t.1 t.2.ws):=by
 have h:=FS g ok;refine⟨h.1,h.2.1,λx a=>?_⟩;have b:=Am.sks g ok;unfold BY at a;split at a
 ·exact b x a
 rcases(Ar.mp a)with e | e
 ·rw[e];decide +kernel
 exact b x e
def Xe (g:Good rs){t:Tt}(ok:t.2.ok rs)(r:List Str):atW (BY t.1 t.2.ws++r)=t.2.ws++r:=by
 obtain⟨c,_,b,_⟩:=Am.woks g ok;obtain⟨a,z,e⟩:=Hi b;unfold atW BY;rw[e];split
 ·rw[Ag (by simpa using ((c a (by rw[e];exact Bb ..)).2.1.1))]
 exact As U
def Wb (g:Good rs){t:Tt}(ok:t.2.ok rs):Pc rs (Bn t):=by have h:=MG g ok;have l:=GA g ok;refine⟨h.tx (by show(Bn t).length<=2000;lia),?_⟩;rw[show wsT (Bn t)=BY t.1 t.2.ws from h.ws,show BY t.1 t.2.ws=BY t.1 t.2.ws++[] by simp,Xe g ok,BC];exact(Am.woks g ok).2.2.2
def rL (g:Good rs) (p:Cd rs ps):strOk (AE ps)=true:=by refine N1 Δ λx b=>?_;obtain⟨ts,a,rfl⟩:=AK.mp b;refine N1 Δ λx b=>?_;obtain⟨t,c,rfl⟩:=AK.mp b;exact(MG g ((p.ok ts a).ok t c)).ok
def R1 (g:Good rs) (p:Fe rs ts):Pd rs (A9 ts):=by
 have l:=GQ g p;have f:=p.few;refine⟨?_,Ψ,?_⟩
 ·rw[PB g p];intro z hz;obtain⟨t,a,rfl⟩:=AK.mp hz;exact Wb g (p.ok t a)
 rw[PB g p,Ah];lia
def qS (g:Good rs) (p:Cd rs ps):TQ rs (AE ps):=by
 have l:=Eh g p;have f:=p.few;refine⟨?_,Ψ,?_⟩
 ·rw[Py g p];intro z hz;obtain⟨t,a,rfl⟩:=AK.mp hz;exact R1 g (p.ok t a)
 rw[Py g p,Ah];lia
def Hb {BR bad:Str->Prop} (h:∀x∈xs,BR x)(b:bad y):FB BR bad (xs++y::zs):=⟨xs.length,y,Θ,b,λj z a e=>by rw[CQ a]at e;exact h z (Cc e)⟩
def Fy {BR bad:Str->Prop} (b:bad y):FB BR bad [y]:=Hb (xs:=[]) (λ_ h=>nomatch h) b
def Sw {ws:List Str}(h:Wds ws)(l:(Txt.join blank ws).length<=2000)(n:BP rs (atW ws)=false)(c:("and" : Str)∉ws)(e:("or" : Str)∉ws)(d:("while" : Str)∉ws):BdF rs (Txt.join blank ws)/\DA rs (Txt.join blank ws):=by have b:Txt.split (Txt.join blank ws) " and " = [Txt.join blank ws]:=Ib h.nb (w := "and") Δ Δ c;have s2:Txt.split (Txt.join blank ws) " or " = [Txt.join blank ws]:=Ib h.nb (w := "or") Δ Δ e;have s3:Txt.split (Txt.join blank ws) " while " = [Txt.join blank ws]:=Ib h.nb (w := "while") Δ Δ d;have a:BdF rs (Txt.join blank ws):=⟨by rw[s2];exact Fy ⟨by rw[b];exact Fy (h.bad l n),Ψ,by rw[b];show 1<=100;decide⟩,Ψ,by rw[s2];show 1<=100;decide⟩;exact⟨a,.inr ⟨by rw[s3];show 1<=2;decide,s3▸Fy a⟩,Ψ⟩
def Sx (rs:List Ro):JW rs Str.empty/\BdF rs Str.empty/\DA rs Str.empty:=by
 have a:wsT Str.empty=[Str.empty]:=by decide +kernel
 have d:Txt.split Str.empty " and " = [Str.empty]:=by decide +kernel
 have s2:Txt.split Str.empty " or " = [Str.empty]:=by decide +kernel
 have s3:Txt.split Str.empty " while " = [Str.empty]:=by decide +kernel
 have f:Str.empty.length=0:=by decide +kernel
 have k0:strOk Str.empty=true:=by decide +kernel
 have c:JW rs Str.empty:=⟨by rw[d];exact Fy ⟨⟨by rw[a];exact Bo _ _,(by rw[a];intro x e;rw[AF.mp e];exact k0),Re k0 Ψ,Ψ⟩,by rw[a];rfl⟩,Ψ,by rw[d];decide⟩;have b:BdF rs Str.empty:=⟨by rw[s2];exact Fy c,Ψ,by rw[s2];decide⟩;exact⟨c,b,.inr ⟨by rw[s3];decide,s3▸Fy b⟩,Ψ⟩
def T5 {w:Str}(h:w≠Str.empty):Tw w Str.empty:=⟨[Str.empty],Δ,Bo _ _,λv a=>by rw[AF.mp a];decide +kernel,λz=>h (AF.mp z)⟩
def Rw (g:Good rs) (p:Fe rs ts):Tw "or" (A9 ts):=by have h:=F4 g p;exact⟨_,h.2.1,h.1,h.2.2.1,λz=>(h.2.2.2 _ z).1 U⟩
def Uc (g:Good rs){t:Tt}(ok:t.2.ok rs):Tw "and" (Bn t):=by have h:=FS g ok;exact⟨_,U,h.1,h.2.1,λz=>(h.2.2 _ z).1 U⟩
variable {rs:List Ro}{ps:List (List Tt)}
def RT (y:Str):∀(xs:List Str) (z:Str),xs≠[]->Txt.join y (xs++[z])=Txt.join y xs++(y++z):=λxs z h=>by
 apply BF;rw[AZ,AZ,Da,Da,AR];have h':xs.map cs≠[]:=by simpa using h
 generalize xs.map cs=us at h';induction us with
 | nil=>exact absurd U h'
 | cons a r ih=>
  cases r with
  | nil=>rfl
  | cons b r=>show a++(cs y++JS (cs y) (b::r++[cs z]))=(a++(cs y++JS (cs y) (b::r)))++(cs y++cs z);rw[show JS (cs y) (b::r++[cs z])=_ from ih (Bo _ _)];simp
def VV (y:Str)(xs:List Str)(z u:Str):Txt.join y (xs++[z])++u=Txt.join y (xs++[z++u]):=by
 cases xs with
 | nil=>rfl
 | cons a r=>rw[RT _ _ _ (Bo _ _),RT _ _ _ (Bo _ _)];apply BF;simp[AZ,B4]
def VW (y z u:Str)(xs:List Str):u++Txt.join y (z::xs)=Txt.join y ((u++z)::xs):=by
 apply BF;rw[AZ,Da,Da];cases xs with
 | nil=>exact(AZ u z).symm
 | cons a r=>show cs u++(cs z++_)=cs (u++z)++_;rw[AZ,B4]
def uW (g:Good rs)(a:Cd rs ps):DA rs (AE ps ++ " while free while free"):=by
 have l:=Eh g a;have e:AE ps ++ " while free while free" = Txt.join " while " [AE ps, "free", "free"]:=by apply BF;rw[AZ,Da];rfl
 have b:Tw "while" "free" := ⟨["free"],Δ,Bo _ _,Δ,Δ⟩
 have s:=FT (w := "while") (y := " while ") (ts:=[AE ps, "free", "free"]) Δ Δ Δ Δ (Bo _ _) (by
  intro t d;simp only[Ar,AS,AQ]at d;rcases d with e | e | e
  ·rw[e];exact Ol g a
  ·rw[e];exact b
  rw[e];exact b)
 have f:(AE ps ++ " while free while free").length<=9900:=by rw[BW,show(Str.ofString " while free while free").length=22 by decide +kernel];lia
 refine⟨.inl ⟨by rw[e,s];show 2<3;decide,Re ?_ f⟩,f⟩;rw[e];refine N1 Δ λx c=>?_;(simp only[Ar,AS,AQ]at c);rcases c with e | e | e
 ·rw[e];exact rL g a
 ·rw[e];decide +kernel
 rw[e];decide +kernel
def uN (g:Good rs)(a:Cd rs ps):DA rs (AE ps ++ " while "):=by
 have l:=Eh g a;have e:AE ps ++ " while " = Txt.join " while " [AE ps,Str.empty]:=by apply BF;rw[AZ,Da];show _=cs (AE ps)++(cs " while "++cs Str.empty);rw[show cs Str.empty=[] by decide +kernel,BC]
 have s:=FT (w := "while") (y := " while ") (ts:=[AE ps,Str.empty]) Δ Δ Δ Δ (Bo _ _) (by
  intro t b;simp only[Ar,AS,AQ]at b;rcases b with e | e
  ·rw[e];exact Ol g a
  rw[e];exact T5 Δ)
 have d:(AE ps ++ " while ").length<=9900:=by rw[BW,show(Str.ofString " while ").length=7 by decide +kernel];lia
 refine⟨.inr ⟨by rw[e,s];show 2<=2;decide,?_⟩,d⟩;rw[e,s];exact Hb (λx c=>by rw[AF.mp c];exact qS g a) (Sx rs).2.1
def uU (g:Good rs)(b:Cd rs ps):DA rs (AE ps ++ " or "):=by
 have l:=Eh g b;have few:=b.few
 have e:AE ps ++ " or " = Txt.join " or " (ps.map A9++[Str.empty]):=by rw[RT _ _ _ (by simpa using b.ne)];apply BF;rw[AZ,AZ,AZ,show cs Str.empty=[] by decide +kernel,BC];rfl
 have s:=FT (w := "or") (y := " or ") (ts:=ps.map A9++[Str.empty]) Δ Δ Δ Δ Θ (by
  intro t j;rcases(Br.mp j)with e | e
  ·obtain⟨ts,a,rfl⟩:=AK.mp e;exact Rw g (b.ok ts a)
  rw[AF.mp e];exact T5 Δ)
 have f:(AE ps ++ " or ").length<=9900:=by rw[BW,show(Str.ofString " or ").length=4 by decide +kernel];lia
 have h:BdF rs (AE ps ++ " or "):=by
  refine⟨?_,f,?_⟩
  ·rw[e,s];exact Hb (λx i=>by obtain⟨ts,a,rfl⟩:=AK.mp i;exact R1 g (b.ok ts a)) (Sx rs).1
  rw[e,s,AM,Ah];show ps.length+1<=100;lia
 have c:=Oj g b;have e2:AE ps ++ " or " = Txt.join blank (Hc ps++[Str.ofString "or",Str.empty]):=by apply BF;rw[AZ,B3,AR,En (by simpa using c.1) Θ,c.2.1,B3];rfl
 have s3:Txt.split (AE ps ++ " or ") " while " = [AE ps ++ " or "]:=by
  rw[e2];refine Ib (w := "while") (λv d=>?_) Δ Δ (λd=>?_)
  ·rcases(Br.mp d)with z | z
   ·exact c.2.2.1 v z
   simp only[Ar,AS,AQ]at z;rcases z with z | z <;> (rw[z];decide +kernel)
  rcases(Br.mp d)with z | z
  ·exact c.2.2.2 _ z U
  exact absurd z Δ
 exact⟨.inr ⟨by rw[s3];show 1<=2;decide,s3▸Fy h⟩,f⟩
def VP {a:Type}{l:List a}(h:l≠[]):∃r z,l=r++[z]:=⟨l.dropLast,l.getLast h,(List.dropLast_concat_getLast h).symm⟩
def vB {a:Am}(ok:a.ok rs):BP rs (a.ws++[Str.ofString "and"])=false:=by
 cases a with
 | free=>unfold BP;(rw[Ag Δ]);show C5 rs "free" "and" = false;unfold C5;rw[Ag Δ,show decide (Str.ofString "and" ∈ lidsS)=false by decide +kernel,show decide (Str.ofString "and" = "bare")=false by decide +kernel];rfl
 | pl p i w=>
  show BP rs [p.1,w, "and"]=false;unfold BP;rw[Ag Θ];show(decide (p.1∈tn rs) && Cz rs w "and")=false;have e:Cz rs w "and" = false:=by have:=ok.2;simp only[Iz,Ar,AS,AQ]at this;unfold Cz;rcases this with e | e | e | e <;> (rw[e,Ag Δ,Bi Δ];rfl)
  rw[e,Mf]
 | isin t p i=>show BP rs [t, "in",p.1, "and"]=false;unfold BP;rw[Ag Θ]
 | on t u=>show BP rs [t, "on",u, "and"]=false;unfold BP;rw[Ag Θ]
 | top t=>
  show BP rs [t, "top", "and"]=false;unfold BP;rw[Ag Θ];show(decide (t∈tn rs) && Cz rs "top" "and")=false;have e:Cz rs "top" "and" = false:=by unfold Cz;rw[Ag Δ,Bi Δ];rfl
  rw[e,Mf]
 | held t=>
  show BP rs [t, "held", "and"]=false;unfold BP;rw[Ag Θ];show(decide (t∈tn rs) && Cz rs "held" "and")=false;have e:Cz rs "held" "and" = false:=by unfold Cz;rw[Ag Δ,Bi Δ];rfl
  rw[e,Mf]
def vC (g:Good rs)(b:Bool)(d:Am):BP rs (("and" : Str)::BY b d.ws)=false:=by
 have c:∀x y:Str,BP rs [("and" : Str),x,y]=false:=λx y=>by unfold BP;rw[Ag Θ];show(decide (("and" : Str)∈tn rs) && _)=false;rw[Bi (λh=>(Ga g (Fp h)).fix Δ)];rfl
 have a:∀(x y z:Str) (r:List Str),BP rs (("and" : Str)::x::y::z::r)=false:=λx y z r=>by unfold BP;rw[Ag Θ]
 cases d <;> cases b
 ·exact c _ _
 ·unfold BP;(rw[Ag Δ]);show C5 rs "and" "free" = false;unfold C5;rw[Ag Δ,show decide (Str.ofString "free" ∈ lidsS)=false by decide +kernel,show decide (Str.ofString "free" = "bare")=false by decide +kernel];rfl
 ·exact a _ _ _ _
 ·exact c _ _
 ·exact a _ _ _ _
 ·exact a _ _ _ _
 ·exact a _ _ _ _
 ·exact a _ _ _ _
 ·exact a _ _ _ _
 ·exact c _ _
 ·exact a _ _ _ _
 exact c _ _
def uV (g:Good rs)(i:Cd rs ps):DA rs (AE ps ++ " and"):=by
 have l:=Eh g i;have few:=i.few;have p:(Str.ofString " and").length=4:=by decide +kernel
 have r:(AE ps ++ " and").length<=9900:=by rw[BW,p];lia
 obtain⟨q,ts,a⟩:=VP i.ne;have f:=i.ok ts (by rw[a];simp);obtain⟨us,t,b⟩:=VP f.ne;have j:=f.ok t (by rw[b];simp);have E:=GQ g f;have F:=GA g j;have wd:=MG g j;have D:=f.few;have m:Bn t ++ " and" = Txt.join blank (BY t.1 t.2.ws++[Str.ofString "and"]):=by apply BF;rw[AZ,B3,AR,En (by simpa using wd.ne) Θ,show cs (Bn t)=J ((BY t.1 t.2.ws).map cs) from B3 _];rfl
 have A:MA rs (Bn t ++ " and"):=by rw[m];refine(wd.app (λv c=>by rw[AF.mp c];decide +kernel)).bad ?_ (by rw[Xe g j];exact vB j);rw[<- m,BW,p];lia
 have e1:A9 ts ++ " and" = Txt.join " and " (us.map Bn++[Txt.join blank (BY t.1 t.2.ws++[Str.ofString "and"])]):=by rw[<- m,<- VV,show us.map Bn++[Bn t]=ts.map Bn by rw[b,AR];rfl];rfl
 have s:=YZ (w := "and") (y := " and ") (ts:=us.map Bn) Δ Δ Δ Δ wd.ne wd.nb (λz=>((FS g j).2.2 _ z).1 U) (by intro x h;obtain⟨u,d,rfl⟩:=AK.mp h;exact Uc g (f.ok u (by rw[b];simp[d])))
 have C:JW rs (A9 ts ++ " and"):=by
  refine⟨?_,by rw[BW,p];lia,?_⟩
  ·rw[e1,s];refine Hb (λx h=>?_) (by rw[<- m];exact A);obtain⟨u,d,rfl⟩:=AK.mp h;exact Wb g (f.ok u (by rw[b];simp[d]))
  have:=A5 List.length b;rw[AM,Gu]at this;rw[e1,s,AM,Ah,Gu];lia
 have o:=F4 g f;have e2:AE ps ++ " and" = Txt.join " or " (q.map A9++[A9 ts ++ " and"]):=by rw[<- VV,show q.map A9++[A9 ts]=ps.map A9 by rw[a,AR];rfl];rfl
 have ep:A9 ts ++ " and" = Txt.join blank (Fl ts++[Str.ofString "and"]):=by apply BF;rw[AZ,B3,AR,En (by simpa using o.1) Θ,o.2.1,B3];rfl
 have s2:=FT (w := "or") (y := " or ") (ts:=q.map A9++[A9 ts ++ " and"]) Δ Δ Δ Δ Θ (by
  intro x h;rcases(Br.mp h)with e | e
  ·obtain⟨u,d,rfl⟩:=AK.mp e;exact Rw g (i.ok u (by rw[a];simp[d]))
  rw[AF.mp e,ep];refine⟨_,U,Θ,λv c=>?_,λc=>?_⟩
  ·rcases(Br.mp c)with z | z
   ·exact o.2.2.1 v z
   rw[AF.mp z];decide +kernel
  rcases(Br.mp c)with z | z
  ·exact(o.2.2.2 _ z).1 U
  exact absurd z Δ)
 have B:BdF rs (AE ps ++ " and"):=by
  refine⟨?_,r,?_⟩
  ·rw[e2,s2];refine Hb (λx h=>?_) C;obtain⟨u,d,rfl⟩:=AK.mp h;exact R1 g (i.ok u (by rw[a];simp[d]))
  have:=A5 List.length a;rw[AM,Gu]at this;rw[e2,s2,AM,Ah,Gu];lia
 have n:=Oj g i;have e3:AE ps ++ " and" = Txt.join blank (Hc ps++[Str.ofString "and"]):=by apply BF;rw[AZ,B3,AR,En (by simpa using n.1) Θ,n.2.1,B3];rfl
 have s3:Txt.split (AE ps ++ " and") " while " = [AE ps ++ " and"]:=by
  rw[e3];refine Ib (w := "while") (λv c=>?_) Δ Δ (λc=>?_)
  ·rcases(Br.mp c)with z | z
   ·exact n.2.2.1 v z
   rw[AF.mp z];decide +kernel
  rcases(Br.mp c)with z | z
  ·exact n.2.2.2 _ z U
  exact absurd z Δ
 exact⟨.inr ⟨by rw[s3];show 1<=2;decide,s3▸Fy B⟩,r⟩
def uS (g:Good rs)(i:Cd rs ps):DA rs (("and " : Str)++AE ps):=by
 have l:=Eh g i;have few:=i.few;have r:(Str.ofString "and ").length=4:=by decide +kernel
 have A:(("and " : Str)++AE ps).length<=9900:=by rw[BW,r];lia
 obtain⟨ts,s,a⟩:=Hi i.ne;have f:=i.ok ts (by rw[a];simp);obtain⟨t,us,b⟩:=Hi f.ne;have q:=f.ok t (by rw[b];simp);have G:=GQ g f;have H:=GA g q;have wd:=MG g q;have F:=f.few;have p:∀ws:List Str,ws≠[]->("and " : Str)++Txt.join blank ws=Txt.join blank ("and" :: ws):=λws h=>by apply BF;rw[AZ,B3,B3,show(("and" : Str)::ws).map cs=[cs "and"]++ws.map cs from U,En Θ (by simpa using h)];rfl
 have j:("and " : Str)++Bn t=Txt.join blank ("and" :: BY t.1 t.2.ws):=p _ wd.ne
 have C:MA rs (("and " : Str)++Bn t):=by
  rw[j];refine(wd.cons (x := "and") Δ).bad ?_ ?_
  ·rw[<- j,BW,r];lia
  have:atW (("and" : Str)::BY t.1 t.2.ws)=("and" : Str)::BY t.1 t.2.ws:=Ag (by simp;decide +kernel);rw[this];exact vC g t.1 t.2
 have e1:("and " : Str)++A9 ts=Txt.join " and " (Txt.join blank ("and" :: BY t.1 t.2.ws)::us.map Bn):=by rw[<- j,<- VW,show Bn t::us.map Bn=ts.map Bn by rw[b];rfl];rfl
 have B:=Y0 (w := "and") (y := " and ") (ts:=us.map Bn) Δ Δ Δ Δ U wd.ne wd.nb (λz=>((FS g q).2.2 _ z).1 U) (by intro x d;obtain⟨u,o,rfl⟩:=AK.mp d;exact Uc g (f.ok u (by rw[b];simp[o])))
 have E:JW rs (("and " : Str)++A9 ts):=by
  refine⟨?_,by rw[BW,r];lia,?_⟩
  ·rw[e1,B];exact Hb (xs:=[]) (λx d=>nomatch d) (by rw[<- j];exact C)
  have:=A5 List.length b;rw[BU]at this;rw[e1,B,BU,Ah];lia
 have n:=F4 g f;have e2:("and " : Str)++AE ps=Txt.join " or " ((("and " : Str)++A9 ts)::s.map A9):=by rw[<- VW,show A9 ts::s.map A9=ps.map A9 by rw[a];rfl];rfl
 have ep:("and " : Str)++A9 ts=Txt.join blank ("and" :: Fl ts):=by rw[n.2.1];exact p _ n.1
 have s2:=FT (w := "or") (y := " or ") (ts:=(("and " : Str)++A9 ts)::s.map A9) Δ Δ Δ Δ Θ (by
  intro x d;rcases(Ar.mp d)with e | e
  ·rw[e,ep];refine⟨_,U,Θ,λv c=>?_,λc=>?_⟩
   ·rcases(Ar.mp c)with z | z
    ·rw[z];decide +kernel
    exact n.2.2.1 v z
   rcases(Ar.mp c)with z | z
   ·exact absurd z Δ
   exact(n.2.2.2 _ z).1 U
  obtain⟨u,o,rfl⟩:=AK.mp e;exact Rw g (i.ok u (by rw[a];simp[o])))
 have D:BdF rs (("and " : Str)++AE ps):=by
  refine⟨?_,A,?_⟩
  ·rw[e2,s2];exact Hb (xs:=[]) (λx d=>nomatch d) E
  have:=A5 List.length a;rw[BU]at this;rw[e2,s2,BU,Ah];lia
 have m:=Oj g i
 have s3:Txt.split (("and " : Str)++AE ps) " while " = [("and " : Str)++AE ps]:=by
  rw[m.2.1,p _ m.1];refine Ib (w := "while") (λv c=>?_) Δ Δ (λc=>?_)
  ·rcases(Ar.mp c)with z | z
   ·rw[z];decide +kernel
   exact m.2.2.1 v z
  rcases(Ar.mp c)with z | z
  ·exact absurd z Δ
  exact m.2.2.2 _ z U
 exact⟨.inr ⟨by rw[s3];show 1<=2;decide,s3▸Fy D⟩,A⟩
def uR:DA rs "not not free" := by
 have e:"not not free"=Txt.join blank ["not", "not", "free"]:=by decide +kernel
 rw[e];refine(Sw ⟨Δ,Δ,by unfold Fd;decide +kernel⟩ Δ ?_ Δ Δ Δ).2;unfold BP;(rw[Ag Δ]);show C5 rs "not" "free" = false;unfold C5;rw[Ag Δ,show decide (Str.ofString "free" ∈ lidsS)=false by decide +kernel,show decide (Str.ofString "free" = "bare")=false by decide +kernel];rfl
structure Nw (x:Str):Prop where
 nb:32∉cs x
 ok:strOk x=true
 ln:x.length<=9
 no:x∉(["and", "or", "while", "not"]:List Str)
def Xd {c d:Str}(f:Nw c)(g:Nw d)(m:d∉pn rs):DA rs (c ++ " in " ++ d):=by
 have e:c ++ " in " ++ d=Txt.join blank [c, "in",d]:=by apply BF;rw[AZ,AZ,B3];simp only[B4];rfl
 have w:Wds [c, "in",d]:=⟨Θ,λv b=>by
  simp only[Ar,AS,AQ]at b;rcases b with z | z | z
  ·rw[z];exact f.nb
  ·rw[z];decide +kernel
  ·rw[z];exact g.nb,λv b=>by
  simp only[Ar,AS,AQ]at b;rcases b with z | z | z
  ·rw[z];exact f.ok
  ·rw[z];decide +kernel
  rw[z];exact g.ok⟩
 have h:∀x∈(["and", "or", "while", "not"]:List Str),x ≠ "in" -> x∉[c, "in",d]:=λx i o b=>by
  simp only[Ar (a:=x),AS,AQ]at b;rcases b with z | z | z
  ·exact f.no (by rw[<- z];exact i)
  ·exact o z
  exact g.no (by rw[<- z];exact i)
 have n:=f.ln;have j:=g.ln;have l:(Txt.join blank [c, "in",d]).length<=2000:=by rw[<- e,BW,BW,show(Str.ofString " in ").length=4 by decide +kernel];lia
 rw[e];refine(Sw w l ?_ (h _ Δ Δ) (h _ Δ Δ) (h _ Δ Δ)).2
 have p:atW [c, "in",d]=[c, "in",d]:=Ag λz=>f.no (by
  have:c = "not" := by simpa using z
  rw[this];decide +kernel)
 rw[p];unfold BP;rw[Ag Θ];show(decide (c∈tn rs) && Cz rs "in" d)=false;have:Cz rs "in" d=false:=by unfold Cz;rw[As U,Bi m]
 rw[this,Mf]
def uQ {a:Str}(c:Nw a)(j:a∉tn rs):DA rs (a ++ " held"):=by
 have e:a ++ " held" = Txt.join blank [a, "held"]:=by apply BF;rw[AZ,B3];rfl
 have w:Wds [a, "held"]:=⟨Θ,λv b=>by
  simp only[Ar,AS,AQ]at b;rcases b with z | z
  ·rw[z];exact c.nb
  ·rw[z];decide +kernel,λv b=>by
  simp only[Ar,AS,AQ]at b;rcases b with z | z
  ·rw[z];exact c.ok
  rw[z];decide +kernel⟩
 have d:∀x∈(["and", "or", "while", "not"]:List Str),x ≠ "held" -> x∉[a, "held"]:=λx h f b=>by
  simp only[Ar (a:=x),AS,AQ]at b;rcases b with z | z
  ·exact c.no (by rw[<- z];exact h)
  exact f z
 have i:=c.ln;have l:(Txt.join blank [a, "held"]).length<=2000:=by rw[<- e,BW,show(Str.ofString " held").length=5 by decide +kernel];lia
 rw[e];refine(Sw w l ?_ (d _ Δ Δ) (d _ Δ Δ) (d _ Δ Δ)).2
 have g:atW [a, "held"]=[a, "held"]:=Ag λz=>c.no (by
  have:a = "not" := by simpa using z
  rw[this];decide +kernel)
 rw[g];unfold BP;rw[Ag Θ];show C5 rs a "held" = false;unfold C5;rw[As Δ,Bi j]
inductive Qv (C CT CH NN:Addr)(vs:List V)(H:Hp)(Q:VK)(E:XK):Prop
 | mk (z:Addr) (rs:List Ro) (L:List Wl) (ds:List Dee) (ls:List Loo) (t:Str) (c0:vs=[.ref z,.str t]) (c1:AtL C CT CH H z rs L ds ls) (c2:DA rs t) (c3:Out H E NN):Qv C CT CH NN vs H Q E
def gJ {f1:Addr} (F:Fun K "errand_of" "errand_of" Ip f fd)(u:HR K CT)(B:EF K mg G NN)(g:Binds K d1 ["self"] [])(c:B5 K CT "room" f1)(e:Aj P w K mg base CX0 1 f1 d1 ["self"] (MP C CT CH))(a:Ca P w K mg base (CXe P w) 7 "read_errand" Ij GV (Qt C NN)):Aj P w K mg base (CXe P w) 9 f fd GZ (Qv C CT CH NN):=by refine F.oqE scErrandOf λv A n s H vs Q E j h=>?_;obtain⟨z,rs,L,ds,o,t,rfl,l,b,q⟩:=h;obtain⟨p,x,d,y,hz,D,I,M⟩:=l.ex;refine⟨_,(Ai (AO (i:=2) scErrandOf.nd (Az a (j.mono Ξ) Vi (Aa (Cr (pv 0) u.cl c e (j.mono Ξ) g .nil Aq) (Aa (pv 1) Ac)))) B6),?_⟩;exact⟨_,U,z,p,_,U,hz,Ha x d y Δ,z,rs,L,ds,o,U,l,λr m=>⟨_,U,r,rs,t,U,m,b,q⟩⟩
def cl (ns:List Int)(k:Int):Int:=ns.getD k.toNat 0
def dw (ns:List Int)(k p m:Int):Int:=(cl ns k*48271+7919*k*k+11) % p*742938285 % 2147483629 % m
def He (ns:List Int)(k p:Int) (h:0<m):0<=dw ns k p m:=emod_nonneg _ Ψ
def Hf (ns:List Int)(k p:Int) (h:0<m):dw ns k p m<m:=emod_lt_of_pos _ h
inductive M4 (K:W.Frag)(vs:List V)(H:Hp)(Q:VK)(E0_:XK):Prop
 | mk (a:Addr) (ns:List Int) (k:Int) (c0:vs=[.ref a,.int k]) (c1:Y K H a (ns.map V.int)) (c2:ns.length<=63) (c3:0<=k) (c4:Q (.int (cl ns k)) H):M4 K vs H Q E0_
inductive Fh (K:W.Frag)(vs:List V)(H:Hp)(Q:VK)(E0_:XK):Prop
 | mk (a:Addr) (ns:List Int) (k p m:Int) (c0:vs=[.ref a,.int k,.int p,.int m]) (c1:Y K H a (ns.map V.int)) (c2:ns.length<=63) (c3:0<=k) (c4:k<1000000) (c5:0<p) (c6:0<m) (c7:Q (.int (dw ns k p m)) H):Fh K vs H Q E0_
abbrev IK:List Str:=["_law_script", "_law_k"]
abbrev kC:List Str:=IK
def Zs:Aw kC IK (Ak Kf):=AA
abbrev Ey:List Str:=["_law_script", "_law_k", "_law_prime", "_law_many"]
abbrev kB:List Str:=BG Ey ["_law_mixed"]
def scLDraw:Aw kB Ey (Ak EU):=AA
abbrev ltS:Str:=Str.ofString "bcdfghjklm"
def ltL:List Nat:=cs ltS
def ltn (n:Int):Nat:=ltL.getD n.toNat 0
def nD:ltL.length=10:=by decide +kernel
def VH (b:0<=n)(a:n<10):ltL[n.toNat]? = some (ltn n):=by
 have:n.toNat<ltL.length:=by rw[nD];lia
 unfold ltn;rw[Cy,Ay this];rfl
def nB:∀c∈ltL,97<=c/\c<=109:=by decide +kernel
def wz (ns:List Int):Int:=1+dw ns 0 10007 8
def HS (ns:List Int):1<=wz ns/\wz ns<=8:=by have a:=He ns 0 10007 (m:=8) Ξ;have b:=Hf ns 0 10007 (m:=8) Ξ;unfold wz;lia
def wa (ns:List Int):Int:=dw ns 0 15013 (wz ns)
def Pj (ns:List Int):0<=wa ns/\wa ns<wz ns:=⟨He _ _ _ (by have:=HS ns;lia),Hf _ _ _ (by have:=HS ns;lia)⟩
def wb (ns:List Int)(n:Nat):List Nat:=(List.range n).map λ(m:Nat)=>ltn (dw ns (1+(m:Int)) 20011 10)
def FQ (ns:List Int)(n:Nat):(wb ns n).length=n:=by unfold wb;rw[Ah,Dv]
def TR (ns:List Int)(n:Nat):∀c∈wb ns n,97<=c/\c<=109:=λc a=>by obtain⟨m,_,rfl⟩:=AK.mp a;exact nB _ (Cc (VH (He _ _ _ Ξ) (Hf _ _ _ Ξ)))
def ES (ns:List Int)(c:Nat):List Nat:=(wb ns (wz ns).toNat).take (wa ns).toNat++[c]++(wb ns (wz ns).toNat).drop ((wa ns).toNat+1)
def Eo (ns:List Int)(c:Nat):Str:=⟨(ES ns c).toArray⟩
def MB (ns:List Int)(c:Nat):(ES ns c).length=(wz ns).toNat:=by have a:=HS ns;have b:=Pj ns;unfold ES;rw[AM,AM,Bm,Dc,FQ,Gu];lia
def rF:∀w∈fixedS,∀c∈cs w,c≠113/\c≠118/\c≠122:=by decide +kernel
def Ph (ns:List Int) (e:c=113\/c=118\/c=122):Nv (Eo ns c):=by
 have d:=HS ns;refine⟨λz hz=>?_,by unfold Eo;rw[G5,MB];lia,by unfold Eo;rw[G5,MB];lia,λb=>?_⟩
 ·have a:=hz;rcases Br.mp a with y | y
  ·rcases(Br.mp y)with x | x
   ·have:=TR _ _ _ (mem_of_mem_take x);lia
   rw[AF.mp x];lia
  have:=TR _ _ _ (S4 y);lia
 have:=rF _ b c (show c∈ES ns c by unfold ES;simp);lia
def Pi (h:Eo ns c=Eo ns d):c=d:=by
 have e:ES ns c=ES ns d:=A5 cs h;have a:=HS ns;have b:=Pj ns;have e2:(ES ns c)[(wa ns).toNat]? = (ES ns d)[(wa ns).toNat]?:=by rw[e]
 have lt:((wb ns (wz ns).toNat).take (wa ns).toNat).length=(wa ns).toNat:=by rw[Bm,FQ];lia
 have g:∀(A B:List Nat) (x n:Nat),A.length=n->(A++[x]++B)[n]? = some x:=λA B x n e=>by subst e;simp
 unfold ES at e2;rw[g _ _ _ _ lt,g _ _ _ _ lt]at e2;exact Bh e2
def pG:∀xs:List Str,cs (Txt.join (Str.ofString "") xs)=(xs.map cs).flatten:=λxs=>by
 rw[Da,show cs ""=[] from by decide +kernel];induction xs with
 | nil=>rfl
 | cons x r ih=>
  cases r with
  | nil=>show cs x=_;simp
  | cons y r=>show cs x++([]++JS [] ((y::r).map cs))=_;rw[ih];simp
def cU {a:Type}(xs:List a)(g:a->Nat):((xs.map λm=>(⟨#[g m]⟩:Str)).map cs).flatten=xs.map g:=by
 induction xs with
 | nil=>rfl
 | cons x r ih=>rw[Bg,Bg,List.flatten_cons,ih];rfl
def pD (ns:List Int)(n:Nat):Txt.join (Str.ofString "") ((List.range n).map λ(m:Nat)=>(⟨#[ltn (dw ns (1+(m:Int)) 20011 10)]⟩:Str))=⟨(wb ns n).toArray⟩:=by apply BF;rw[pG,cU];rfl
structure W3 (x y z:Str):Prop where
 vx:Nv x
 vy:Nv y
 vz:Nv z
 xy:x≠y
 yz:y≠z
 xz:x≠z
 len:x.length=y.length
def XT (ns:List Int):W3 (Eo ns 113) (Eo ns 118) (Eo ns 122):=⟨Ph ns (.inl U),Ph ns (.inr (.inl U)),Ph ns (.inr (.inr U)),λe=>absurd (Pi e) Ξ,λe=>absurd (Pi e) Ξ,λe=>absurd (Pi e) Ξ,by unfold Eo;rw[G5,G5,MB,MB]⟩
inductive PK (K:W.Frag)(vs:List V)(H:Hp)(Q:VK)(E0_:XK):Prop
 | mk (a:Addr) (ns:List Int) (c0:vs=[.ref a]) (c1:Y K H a (ns.map V.int)) (c2:ns.length<=63) (c3:∀(l:Addr) (x y z:Str) (H':Hp),Same H H'->H' l=some (.lst [.str x,.str y,.str z])->W3 x y z->Q (.ref l) H'):PK K vs H Q E0_
abbrev IJ:List Str:=["_law_script"]
abbrev jT:List Str:=BG IJ ["_law_size", "_law_at", "_law_base"]
def scLWords:Aw jT IJ (Ak Il):=AA
def iA (F:Fun K "_law_cell" "_law_cell" Kf f fd)(T:Bl mg):Aj P w K mg base CX0 1 f fd IK (M4 K):=by
 refine F.oq Zs λl A d s H vs Q E m h=>?_;obtain⟨a,ns,k,rfl,i,n,k0,q⟩:=h;obtain⟨j,rfl⟩:∃j:Nat,(j:Int)=k:=⟨k.toNat,OJ k0⟩;have g:(ns.map V.int).length=ns.length:=Ah ..;refine⟨_,(Ai (AY (AN IX (pv 1) (Be Cv Φ T.len BM (Aa (pv 0) Ac)) (AJ _)) (Al (Av (Ap AL (pv 0) (pv 1) (λ_ _=>U)))) AX) (Al (Av Ad))),_,U,_,U,_,_,U,.inl ⟨_,i,U⟩,_,_,U,U,_,U,?_⟩;refine Bq (λe=>?_) (λe=>?_)
 ·have b:j<ns.length:=by have:=Bp e;rw[g]at this;lia
  have c:cl ns (j:Int)=ns[j]:=by unfold cl;rw[CO];simp[List.getD,b]
  rw[c]at q;exact⟨_,U,_,U,a,_,_,_,U,U,i,Au (by simp[b]),q⟩
 have b:¬j<ns.length:=λz=>e (AV (by rw[g];lia));have c:cl ns (j:Int)=0:=by unfold cl;rw[CO,Cy,OO Ψ];rfl
 rw[c]at q;exact q
def gU (F:Fun K "_law_draw" "_law_draw" EU f fd)(b:Ca P w K mg base CX0 1 "_law_cell" Kf IK (M4 K)):Aj P w K mg base CX0 2 f fd Ey (Fh K):=by refine F.oq scLDraw ?_;rintro e A d s H vs Q E c⟨a,ns,k,p,m,rfl,l,g,k0,k1,j,h,q⟩;refine⟨_,(Ai (AO (i:=4) scLDraw.nd (AD IW (AD DS (AD DS (AD LA (Az b c Aq (Aa (pv 0) (Aa (pv 1) Ac))) Ad) (AD LA (AD LA Ad (pv 1)) (pv 1))) Ad) (pv 2))) (Al (Av (AD IW (AD IW (AD LA (pv 4) Ad) Ad) (pv 3))))),_,U,_,U,a,ns,k,U,l,g,k0,?_⟩;exact⟨_,_,U,U,.inr ⟨Ξ,Ξ⟩,_,U,_,_,U,U,.inl ⟨Ξ,Ξ⟩,_,U,_,_,U,U,.inl ⟨Ψ,Ψ⟩,_,_,U,U,_,_,U,U,_,U,_,_,U,U,j,_,U,_,_,U,U,.inr ⟨Ξ,Ξ⟩,_,_,U,U,(by show(0:Int)<_;decide),_,U,_,_,U,U,h,q⟩
def cX (F:Fun K "_law_words" "_law_words" Il f fd)(T:Bl mg)(b:Ca P w K mg base CX0 2 "_law_draw" EU Ey (Fh K)):Aj P w K mg base CX0 3 f fd IJ (PK K):=by
 refine F.oq scLWords λa2 A y s H vs Q E d h=>?_;obtain⟨a,ns,rfl,z,o,q⟩:=h;have L:=AB;have a0:ltS.length=10:=by decide +kernel
 refine⟨_,(Ai (AO (i:=1) scLWords.nd (AD DS Ad (Az b d Aq (Aa (pv 0) (Aa Ad (Aa Ad (Aa Ad Ac))))))) (Ai (Es (i:=2) scLWords.nd U (DN U) (Az b d Aq (Aa (pv 0) (Aa Ad (Aa Ad (Aa (pv 1) Ac)))))) (Ai (Es (i:=3) scLWords.nd U (DN U) (Dg Ek PySem.F.slot_str_join PySem.F.type_str_join mJ AC (Aa (B1 (sc:=Ak Il) (own:=["_law_k"]) (js:=[0]) BA U (Ky Φ T.range (Aa (pv 1) Ac)) (λ_ _ _ _=>A0 (i:=0) (show List.Nodup (["_law_k", "_law_script"]:List Str) by decide +kernel)) (λ_ _ _ _=>BV) (λ_ _ _ _=>(Ap pJ AC (Az b d Aq (Aa (pv 1) (Aa (AD DS Ad (pv 0)) (Aa Ad (Aa Ad Ac))))) (λ_ _=>U)))) Ac))) (Al (Av (B1 (sc:=Ak Il) (own:=["_law_letter"]) (js:=[3,2]) BA U (Vb AC) (λ_ _ _ _=>A0 (i:=0) (show List.Nodup (["_law_letter", "_law_base", "_law_at"]:List Str) by decide +kernel)) (λ_ _ _ _=>BV) (λ_ _ _ _=>(AD Bs (AD Bs (Ew Uy (pv 1) Eu (Et (pv 2))) (pv 0)) (Ew Uy (pv 1) (Et (AD DS (pv 2) Ad)) Eu))))))))),?_⟩;have z1:=HS ns;have X:=Pj ns;refine⟨_,U,a,ns,_,_,_,U,z,o,Ξ,Ξ,Ξ,Ξ,⟨_,_,U,U,?_⟩⟩;rw[show 1+dw ns 0 10007 8=wz ns from rfl];refine⟨_,U,_,U,a,ns,_,_,_,U,z,o,Ξ,Ξ,Ξ,Ψ,?_⟩;rw[show dw ns 0 15013 (wz ns)=wa ns from rfl];refine⟨U,_,U,_,U,Ψ,Ψ,λD hD=>?_⟩
 refine BK (λi ys n=>ys=((List.range i).map λ(m:Nat)=>(⟨#[ltn (dw ns (1+(m:Int)) 20011 10)]⟩:Str)).map V.str/\Same H n/\n D=some (.lst ys)) ⟨U,Same.new hD,Af⟩
  (λi _ _ g _=>g) (λ_ _ _=>An _) ?_ ?_
 ·rintro i ys n v e g ⟨rfl,s2,e2⟩ ⟨rfl,rfl⟩;refine BX ?_;have B:atI ltL (dw ns (1+(0+(i:Int))) 20011 10)=some (ltn (dw ns (1+(0+(i:Int))) 20011 10)):=by have G:=He ns (1+(0+(i:Int))) 20011 (m:=10) Ξ;have R:=Hf ns (1+(0+(i:Int))) 20011 (m:=10) Ξ;have:=Au (VH G R);rw[OJ G]at this;exact this
  refine⟨_,U,_,U,_,_,U,U,a,ns,_,_,_,U,s2.seq z,o,Ψ,Ψ,Ξ,Ξ,?_⟩;refine⟨_,_,_,U,U,Ψ,B,?_⟩;refine⟨_,e2,by rw[Ah,Ah,Dv];lia,?_,s2.put hD,Af⟩;rw[L4,AR,AR,Hq];rfl
 rintro ys n ⟨rfl,s2,e2⟩;have N:=pD ns (wz ns).toNat;refine⟨_,D,_,U,U,Y.of e2,?_,?_⟩
 ·have:(((List.range (wz ns).toNat).map λ(m:Nat)=>(⟨#[ltn (dw ns (1+(m:Int)) 20011 10)]⟩:Str)).map (·.length)).sum<=30:=by
   have go:∀l:List Nat,((l.map λ(m:Nat)=>(⟨#[ltn (dw ns (1+(m:Int)) 20011 10)]⟩:Str)).map (·.length)).sum=l.length:=λl=>by
    induction l with
    | nil=>rfl
    | cons x r ih=>rw[Bg,Bg,Hs,ih,BU];show 1+_=_;lia
   rw[go,Dv];lia
  rw[Ah,Dv,show(Str.ofString "").length=0 from by decide +kernel];lia
 rw[N];have C:(Str.mk (wb ns (wz ns).toNat).toArray).length=(wz ns).toNat:=by rw[G5,FQ]
 have hz:∀c∈cs "qvz",c<128:=by decide +kernel
 refine⟨"qvz",U,?_,λI j=>?_⟩
 ·rw[<- Array.all_toList];exact E8.mpr λc u=>AV (hz c u)
 refine BK (λi ys e=>ys=(((cs "qvz").take i).map (Eo ns)).map V.str/\Same n e/\e I=some (.lst ys)) ⟨U,Same.new j,Af⟩ (λi _ _ g _=>g) (λ_ _ _=>An _) ?_ ?_
 ·rintro i ys e v H4 g ⟨rfl,s3,e3⟩ ⟨rfl,c,u,rfl⟩;refine BX ?_;have p:(cs "qvz")[i]? = some c:=by show(Str.ofString "qvz").cps.toList[i]? = some c;simpa using u
  have M:(Txt.slice (Str.mk (wb ns (wz ns).toNat).toArray) none (some (wa ns)))=⟨((wb ns (wz ns).toNat).take (wa ns).toNat).toArray⟩:=by have:=StrLaws.sliceText_to (x:=Str.mk (wb ns (wz ns).toNat).toArray) ⟨X.1,by rw[FQ];lia⟩;refine this.trans ?_;rw[Ht,Int.sub_zero]
  have S:(Txt.slice (Str.mk (wb ns (wz ns).toNat).toArray) (some (wa ns+1)) none)=⟨((wb ns (wz ns).toNat).drop ((wa ns).toNat+1)).toArray⟩:=by have:=StrLaws.sliceText_from (x:=Str.mk (wb ns (wz ns).toNat).toArray) (i:=wa ns+1) ⟨Ψ,by rw[FQ];lia⟩;refine this.trans ?_;rw[show(wa ns+1).toNat=(wa ns).toNat+1 from by lia,FA (by rw[Dc];lia)]
  refine⟨_,U,_,U,_,U,_,U,by rw[C];lia,?_⟩;rw[M];refine⟨_,U,_,_,U,U,?_,?_⟩
  ·rw[G5,Bm,FQ];show min _ _+1<=sizeLine;lia
  refine⟨_,U,_,U,_,_,U,U,_,U,_,U,by rw[C];lia,?_⟩;rw[S];refine⟨_,_,U,U,?_,?_⟩
  ·rw[<- A8,AZ,AM,WV,Bm,FQ,G5,Dc,FQ];show min _ _+1+_<=sizeLine;lia
  have W:(Str.mk ((wb ns (wz ns).toNat).take (wa ns).toNat).toArray)++(⟨#[c]⟩:Str)++(Str.mk ((wb ns (wz ns).toNat).drop ((wa ns).toNat+1)).toArray)=Eo ns c:=by apply BF;rw[AZ,AZ];rfl
  rw[W];refine⟨_,e3,by rw[Ah,Ah,Bm,show(cs "qvz").length=3 by decide +kernel];lia,?_,s3.put j,Af⟩;rw[take_succ,p,AR,AR];rfl
 rintro ys e ⟨rfl,s3,e3⟩;exact q I _ _ _ e (s2.trans s3) e3 (XT ns)
def BJ (x y z:Str):List Ro:=[.pl x,.pl y,.th z "ball"]
abbrev CZ:Str := "open"
def AI (z:Str):Nat->Wl
 | 0=>⟨none,[[z],[]],[CZ,CZ]⟩
 | 1=>⟨none,[[],[z]],[CZ,CZ]⟩
 | _=>⟨some z,[[],[]],[CZ,CZ]⟩
def uX:Nv "ball" := ⟨Δ,Δ,Δ,Δ⟩
def Fv (h:W3 x y z):Good (BJ x y z):=by
 refine⟨λr a=>?_,?_,⟨x,[(y,false,none)],U⟩,by show 2<=6;decide,by show 1<=6;decide,λp c k b=>?_⟩
 ·simp only[BJ,Ar,AS,AQ]at a;rcases a with e | e | e
  ·rw[e];exact h.vx
  ·rw[e];exact h.vy
  rw[e];exact⟨h.vz,uX⟩
 ·show [x,y,z].Nodup;simp[h.xy,h.yz,h.xz]
 simp only[BJ,plc,Ar,AS,AQ]at c;rcases c with e | e <;> (rw[e]at b;cases b)
def Z5 (x y z:Str)(i:Nat):Ci (BJ x y z) (AI z i):=by
 have lo:∀W:Wl,W.lids=[CZ,CZ]->∀(i:Nat) p l,(plc (BJ x y z))[i]? = some p->W.lids[i]? = some l->Lo p l:=λW e i p l _ a=>by
  rw[e]at a;refine .inl ?_;match i with
  | 0=>exact(Bh a).symm
  | 1=>exact(Bh a).symm
  | i+2=>cases a
 match i with
 | 0=>exact⟨⟨Gr _,lo _ U⟩,U,U⟩
 | 1=>exact⟨⟨Gr _,lo _ U⟩,U,U⟩
 | i+2=>exact⟨⟨Gr _,lo _ U⟩,U,U⟩
def Xg (h:Ci (BJ x y z) W):∃i,i<3/\W=AI z i:=by
 obtain⟨⟨n,o⟩,p,s⟩:=h;obtain⟨f,g,l⟩:=W;obtain⟨a,b,rfl⟩:=lQ2 p;obtain⟨c,d,rfl⟩:=lQ2 s
 have q:c=CZ:=by
  rcases o 0 (x,false,none) c U U with e | ⟨_,e⟩ | ⟨_,e⟩
  ·exact e
  ·cases e
  exact absurd e nofun
 have u:d=CZ:=by
  rcases o 1 (y,false,none) d U U with e | ⟨_,e⟩ | ⟨_,e⟩
  ·exact e
  ·cases e
  exact absurd e nofun
 subst q;subst u
 have j:f.toList++(a++b)=[z]:=by
  have e:[a,b].flatten=a++b:=by simp
  rw[e]at n;exact List.perm_singleton.mp n
 cases f with
 | some t=>have e:t::(a++b)=[z]:=j;obtain⟨e1,e2⟩:=Fb e;obtain⟨e3,m⟩:=List.append_eq_nil_iff.mp e2;subst e1 e3 m;exact⟨2,Ξ,U⟩
 | none=>
  have e:=j;cases a with
  | nil=>have v:b=[z]:=e;subst v;exact⟨1,Ξ,U⟩
  | cons t r=>obtain⟨e1,e2⟩:=Fb e;obtain⟨e3,m⟩:=List.append_eq_nil_iff.mp e2;subst e1 e3 m;exact⟨0,Ξ,U⟩
def XR (b:i<3)(a:j<3)(h:AI z i=AI z j):i=j:=by
 (obtain rfl|rfl|rfl:=(by lia:i=0∨i=1∨i=2))<;>(obtain rfl|rfl|rfl:=(by lia:j=0∨j=1∨j=2))<;>first|rfl|cases A5 Wl.heaps h|cases A5 Wl.hand h
def C7:List (List Nat):=[[0,1,2],[1,2,0],[2,0,1],[2,1,0],[0,2,1],[1,0,2]]
abbrev iV (l:List Nat):List V:=l.map λn:Nat=>V.int (n:Int)
inductive PD (K:W.Frag)(vs:List V)(H:Hp)(Q:VK)(E0_:XK):Prop
 | mk (a l:Addr) (ns:List Int) (x y z:Str) (c0:vs=[.ref a,.ref l]) (c1:Y K H a (ns.map V.int)) (c2:ns.length<=63) (c3:H l=some (.lst [.str x,.str y,.str z])) (c4:∀(t lw lo:Addr) (us:List V) (o:List Nat) (H':Hp),Same H H'->H' t=some (.tup [.ref lw,.ref lo])->H' lw=some (.lst us)->RdVs H' us ((o.map (AI z)).map dW)->H' lo=some (.lst (iV o))->o∈C7->Q (.ref t) H'):PD K vs H Q E0_
abbrev II:List Str:=["_law_script", "_law_words_here"]
abbrev jS:List Str:=BG II ["_law_lids", "_law_worlds_here", "_law_turn", "_law_order"]
def scLWorlds:Aw jS II (Ak Kb):=AA
def nT (a:H p=none)(xs:List V):∃H',Same H H'/\H' p=some (.tup xs)/\upd H p (.tup xs)=H':=⟨_,Same.new a,Af,U⟩
def nL (a:H p=none)(xs:List V):∃H',Same H H'/\H' p=some (.lst xs)/\upd H p (.lst xs)=H':=⟨_,Same.new a,Af,U⟩
def cV (F:Fun K "_law_worlds" "_law_worlds" Kb f fd)(T:Bl mg)(b:Ca P w K mg base CX0 2 "_law_draw" EU Ey (Fh K)):Aj P w K mg base CX0 3 f fd II (PD K):=by
 refine F.oq scLWorlds λb3 A aj s H vs Q E ac h=>?_;obtain⟨a,l,ns,x,y,z,rfl,hS,hn,hl,q⟩:=h;have b0:sizeLine=16777216:=AB;have a2:atI [V.str x,V.str y,V.str z] ((2:Nat):Int)=some (.str z):=Au U;refine⟨_,(Ai (AO (i:=2) scLWorlds.nd (A6 (Aa AC (Aa AC Ac)))) (Ai (Es (i:=3) scLWorlds.nd U (DN U) (Cu (Aa (A6 (Aa CW (Aa (A6 (Aa (A6 (Aa (Ap AL (pv 1) Ad (λ_ _=>U)) Ac)) (Aa (A6 Ac) Ac))) (Aa (pv 2) Ac)))) (Aa (A6 (Aa CW (Aa (A6 (Aa (A6 Ac) (Aa (A6 (Aa (Ap AL (pv 1) Ad (λ_ _=>U)) Ac)) Ac))) (Aa (pv 2) Ac)))) (Aa (A6 (Aa (Ap AL (pv 1) Ad (λ_ _=>U)) (Aa (A6 (Aa (A6 Ac) (Aa (A6 Ac) Ac))) (Aa (pv 2) Ac)))) Ac))))) (Ai (AO (i:=4) scLWorlds.nd (Az b ac Aq (Aa (pv 0) (Aa Ad (Aa Ad (Aa Ad Ac)))))) (Ai (AO (i:=5) scLWorlds.nd (Cu (Aa (pv 4) (Aa (AD IW (AD DS (pv 4) Ad) Ad) (Aa (AD IW (AD DS (pv 4) Ad) Ad) Ac))))) (Ai (AY (AN By (Az b ac Aq (Aa (pv 0) (Aa Ad (Aa Ad (Aa Ad Ac))))) Ad (AJ _)) (Al (AO (i:=5) scLWorlds.nd (bX U Φ T.list DX Φ T.reversed Δ (Aa (pv 5) Ac)))) AX) (Al (Av (A6 (Aa (B1 (N:=["_law_k", "_law_worlds_here"]) (sc:=Ak Kb) (own:=["_law_k"]) (fr:=["_law_worlds_here"]) (js:=[3]) BA U (BB (pv 5)) (λ_ _ _ _=>A0 (i:=0) (show List.Nodup (["_law_k", "_law_worlds_here"]:List Str) by decide +kernel)) (λ_ _ _ _=>BV) (λ_ _ _ _=>(Ap (RW K U) (pv 1) (pv 0) (λ_ _=>U)))) (Aa (pv 5) Ac)))))))))),?_⟩;refine⟨AG,λt1 h1=>?_⟩;obtain⟨H1,s1,e1,g1⟩:=nT h1 [.str (Str.ofString "open"),.str (Str.ofString "open")];rw[g1];have l1:=s1 _ _ hl;refine⟨_,U,l,_,_,_,U,U,Y.of l1,a2,AG,λt2 h2=>?_⟩;obtain⟨X,s2,e2,g2⟩:=nT h2 [.str z];rw[g2];refine⟨AG,λt3 h3=>?_⟩;obtain⟨H3,s3,e3,g3⟩:=nT h3 [];rw[g3];refine⟨AG,λt4 h4=>?_⟩;obtain⟨H4,s4,e4,g4⟩:=nT h4 [.ref t2,.ref t3];rw[g4];refine⟨_,U,AG,λt5 h5=>?_⟩;obtain⟨H5,s5,e5,g5⟩:=nT h5 [.non,.ref t4,.ref t1];rw[g5];have M:=((s2.trans s3).trans s4).trans s5;have l5:=M _ _ l1;refine⟨AG,λt6 h6=>?_⟩;obtain⟨H6,s6,e6,g6⟩:=nT h6 [];rw[g6];have l6:=s6 _ _ l5;refine⟨_,U,l,_,_,_,U,U,Y.of l6,a2,AG,λt7 h7=>?_⟩;obtain⟨H7,s7,e7,g7⟩:=nT h7 [.str z];rw[g7];refine⟨AG,λt8 h8=>?_⟩;obtain⟨H8,s8,e8,g8⟩:=nT h8 [.ref t6,.ref t7];rw[g8];refine⟨_,U,AG,λt9 h9=>?_⟩;obtain⟨H9,s9,e9,g9⟩:=nT h9 [.non,.ref t8,.ref t1];rw[g9];have B:=((s6.trans s7).trans s8).trans s9;have l9:=B _ _ l5;refine⟨_,U,l,_,_,_,U,U,Y.of l9,a2,?_⟩;refine⟨AG,λal ag=>?_⟩;obtain⟨b4,av,am,a8⟩:=nT ag [];rw[a8];refine⟨AG,λay ao=>?_⟩;obtain⟨b1,a0,ae,ab⟩:=nT ao [];rw[ab];refine⟨AG,λap ar=>?_⟩;obtain⟨b2,I,aq,aa⟩:=nT ar [.ref al,.ref ay];rw[aa];refine⟨_,U,AG,λS af=>?_⟩;obtain⟨au,C,az,a5⟩:=nT af [.str z,.ref ap,.ref t1];rw[a5];have d:=((av.trans a0).trans I).trans C;refine⟨AG,λlw as=>?_⟩;obtain⟨H14,j,a9,a3⟩:=nL as [.ref t5,.ref t9,.ref S];rw[a3];have sA:Same H H14:=(((s1.trans M).trans B).trans d).trans j
 have R:∀i,i<3->RdV H14 (([V.ref t5,V.ref t9,V.ref S]:List V).getD i .non) (dW (AI z i)):=by
  have q1:=j _ _ (d _ _ (B _ _ (M _ _ e1)));have rl:RdV H14 (.ref t1) (.tuple ([CZ,CZ].map PyData.str)):=.tup q1 (.cons (.str _) (.cons (.str _) .nil));have k5:∀c u,H5 c=some u->H14 c=some u:=λc u e=>j _ _ (d _ _ (B _ _ e));have k9:∀c u,H9 c=some u->H14 c=some u:=λc u e=>j _ _ (d _ _ e);have G:∀c u,au c=some u->H14 c=some u:=λc u e=>j _ _ e;intro i p;match i,p with
  | 0,_=>exact .tup (k5 _ _ e5) (.cons .non (.cons (.tup (k5 _ _ (s5 _ _ e4)) (.cons (.tup (k5 _ _ (s5 _ _ (s4 _ _ (s3 _ _ e2)))) (.cons (.str _) .nil)) (.cons (.tup (k5 _ _ (s5 _ _ (s4 _ _ e3))) .nil) .nil))) (.cons rl .nil)))
  | 1,_=>exact .tup (k9 _ _ e9) (.cons .non (.cons (.tup (k9 _ _ (s9 _ _ e8)) (.cons (.tup (k9 _ _ (s9 _ _ (s8 _ _ (s7 _ _ e6)))) .nil) (.cons (.tup (k9 _ _ (s9 _ _ (s8 _ _ e7))) (.cons (.str _) .nil)) .nil))) (.cons rl .nil)))
  | 2,_=>exact .tup (G _ _ az) (.cons (.str _) (.cons (.tup (G _ _ (C _ _ aq)) (.cons (.tup (G _ _ (C _ _ (I _ _ (a0 _ _ am)))) .nil) (.cons (.tup (G _ _ (C _ _ (I _ _ ae))) .nil) .nil))) (.cons rl .nil)))
 generalize [V.ref t5,V.ref t9,V.ref S]=ws at a9 R ⊢;clear g1 g2 g3 g4 g5 g6 g7 g8 g9 a8 ab aa a5 a3;refine⟨_,U,a,ns,_,_,_,U,sA.seq hS,hn,Ξ,Ξ,Ξ,Ξ,?_⟩;have d0:=He ns 9 10007 (m:=3) Ξ;have d3:=Hf ns 9 10007 (m:=3) Ξ;generalize dw ns 9 10007 3=r at d0 d3 ⊢;refine⟨_,U,_,U,_,_,U,U,_,_,U,U,Ξ,_,U,_,_,U,U,_,_,U,U,Ξ,AG,λlo aw=>?_⟩;obtain⟨ad,W,L,a4⟩:=nL aw [.int r,.int ((r+1) % 3),.int ((r+2) % 3)];rw[a4];clear a4;have sB:=sA.trans W;dsimp only;refine UC (λa7 H'=>∃(g:Addr) (o:List Nat),a7=[some (.ref a),some (.ref l),some (.ref t1),some (.ref lw),some (.int r),some (.ref g)]/\Same ad H'/\H' g=some (.lst (iV o))/\o∈C7) ?_ (λN hN=>?_)
 ·rintro a7 H' ⟨g,o,rfl,sC,eo,ho⟩;have ai:=sC _ _ (W _ _ a9)
  have o3:∀i∈o,i<3:=by
   have:∀o∈C7,∀i∈o,i<3:=by decide
   exact this o ho
  have ol:o.length=3:=by
   have:∀o∈C7,o.length=3:=by decide
   exact this o ho
  refine⟨_,U,g,U,⟨_,Y.of eo⟩,λD hD=>?_⟩
  refine BK (n:=o.length) (λi ys X=>ys=(o.take i).map (λk=>ws.getD k .non)/\Same H' X/\X D=some (.lst ys)) ⟨U,Same.new hD,Af⟩
   (λi ys X p ⟨_,s2,_⟩=>⟨_,.int (o[i]:Nat),Y.of (s2 _ _ eo),by rw[AU,Ay p];rfl⟩) (λys X ah=>by obtain⟨_,s2,_⟩:=ah;exact⟨_,Y.of (s2 _ _ eo),by rw[Ah];exact An _⟩) ?_ ?_
  ·rintro i ys X v H3 p ⟨rfl,s2,e2⟩ ⟨rfl,hy⟩;refine BX ?_;have hv:v=.int (o[i]:Nat):=by have:=hy _ (Y.of (s2 _ _ eo));rw[AU,Ay p]at this;(exact(Bh this).symm)
   subst hv;have hk:=o3 o[i] (Cb p);have a1:o.take (i+1)=o.take i++[o[i]]:=BN p;generalize o[i]=k at hk a1 ⊢;have rk:=R k hk
   have ak:atI ws ((k:Nat):Int)=some (ws.getD k .non):=by
    refine Au ?_;rw[Cy]at rk ⊢;cases hx:ws[k]? with
    | none=>rw[hx]at rk;exact absurd rk (by intro z;match k with | 0=>cases z | 1=>cases z | _+2=>cases z)
    | some u=>rfl
   refine⟨_,U,_,U,lw,_,_,_,U,U,Y.of (s2 _ _ ai),ak,?_⟩;refine⟨_,e2,by rw[Ah,Bm];lia,?_,s2.put hD,Af⟩;rw[a1,AR];rfl
  rintro ys X ⟨rfl,s2,e2⟩;rw[BQ]at e2;refine⟨_,U,AG,λtt a6=>?_⟩;obtain⟨H3,s3,e3,g3⟩:=nT a6 [.ref D,.ref g];rw[g3];have sD:Same H14 H3:=(W.trans sC).trans (s2.trans s3);refine q tt D g _ o H3 ((sB.trans sC).trans (s2.trans s3)) e3 (s3 _ _ e2) ?_ (s3 _ _ (s2 _ _ eo)) ho;clear e2 ol a6 g3 ho eo;revert o3;induction o with
  | nil=>exact λ_=>.nil
  | cons k r ih=>exact λo3=>.cons (sD.rd (R k (o3 k (Bb ..)))) (ih λi p=>o3 i (Bc _ p))
 refine⟨_,U,a,ns,_,_,_,U,sB.seq hS,hn,Ξ,Ξ,Ξ,Ξ,U,_,U,?_⟩
 obtain⟨o,er,ho,an⟩:∃o:List Nat,[V.int r,V.int ((r+1) % 3),V.int ((r+2) % 3)]=iV o/\o∈C7/\o.reverse∈C7:=by
  have:r=0\/r=1\/r=2:=by lia
  rcases this with e | e | e
  ·exact⟨[0,1,2],by rw[e];rfl,Ξ,Ξ⟩
  ·exact⟨[1,2,0],by rw[e];rfl,Ξ,Ξ⟩
  exact⟨[2,0,1],by rw[e];rfl,Ξ,Ξ⟩
 rw[er]at L;refine Bq (λ_=>?_) (λ_=>?_)
 ·refine⟨_,U,lo,_,U,Y.of L,λax h2=>?_⟩;refine hN _ _ ⟨ax,o.reverse,U,Same.new h2,?_,an⟩;rw[Af];exact A5 (λl=>some (HO.lst l)) List.map_reverse.symm
 exact hN _ _ ⟨lo,o,U,Same.refl _,L,ho⟩
def Jm (x y z:Str):List Am:=[.isin z (x,false,none) 0,.isin z (y,false,none) 1,.held z,.free,.pl (x,false,none) 0 "bare",.pl (y,false,none) 1 "open",.pl (y,false,none) 1 "shut",.top z,.on z z]
def JZ:List (List Nat):=[[0],[1],[2],[0,1],[1,2],[0,1,2],[],[0,1],[]]
def tvT (z:Str)(t:Tt):List Nat:=[0,1,2].filter λi=>t.2.tv (AI z i) == t.1
def tvP (z:Str)(ts:List Tt):List Nat:=[0,1,2].filter λi=>F5 (AI z i) ts
def Fg (z:Str)(ps:List (List Tt)):List Nat:=[0,1,2].filter λi=>CK (AI z i) ps
def vH (k:Nat)(b:Am)(h:(Jm x y z)[k]? = some b):b.ok (BJ x y z):=by
 have a:z∈tn (BJ x y z):=AF.mpr U;match k with
 | 0=>cases h;exact⟨a,U⟩
 | 1=>cases h;exact⟨a,U⟩
 | 2=>cases h;exact a
 | 3=>cases h;trivial
 | 4=>cases h;exact⟨U,Δ⟩
 | 5=>cases h;exact⟨U,Δ⟩
 | 6=>cases h;exact⟨U,Δ⟩
 | 7=>cases h;exact a
 | 8=>cases h;exact⟨a,a⟩
 | k+9=>cases h
def vG (k:Nat)(f:Am)(u:List Nat)(h:(Jm x y z)[k]? = some f)(a:JZ[k]? = some u):∀i,i<3->(f.tv (AI z i)=true↔i∈u):=by
 have e:Str.ofString "open" ≠ Str.ofString "bare" := by decide +kernel
 have d:Str.ofString "shut" ≠ Str.ofString "bare" := by decide +kernel
 have c:Str.ofString "open" ≠ Str.ofString "shut" := by decide +kernel
 intro i b;match k with
 | 0=>cases h;cases a;match i,b with | 0,_=>simp[Am.tv,AI] | 1,_=>simp[Am.tv,AI] | 2,_=>simp[Am.tv,AI]
 | 1=>cases h;cases a;match i,b with | 0,_=>simp[Am.tv,AI] | 1,_=>simp[Am.tv,AI] | 2,_=>simp[Am.tv,AI]
 | 2=>cases h;cases a;match i,b with | 0,_=>simp[Am.tv,AI] | 1,_=>simp[Am.tv,AI] | 2,_=>simp[Am.tv,AI]
 | 3=>cases h;cases a;match i,b with | 0,_=>simp[Am.tv,AI] | 1,_=>simp[Am.tv,AI] | 2,_=>simp[Am.tv,AI]
 | 4=>cases h;cases a;match i,b with | 0,_=>simp[Am.tv,AI] | 1,_=>simp[Am.tv,AI] | 2,_=>simp[Am.tv,AI]
 | 5=>cases h;cases a;match i,b with | 0,_=>simp[Am.tv,AI,e,CZ] | 1,_=>simp[Am.tv,AI,e,CZ] | 2,_=>simp[Am.tv,AI,e,CZ]
 | 6=>cases h;cases a;match i,b with | 0,_=>simp[Am.tv,AI,d,c,CZ] | 1,_=>simp[Am.tv,AI,d,c,CZ] | 2,_=>simp[Am.tv,AI,d,c,CZ]
 | 7=>cases h;cases a;match i,b with | 0,_=>simp[Am.tv,AI] | 1,_=>simp[Am.tv,AI] | 2,_=>simp[Am.tv,AI]
 | 8=>cases h;cases a;match i,b with | 0,_=>simp[Am.tv,AI,Gf] | 1,_=>simp[Am.tv,AI,Gf] | 2,_=>simp[Am.tv,AI,Gf]
 | k+9=>cases h
structure wB (H:Hp)(v:V)(am:Am)(u:List Nat):Prop where
 ex:∃t b:Addr,v=.ref t/\H t=some (.tup [.str (Txt.join blank am.ws),.ref b])/\H b=some (.tup (iV u))
inductive QR (vs:List V)(H:Hp)(Q:VK)(E0_:XK):Prop
 | mk (l:Addr) (x y z:Str) (c0:vs=[.ref l]) (c1:H l=some (.lst [.str x,.str y,.str z])) (c2:W3 x y z) (c3:∀(r:Addr) (us:List V) (H':Hp),Same H H'->H' r=some (.lst us)->us.length=9->(∀(k:Nat) v am u,us[k]? = some v->(Jm x y z)[k]? = some am->JZ[k]? = some u->wB H' v am u)->Q (.ref r) H'):QR  vs H Q E0_
abbrev La:List Str:=["_law_words_here"]
abbrev kG:List Str:=BG La ["_law_atoms_here"]
def scLAtoms:Aw kG La (Ak Nt):=AA
def j3 (d:cs m=32::(cs b++[32])):a++m++c=Txt.join blank [a,b,c]:=by apply BF;rw[AZ,AZ,B3,d];show _=cs a++32::(cs b++32::cs c);simp
def j2 (c:cs m=32::cs b):a++m=Txt.join blank [a,b]:=by apply BF;rw[AZ,B3,c];rfl
def iJ (F:Fun K "_law_atoms" "_law_atoms" Nt f fd):Aj P w K mg base CX0 1 f fd La QR:=by
 refine F.oq scLAtoms λcx A bl s H vs Q E d2 h=>?_;obtain⟨l,x,y,z,rfl,hl,w3,q⟩:=h;have cp:=AB;have a0:atI [V.str x,V.str y,V.str z] ((0:Nat):Int)=some (.str x):=Au U;have a1:atI [V.str x,V.str y,V.str z] ((1:Nat):Int)=some (.str y):=Au U;have a2:atI [V.str x,V.str y,V.str z] ((2:Nat):Int)=some (.str z):=Au U;have lx:=w3.vx.len;have ly:=w3.vy.len;have lz:=w3.vz.len;have e:∀a m c:Str,a.length<=8->m.length<=8->c.length<=8->(a++m).length+c.length<=sizeLine/\a.length+m.length<=sizeLine:=λa m c h1 h2 h3=>by rw[BW];lia
 refine⟨_,(Ai (AO (i:=1) scLAtoms.nd (Cu (Aa (A6 (Aa (AD Bs (AD Bs (Ap AL (pv 0) Ad (λ_ _=>U)) AC) (Ap AL (pv 0) Ad (λ_ _=>U))) (Aa (A6 (Aa Ad Ac)) Ac))) (Aa (A6 (Aa (AD Bs (AD Bs (Ap AL (pv 0) Ad (λ_ _=>U)) AC) (Ap AL (pv 0) Ad (λ_ _=>U))) (Aa (A6 (Aa Ad Ac)) Ac))) Ac)))) (Ai (AO (i:=1) scLAtoms.nd (AD G3 (pv 1) (Cu (Aa (A6 (Aa (AD Bs (Ap AL (pv 0) Ad (λ_ _=>U)) AC) (Aa (A6 (Aa Ad Ac)) Ac))) (Aa (A6 (Aa AC (Aa (A6 (Aa Ad (Aa Ad Ac))) Ac))) (Aa (A6 (Aa (AD Bs (Ap AL (pv 0) Ad (λ_ _=>U)) AC) (Aa (A6 (Aa Ad (Aa Ad Ac))) Ac))) Ac)))))) (Ai (AO (i:=1) scLAtoms.nd (AD G3 (pv 1) (Cu (Aa (A6 (Aa (AD Bs (Ap AL (pv 0) Ad (λ_ _=>U)) AC) (Aa (A6 (Aa Ad (Aa Ad (Aa Ad Ac)))) Ac))) (Aa (A6 (Aa (AD Bs (Ap AL (pv 0) Ad (λ_ _=>U)) AC) (Aa (A6 Ac) Ac))) (Aa (A6 (Aa (AD Bs (Ap AL (pv 0) Ad (λ_ _=>U)) AC) (Aa (A6 (Aa Ad (Aa Ad Ac))) Ac))) Ac)))))) (Al (Av (AD G3 (pv 1) (Cu (Aa (A6 (Aa (AD Bs (AD Bs (Ap AL (pv 0) Ad (λ_ _=>U)) AC) (Ap AL (pv 0) Ad (λ_ _=>U))) (Aa (A6 Ac) Ac))) Ac)))))))),_,U,l,_,_,_,U,U,Y.of hl,a2,_,_,U,U,(e z " in " x Ψ Δ Ψ).2,_,U,l,_,_,_,U,U,Y.of hl,a0,_,_,U,U,(e z " in " x Ψ Δ Ψ).1,AG,λp1 n1=>?_⟩;obtain⟨K1,s1,e1,g1⟩:=nT n1 [.int 0];rw[g1];clear g1;refine⟨AG,λp2 n2=>?_⟩;obtain⟨K2,s2,e2,g2⟩:=nT n2 [.str (z++Str.ofString " in " ++ x),.ref p1];rw[g2];clear g2;have m2:=s2 _ _ (s1 _ _ hl);refine⟨_,U,l,_,_,_,U,U,Y.of m2,a2,_,_,U,U,(e z " in " y Ψ Δ Ψ).2,_,U,l,_,_,_,U,U,Y.of m2,a1,_,_,U,U,(e z " in " y Ψ Δ Ψ).1,AG,λp3 n3=>?_⟩;obtain⟨K3,s3,e3,g3⟩:=nT n3 [.int 1];rw[g3];clear g3;refine⟨AG,λp4 n4=>?_⟩;obtain⟨K4,s4,e4,g4⟩:=nT n4 [.str (z++" in " ++ y),.ref p3];rw[g4];clear g4;have m4:=s4 _ _ (s3 _ _ m2);refine⟨AG,λp5 n5=>?_⟩;obtain⟨K5,s5,e5,g5⟩:=nL n5 [.ref p2,.ref p4];rw[g5];clear g5;have m5:=s5 _ _ m4;refine⟨_,U,_,U,l,_,_,_,U,U,Y.of m5,a2,_,_,U,U,(e z " held" z Ψ Δ Ψ).2,AG,λp6 n6=>?_⟩;obtain⟨K6,s6,e6,g6⟩:=nT n6 [.int 2];rw[g6];clear g6;refine⟨AG,λp7 n7=>?_⟩;obtain⟨K7,s7,e7,g7⟩:=nT n7 [.str (z++" held"),.ref p6];rw[g7];clear g7;have m7:=s7 _ _ (s6 _ _ m5);refine⟨AG,λp8 n8=>?_⟩;obtain⟨K8,s8,e8,g8⟩:=nT n8 [.int 0,.int 1];rw[g8];clear g8;refine⟨AG,λp9 n9=>?_⟩;obtain⟨K9,s9,e9,g9⟩:=nT n9 [.str (Str.ofString "free"),.ref p8];rw[g9];clear g9;have m9:=s9 _ _ (s8 _ _ m7);refine⟨_,U,l,_,_,_,U,U,Y.of m9,a0,_,_,U,U,(e x " bare" x Ψ Δ Ψ).2,AG,λN bu=>?_⟩;obtain⟨cy,T,bz,ar⟩:=nT bu [.int 1,.int 2];rw[ar];clear ar;refine⟨AG,λd bn=>?_⟩;obtain⟨cz,B,b8,az⟩:=nT bn [.str (x++" bare"),.ref N];rw[az];clear az;have bo:=B _ _ (T _ _ m9);refine⟨AG,λbg ck=>?_⟩;obtain⟨cq,D,c7,ay⟩:=nL ck [.ref p7,.ref p9,.ref d];rw[ay];clear ay;refine⟨p5,bg,_,_,U,U,(D _ _ (B _ _ (T _ _ (s9 _ _ (s8 _ _ (s7 _ _ (s6 _ _ e5))))))),c7,AG,λbq bh=>?_⟩;obtain⟨d1,b0,cg,aj⟩:=nL bh ([.ref p2,.ref p4]++[.ref p7,.ref p9,.ref d]);rw[aj];clear aj;have aq:=b0 _ _ (D _ _ bo);refine⟨_,U,_,U,l,_,_,_,U,U,Y.of aq,a1,_,_,U,U,(e y " open" y Ψ Δ Ψ).2,AG,λa8 bj=>?_⟩;obtain⟨cv,a4,c3,ah⟩:=nT bj [.int 0,.int 1,.int 2];rw[ah];clear ah;refine⟨AG,λj ch=>?_⟩;obtain⟨cu,M,bm,ai⟩:=nT ch [.str (y++" open"),.ref a8];rw[ai];clear ai;have b4:=M _ _ (a4 _ _ aq);refine⟨_,U,l,_,_,_,U,U,Y.of b4,a1,_,_,U,U,(e y " shut" y Ψ Δ Ψ).2,AG,λR bd=>?_⟩;obtain⟨d7,X,cj,av⟩:=nT bd [];rw[av];clear av;refine⟨AG,λr ba=>?_⟩;obtain⟨d3,C,c8,ae⟩:=nT ba [.str (y++Str.ofString " shut"),.ref R];rw[ae];clear ae;have b2:=C _ _ (X _ _ b4);refine⟨_,U,l,_,_,_,U,U,Y.of b2,a2,_,_,U,U,(e z " top" z Ψ Δ Ψ).2,AG,λS be=>?_⟩;obtain⟨ct,a5,cn,b3⟩:=nT be [.int 0,.int 1];rw[b3];clear b3;refine⟨AG,λo bp=>?_⟩;obtain⟨cr,a7,c5,ap⟩:=nT bp [.str (z++" top"),.ref S];rw[ap];clear ap;have c0:=a7 _ _ (a5 _ _ b2);refine⟨AG,λbr bx=>?_⟩;obtain⟨co,a3,ci,ag⟩:=nL bx [.ref j,.ref r,.ref o];rw[ag];clear ag;refine⟨bq,br,_,_,U,U,(a3 _ _ (a7 _ _ (a5 _ _ (C _ _ (X _ _ (M _ _ (a4 _ _ cg))))))),ci,AG,λbf cb=>?_⟩;obtain⟨d5,aw,bv,af⟩:=nL cb (([.ref p2,.ref p4]++[.ref p7,.ref p9,.ref d])++[.ref j,.ref r,.ref o]);rw[af];clear af;have a6:=aw _ _ (a3 _ _ c0);refine⟨_,U,_,U,l,_,_,_,U,U,Y.of a6,a2,_,_,U,U,(e z " on " z Ψ Δ Ψ).2,_,U,l,_,_,_,U,U,Y.of a6,a2,_,_,U,U,(e z " on " z Ψ Δ Ψ).1,AG,λa9 c2=>?_⟩;obtain⟨d0,W,c4,au⟩:=nT c2 [];rw[au];clear au;refine⟨AG,λG bb=>?_⟩;obtain⟨cw,L,b9,b1⟩:=nT bb [.str (z++" on " ++ z),.ref a9];rw[b1];clear b1;have bc:=L _ _ (W _ _ a6);refine⟨AG,λbw ce=>?_⟩;obtain⟨d4,I,ca,as⟩:=nL ce [.ref G];rw[as];clear as;have bi:=I _ _ bc;refine⟨bf,bw,_,_,U,U,(I _ _ (L _ _ (W _ _ bv))),ca,AG,λcm c9=>?_⟩;obtain⟨cc,aa,c6,b7⟩:=nL c9 ((([.ref p2,.ref p4]++[.ref p7,.ref p9,.ref d])++[.ref j,.ref r,.ref o])++[.ref G]);rw[b7];clear b7;have d6:=aa _ _ bi;have cd:=aa.trans (Same.refl _);have ad:=I.trans cd;have ax:=L.trans ad;have c1:=aw.trans (W.trans ax);have b6:=a3.trans c1;have an:=a7.trans b6;have ao:=a5.trans an;have ac:=C.trans ao;have ak:=X.trans ac;have ab:=M.trans ak;have cf:=b0.trans (a4.trans ab);have al:=D.trans cf;have b5:=B.trans al;have f9:=T.trans b5;have f8:=s9.trans f9;have f7:=s8.trans f8;have f6:=s7.trans f7;have f5:=s6.trans f6;have f4:=s5.trans f5;have f3:=s4.trans f4;have f2:=s3.trans f3;have f1:=s2.trans f2;refine q cm _ cc (s1.trans f1) c6 U λk v am u g p n=>?_;match k with
 | 0=>cases g;cases p;cases n;refine⟨p2,p1,U,?_,f1 _ _ e1⟩;rw[f2 _ _ e2];exact A5 (λs=>some (HO.tup [V.str s,V.ref p1])) (j3 (b := "in") Δ)
 | 1=>cases g;cases p;cases n;refine⟨p4,p3,U,?_,f3 _ _ e3⟩;rw[f4 _ _ e4];exact A5 (λs=>some (HO.tup [V.str s,V.ref p3])) (j3 (b := "in") Δ)
 | 2=>cases g;cases p;cases n;refine⟨p7,p6,U,?_,f6 _ _ e6⟩;rw[f7 _ _ e7];exact A5 (λs=>some (HO.tup [V.str s,V.ref p6])) (j2 (b := "held") Δ)
 | 3=>cases g;cases p;cases n;refine⟨p9,p8,U,?_,f8 _ _ e8⟩;rw[f9 _ _ e9];exact A5 (λs=>some (HO.tup [V.str s,V.ref p8])) (show "free" = Txt.join blank ["free"] by decide +kernel)
 | 4=>cases g;cases p;cases n;refine⟨d,N,U,?_,b5 _ _ bz⟩;rw[al _ _ b8];exact A5 (λs=>some (HO.tup [V.str s,V.ref N])) (j2 (b := "bare") Δ)
 | 5=>cases g;cases p;cases n;refine⟨j,a8,U,?_,ab _ _ c3⟩;rw[ak _ _ bm];exact A5 (λs=>some (HO.tup [V.str s,V.ref a8])) (j2 (b := "open") Δ)
 | 6=>cases g;cases p;cases n;refine⟨r,R,U,?_,ac _ _ cj⟩;rw[ao _ _ c8];exact A5 (λs=>some (HO.tup [V.str s,V.ref R])) (j2 (b := "shut") Δ)
 | 7=>cases g;cases p;cases n;refine⟨o,S,U,?_,an _ _ cn⟩;rw[b6 _ _ c5];exact A5 (λs=>some (HO.tup [V.str s,V.ref S])) (j2 (b := "top") Δ)
 | 8=>cases g;cases p;cases n;refine⟨G,a9,U,?_,ax _ _ c4⟩;rw[ad _ _ b9];exact A5 (λs=>some (HO.tup [V.str s,V.ref a9])) (j3 (b := "on") Δ)
 | k+9=>cases g
theorem Ft (i:Nat):∀u:List Nat,Fu (.int (i:Int)) (iV u)=decide (i∈u)
 | []=>by rw[Bi Θ];rfl
 | k::r=>by
  show(DW (.int (k:Int)) (.int (i:Int)) || Fu (.int (i:Int)) (iV r))=_;rw[Ft i r]
  have e:DW (.int (k:Int)) (.int (i:Int))=decide (k=i):=by
   show decide ((k:Int)=(i:Int))=decide (k=i);by_cases h:k=i
   ·rw[AV h,AV Ψ]
   rw[Bi h,Bi Ψ]
  rw[e,EI];simp only[OK,Ej,Ar];constructor
  ·rintro(h | h)
   ·exact .inl h.symm
   exact .inr h
  rintro(h | h)
  ·exact .inl h.symm
  exact .inr h
def LV (u:List Nat):(iV u).all ED=true:=E8.mpr λv a=>by obtain⟨i,_,rfl⟩:=AK.mp a;rfl
inductive PL (K:W.Frag)(vs:List V)(H:Hp)(Q:VK)(E0_:XK):Prop
 | mk (a l:Addr) (ns:List Int) (k:Int) (x y z:Str) (c0:vs=[.ref a,.int k,.ref l]) (c1:Y K H a (ns.map V.int)) (c2:ns.length<=63) (c3:0<=k) (c4:k<1000) (c5:H l=some (.lst [.str x,.str y,.str z])) (c6:W3 x y z) (c7:∀(t b:Addr) (tt:Tt) (H':Hp),Same H H'->H' t=some (.tup [.str (Bn tt),.ref b])->H' b=some (.lst (iV (tvT z tt)))->tt.2.ok (BJ x y z)->Q (.ref t) H'):PL K vs H Q E0_
inductive P3 (K:W.Frag)(vs:List V)(H:Hp)(Q:VK)(E0_:XK):Prop
 | mk (a l:Addr) (ns:List Int) (k:Int) (x y z:Str) (c0:vs=[.ref a,.int k,.ref l]) (c1:Y K H a (ns.map V.int)) (c2:ns.length<=63) (c3:0<=k) (c4:k<900) (c5:H l=some (.lst [.str x,.str y,.str z])) (c6:W3 x y z) (c7:∀(t b:Addr) (ts:List Tt) (H':Hp),Same H H'->H' t=some (.tup [.str (A9 ts),.ref b])->H' b=some (.lst (iV (tvP z ts)))->Fe (BJ x y z) ts->Q (.ref t) H'):P3 K vs H Q E0_
inductive Qr (K:W.Frag)(vs:List V)(H:Hp)(Q:VK)(E0_:XK):Prop
 | mk (a l:Addr) (ns:List Int) (k:Int) (x y z:Str) (c0:vs=[.ref a,.int k,.ref l]) (c1:Y K H a (ns.map V.int)) (c2:ns.length<=63) (c3:0<=k) (c4:k<800) (c5:H l=some (.lst [.str x,.str y,.str z])) (c6:W3 x y z) (c7:∀(t b:Addr) (ps:List (List Tt)) (H':Hp),Same H H'->H' t=some (.tup [.str (AE ps),.ref b])->H' b=some (.lst (iV (Fg z ps)))->Cd (BJ x y z) ps->Q (.ref t) H'):Qr K vs H Q E0_
abbrev KR:List Str:=["_law_script", "_law_k", "_law_words_here"]
abbrev jV:List Str:=BG KR ["_law_atom"]
def scLTerm:Aw jV KR (Ak Im):=AA
abbrev KU:List Str:=["_law_script", "_law_k", "_law_words_here"]
abbrev jX:List Str:=BG KU ["_law_one", "_law_other"]
def scLPart:Aw jX KU (Ak Kc):=AA
abbrev KY:List Str:=["_law_script", "_law_k", "_law_words_here"]
abbrev jZ:List Str:=BG KY ["_law_one", "_law_other"]
def scLFact:Aw jZ KY (Ak Ke):=AA
def Yd (a:Am):Str.ofString "not " ++ Txt.join blank a.ws=Bn (false,a):=by apply BF;rw[AZ,Bn,B3,B3];show _=J ([cs "not"]++a.ws.map cs);rw[En Θ (by simpa using a.ne)];rfl
def Yc (a:Am):Txt.join blank a.ws=Bn (true,a):=rfl
def cG (t:Tt):Bn t=A9 [t]:=rfl
def cE (t u:Tt):Bn t++Str.ofString " and " ++ Bn u=A9 [t,u]:=by apply BF;rw[AZ,AZ,A9,Da];show _=cs (Bn t)++(cs " and "++cs (Bn u));rw[B4]
def rK (p:List Tt):A9 p=AE [p]:=rfl
def rH (p q:List Tt):A9 p++Str.ofString " or " ++ A9 q=AE [p,q]:=by apply BF;rw[AZ,AZ,AE,Da];show _=cs (A9 p)++(cs " or "++cs (A9 q));rw[B4]
def Jf (p:Nat->Bool):(List.range (i+1)).filter p=(List.range i).filter p++(if p i=true then [i]else []):=by
 rw[L4,Me];congr 1;by_cases h:p i=true
 ·rw[As h,OV h];rfl
 rw[Ag h,OU h];rfl
def r3:List.range 3=[0,1,2]:=by decide
def cZ (F:Fun K "_law_term" "_law_term" Im f fd)(T:Bl mg)(b:Ca P w K mg base CX0 2 "_law_draw" EU Ey (Fh K))(c:Ca P w K mg base CX0 1 "_law_atoms" Nt La QR):Aj P w K mg base CX0 3 f fd KR (PL K):=by
 refine F.oq scLTerm λa6 A a1 s H vs Q E G h=>?_;obtain⟨a,l,ns,k,x,y,z,rfl,hS,hn,k0,k1,hl,w3,q⟩:=h;have a4:sizeLine=16777216:=AB;refine⟨_,(Ai (Es (i:=3) scLTerm.nd U (DN U) (Ap AL (Az c (G.mono Ξ) Aq (Aa (pv 2) Ac)) (Az b G Aq (Aa (pv 0) (Aa (pv 1) (Aa Ad (Aa Ad Ac))))) (λ_ _=>U))) (Ai (AY (AN By (Az b G Aq (Aa (pv 0) (Aa (pv 1) (Aa Ad (Aa Ad Ac))))) Ad (AJ _)) (Al (Av (A6 (Aa (AD Bs AC (Ap Bf (pv 3) Ad (λ_ _=>U))) (Aa (B1 (sc:=Ak Im) (own:=["_law_world"]) (js:=[3]) BA U (Ky Φ T.range (Aa Ad Ac)) (λ_ _ _ _=>A0 (i:=0) (show List.Nodup (["_law_world", "_law_atom"]:List Str) by decide +kernel)) (λ_ _ _ _=>GM (AN (cM K U) (pv 0) (Ap (C8 K U) (pv 1) Ad (λ_ _=>U)) Φ)) (λ_ _ _ _=>(pv 0))) Ac))))) AX) (Al (Av (A6 (Aa (Ap Bf (pv 3) Ad (λ_ _=>U)) (Aa (B1 (sc:=Ak Im) (own:=["_law_world"]) (js:=[3]) BA U (Ky Φ T.range (Aa Ad Ac)) (λ_ _ _ _=>A0 (i:=0) (show List.Nodup (["_law_world", "_law_atom"]:List Str) by decide +kernel)) (λ_ _ _ _=>GM (AN (LB K U) (pv 0) (Ap (C8 K U) (pv 1) Ad (λ_ _=>U)) Φ)) (λ_ _ _ _=>(pv 0))) Ac))))))),?_⟩;refine⟨_,U,l,x,y,z,U,hl,w3,λr us H1 R er l9 a2=>?_⟩;refine⟨_,U,_,U,a,ns,_,_,_,U,R.seq hS,hn,k0,Ψ,Ξ,Ξ,?_⟩;have d9:=Hf ns k 10007 (m:=9) Ξ;obtain⟨n,a0⟩:∃n:Nat,(n:Int)=dw ns k 10007 9:=⟨_,OJ (He ns k 10007 (m:=9) Ξ)⟩;have n9:n<9:=by lia
 rw[<- a0];have hv:us[n]? = some us[n]:=Ay Ψ;generalize us[n]=v at hv;have X:(Jm x y z)[n]? = some (Jm x y z)[n]:=Ay (by show n<9;lia);generalize (Jm x y z)[n]=am at X;have hu:JZ[n]? = some JZ[n]:=Ay (by show n<9;lia);generalize JZ[n]=u at hu;obtain⟨W,L,rfl,S,eb⟩:=(a2 n v am u hv X hu).ex;have C:=vH n am X;have I:=vG n am u X hu;have g:=Fv w3;have a5:(Txt.join blank am.ws).length<=1000:=GA g (t:=(true,am)) C;refine⟨r,_,_,_,U,U,Y.of er,Au hv,?_⟩;have w0:atI [V.str (Txt.join blank am.ws),V.ref L] ((0:Nat):Int)=some (.str (Txt.join blank am.ws)):=Au U;have w1:atI [V.str (Txt.join blank am.ws),V.ref L] ((1:Nat):Int)=some (.ref L):=Au U;refine⟨_,U,_,U,a,ns,_,_,_,U,R.seq hS,hn,k0,Ψ,Ξ,Ξ,U,_,U,?_⟩;refine Bq (λ_=>?_) (λ_=>?_)
 ·refine⟨_,U,W,_,_,_,U,U,SqT.of S,w0,_,_,U,U,by rw[show(Str.ofString "not ").length=4 by decide +kernel];lia,_,U,?_⟩;rw[Yd];refine⟨Ξ,Ξ,λD hD=>BK (n:=3) (λi ys o=>ys=iV ((List.range i).filter λi=>am.tv (AI z i) == false)/\Same H1 o/\o D=some (.lst ys)) ⟨U,Same.new hD,Af⟩ (λi _ _ B _=>B) (λ_ _ _=>An _) ?_ ?_⟩
  ·rintro i ys o v N B ⟨rfl,s2,e2⟩ ⟨rfl,rfl⟩;refine⟨_,U,_,U,W,_,_,_,U,U,SqT.of (s2 _ _ S),w1,L,_,U,.inr (SqT.of (s2 _ _ eb)),U,LV u,_,U,?_⟩
   have M:(!Fu (.int (0+(i:Int))) (iV u))=(am.tv (AI z i) == false):=by
    rw[Hq,Ft];have:=I i B;cases d:am.tv (AI z i)with
    | true=>rw[AV (this.mp d)];rfl
    | false=>rw[Bi λz=>by rw[this.mpr z]at d;cases d];rfl
   have a3:((List.range i).filter λi=>am.tv (AI z i) == false).length<=3:=by have:=Hx (λi=>am.tv (AI z i) == false) (List.range i);rw[Dv]at this;lia
   refine Bq (λp=>?_) (λp=>?_)
   ·have j:=M.symm.trans p;refine⟨_,U,_,e2,by rw[Ah];lia,?_,s2.put hD,Af⟩;rw[Jf,As j,Hq,iV,iV,AR];rfl
   have j:=λe=>p (M.trans e);exact⟨by rw[Jf,Ag j,BC],s2,e2⟩
  rintro ys o ⟨rfl,s2,e2⟩;refine⟨AG,λt d=>?_⟩;obtain⟨N,s3,e3,g3⟩:=nT d [.str (Bn (false,am)),.ref D];rw[g3];refine q t D (false,am) N ((R.trans s2).trans s3) e3 ?_ C;rw[s3 _ _ e2,r3];rfl
 dsimp only;refine⟨_,U,W,_,_,_,U,U,SqT.of S,w0,_,U,?_⟩;rw[Yc];refine⟨Ξ,Ξ,λD hD=>BK (n:=3) (λi ys o=>ys=iV ((List.range i).filter λi=>am.tv (AI z i) == true)/\Same H1 o/\o D=some (.lst ys)) ⟨U,Same.new hD,Af⟩ (λi _ _ B _=>B) (λ_ _ _=>An _) ?_ ?_⟩
 ·rintro i ys o v N B ⟨rfl,s2,e2⟩ ⟨rfl,rfl⟩;refine⟨_,U,_,U,W,_,_,_,U,U,SqT.of (s2 _ _ S),w1,L,_,U,.inr (SqT.of (s2 _ _ eb)),U,LV u,_,U,?_⟩
  have M:(Fu (.int (0+(i:Int))) (iV u))=(am.tv (AI z i) == true):=by
   rw[Hq,Ft];have:=I i B;cases d:am.tv (AI z i)with
   | true=>rw[AV (this.mp d)];rfl
   | false=>rw[Bi λz=>by rw[this.mpr z]at d;cases d];rfl
  have a3:((List.range i).filter λi=>am.tv (AI z i) == true).length<=3:=by have:=Hx (λi=>am.tv (AI z i) == true) (List.range i);rw[Dv]at this;lia
  refine Bq (λp=>?_) (λp=>?_)
  ·have j:=M.symm.trans p;refine⟨_,U,_,e2,by rw[Ah];lia,?_,s2.put hD,Af⟩;rw[Jf,As j,Hq,iV,iV,AR];rfl
  exact⟨by rw[Jf,Ag (λe=>p (M.trans e)),BC],s2,e2⟩
 rintro ys o ⟨rfl,s2,e2⟩;refine⟨AG,λt d=>?_⟩;obtain⟨N,s3,e3,g3⟩:=nT d [.str (Bn (true,am)),.ref D];rw[g3];refine q t D (true,am) N ((R.trans s2).trans s3) e3 ?_ C;rw[s3 _ _ e2,r3];rfl
def eM (F:Fun K "_law_part" "_law_part" Kc f fd)(T:Bl mg)(o:Ca P w K mg base CX0 2 "_law_draw" EU Ey (Fh K))(j:Ca P w K mg base CX0 3 "_law_term" Im KR (PL K)):Aj P w K mg base CX0 4 f fd KU (P3 K):=by
 refine F.oq scLPart λa6 A a3 s H vs Q E G h=>?_;obtain⟨a,l,ns,k,x,y,z,rfl,hS,hn,k0,k1,hl,w3,q⟩:=h;have a4:=AB;have g:=Fv w3;refine⟨_,(Ai (AO (i:=3) scLPart.nd (Az j G Aq (Aa (pv 0) (Aa (pv 1) (Aa (pv 2) Ac))))) (Ai (AY (AN By (Az o (G.mono Ξ) Aq (Aa (pv 0) (Aa (pv 1) (Aa Ad (Aa Ad Ac))))) Ad (AJ _)) (Al (Av (pv 3))) AX) (Ai (Es (i:=4) scLPart.nd U (DN U) (Az j G Aq (Aa (pv 0) (Aa (AD DS (pv 1) Ad) (Aa (pv 2) Ac))))) (Al (Av (A6 (Aa (AD Bs (AD Bs (Ap Bf (pv 3) Ad (λ_ _=>U)) AC) (Ap Bf (pv 4) Ad (λ_ _=>U))) (Aa (B1 (N:=["_law_world", "_law_other"]) (sc:=Ak Kc) (own:=["_law_world"]) (fr:=["_law_other"]) (js:=[4]) BA U (BB (Ap Bf (pv 3) Ad (λ_ _=>U))) (λ_ _ _ _=>A0 (i:=0) (show List.Nodup (["_law_world", "_law_other"]:List Str) by decide +kernel)) (λ_ _ _ _=>GM (AN (LB K U) (pv 0) (Ap (C8 K U) (pv 1) Ad (λ_ _=>U)) Φ)) (λ_ _ _ _=>(pv 0))) Ac)))))))),?_⟩;refine⟨_,U,_,U,_,U,a,l,ns,k,x,y,z,U,hS,hn,k0,Ψ,hl,w3,λt1 b1 d H1 X I B u=>⟨_,U,_,U,a,ns,_,_,_,U,X.seq hS,hn,k0,Ψ,Ξ,Ξ,U,_,U,?_⟩⟩;have e1:tvT z d=tvP z [d]:=by unfold tvT tvP F5;simp
 refine Bq (λ_=>?_) (λ_=>?_)
 ·rw[cG]at I;rw[e1]at B;exact⟨_,U,q t1 b1 [d] H1 X I B ⟨Θ,by show 1<=3;decide,λt L=>by rw[AF.mp L];exact u⟩⟩
 refine⟨_,U,_,U,_,_,U,U,_,U,a,l,ns,k+1,x,y,z,U,X.seq hS,hn,Ψ,Ψ,X _ _ hl,w3,λt2 b2 c H2 s2 W a0 S=>?_⟩;have l1:=GA g u;have l2:=GA g S;have la:(Str.ofString " and ").length=5:=by decide +kernel
 have r:=s2 _ _ I;have n:=s2 _ _ B;have p0:∀(x:Str) (b:Addr),atI [V.str x,V.ref b] ((0:Nat):Int)=some (.str x):=λ_ _=>Au U;have p1:∀(x:Str) (b:Addr),atI [V.str x,V.ref b] ((1:Nat):Int)=some (.ref b):=λ_ _=>Au U;refine⟨_,U,t1,_,_,_,U,U,SqT.of r,p0 _ _,_,_,U,U,Ψ,_,U,t2,_,_,_,U,U,SqT.of W,p0 _ _,_,_,U,U,by rw[BW];lia,?_⟩;rw[cE];refine⟨_,U,t1,_,_,_,U,U,SqT.of r,p1 _ _,b1,U,⟨_,Y.of n⟩,λD hD=>?_⟩;have a7:(tvT z d).length<=3:=Hx _ [0,1,2]
 refine BK (λi ys R=>ys=iV (((tvT z d).take i).filter λi=>decide (i∈tvT z c))/\Same H2 R/\R D=some (.lst ys)) ⟨U,Same.new hD,Af⟩
  (λi ys R M ⟨_,s3,_⟩=>⟨_,.int ((tvT z d)[i]:Nat),Y.of (s3 _ _ n),by rw[AU,Ay M];rfl⟩) (λys R a2=>by obtain⟨_,s3,_⟩:=a2;exact⟨_,Y.of (s3 _ _ n),by rw[Ah];exact An _⟩) ?_ ?_
 ·rintro i ys R v H4 M ⟨rfl,s3,e3⟩ ⟨rfl,hy⟩;have hv:v=.int ((tvT z d)[i]:Nat):=by have:=hy _ (Y.of (s3 _ _ n));rw[AU,Ay M]at this;(exact(Bh this).symm)
  subst hv;have C:=BN M;generalize (tvT z d)[i]=m at C ⊢;refine⟨_,U,_,U,t2,_,_,_,U,U,SqT.of (s3 _ _ W),p1 _ _,b2,_,U,.inl (Y.of (s3 _ _ a0)),U,LV _,_,U,?_⟩;have a5:(((tvT z d).take i).filter λi=>decide (i∈tvT z c)).length<=3:=by have:=Hx (λi=>decide (i∈tvT z c)) ((tvT z d).take i);rw[Bm]at this;lia
  refine Bq (λhb=>?_) (λhb=>?_)
  ·have a1:=(Ft m (tvT z c)).symm.trans hb;refine⟨_,U,_,e3,by rw[Ah];lia,?_,s3.put hD,Af⟩;rw[C,Me,OV (p:=λi=>decide (i∈tvT z c)) a1,iV,iV,AR];rfl
  exact⟨by rw[C,Me,OU (p:=λi=>decide (i∈tvT z c)) (λe=>hb ((Ft m (tvT z c)).trans e))];simp,s3,e3⟩
 rintro ys R ⟨rfl,s3,e3⟩;rw[BQ]at e3;refine⟨AG,λt L=>?_⟩;obtain⟨H4,s4,e4,g4⟩:=nT L [.str (A9 [d,c]),.ref D];rw[g4];refine q t D [d,c] H4 (((X.trans s2).trans s3).trans s4) e4 ?_ ⟨Θ,by show 2<=3;decide,λt L=>?_⟩
 ·rw[s4 _ _ e3];have e:((tvT z d).filter λi=>decide (i∈tvT z c))=tvP z [d,c]:=by unfold tvT tvP F5;rw[List.filter_filter];refine L9 λi M=>?_;simp only[OF,List.all_nil,Bool.and_true,Hm];rw[Bool.and_comm,show decide (i∈[0,1,2]/\(c.2.tv (AI z i) == c.1)=true)=(c.2.tv (AI z i) == c.1) by (rw[EI,Ej]);exact⟨λh=>h.2,λh=>⟨M,h⟩⟩]
  rw[e]
 simp only[Ar,AS,AQ]at L;rcases L with e | e
 ·rw[e];exact u
 rw[e];exact S
def gC (F:Fun K "_law_fact" "_law_fact" Ke f fd)(T:Bl mg)(o:Ca P w K mg base CX0 2 "_law_draw" EU Ey (Fh K))(m:Ca P w K mg base CX0 4 "_law_part" Kc KU (P3 K)):Aj P w K mg base CX0 5 f fd KY (Qr K):=by
 refine F.oq scLFact λa4 A a1 s H vs Q E B h=>?_;obtain⟨a,l,ns,k,x,y,z,rfl,hS,hn,k0,k1,hl,w3,q⟩:=h;have a2:=AB;have g:=Fv w3;refine⟨_,(Ai (Es (i:=3) scLFact.nd U (DN U) (Az m B Aq (Aa (pv 0) (Aa (pv 1) (Aa (pv 2) Ac))))) (Ai (AY (AN By (Az o (B.mono Ξ) Aq (Aa (pv 0) (Aa (pv 1) (Aa Ad (Aa Ad Ac))))) Ad (AJ _)) (Al (Av (pv 3))) AX) (Ai (Es (i:=4) scLFact.nd U (DN U) (Az m B Aq (Aa (pv 0) (Aa (AD DS (pv 1) Ad) (Aa (pv 2) Ac))))) (Al (Av (A6 (Aa (AD Bs (AD Bs (Ap Bf (pv 3) Ad (λ_ _=>U)) AC) (Ap Bf (pv 4) Ad (λ_ _=>U))) (Aa (B1 (sc:=Ak Ke) (own:=["_law_world"]) (js:=[3,4]) BA U (Ky Φ T.range (Aa Ad Ac)) (λ_ _ _ _=>A0 (i:=0) (show List.Nodup (["_law_world", "_law_one", "_law_other"]:List Str) by decide +kernel)) (λ_ _ _ _=>GM (PW.pt (DE (AN (LB K U) (pv 0) (Ap (C8 K U) (pv 1) Ad (λ_ _=>U)) Φ) (EW (AN (LB K U) (pv 0) (Ap (C8 K U) (pv 2) Ad (λ_ _=>U)) Φ))))) (λ_ _ _ _=>(pv 0))) Ac)))))))),?_⟩;refine⟨_,U,_,U,_,U,a,l,ns,k,x,y,z,U,hS,hn,k0,Ψ,hl,w3,λt1 b1 c H1 s1 L C u=>?_⟩;refine⟨_,U,_,U,a,ns,_,_,_,U,s1.seq hS,hn,k0,Ψ,Ξ,Ξ,U,_,U,?_⟩;have e1:tvP z c=Fg z [c]:=by unfold tvP Fg CK;simp
 refine Bq (λ_=>?_) (λ_=>?_)
 ·rw[rK]at L;rw[e1]at C;exact⟨_,U,q t1 b1 [c] H1 s1 L C ⟨Θ,by show 1<=3;decide,λt M=>by rw[AF.mp M];exact u⟩⟩
 unfold ML;refine⟨_,U,_,U,_,_,U,U,_,U,a,l,ns,k+2,x,y,z,U,s1.seq hS,hn,Ψ,Ψ,s1 _ _ hl,w3,λt2 b2 j H2 s2 X a0 W=>?_⟩;have l1:=GQ g u;have l2:=GQ g W;have la:(Str.ofString " or ").length=4:=by decide +kernel
 have r:=s2 _ _ L;have p0:∀(x:Str) (b:Addr),atI [V.str x,V.ref b] ((0:Nat):Int)=some (.str x):=λ_ _=>Au U;have p1:∀(x:Str) (b:Addr),atI [V.str x,V.ref b] ((1:Nat):Int)=some (.ref b):=λ_ _=>Au U;refine⟨_,U,t1,_,_,_,U,U,SqT.of r,p0 _ _,_,_,U,U,Ψ,_,U,t2,_,_,_,U,U,SqT.of X,p0 _ _,_,_,U,U,by rw[BW];lia,?_⟩;rw[rH];refine⟨_,U,Ξ,Ξ,λD hD=>BK (n:=3) (λi ys H3=>ys=iV ((List.range i).filter λi=>decide (i∈tvP z c) || decide (i∈tvP z j))/\Same H2 H3/\H3 D=some (.lst ys)) ⟨U,Same.new hD,Af⟩ (λi _ _ hi _=>hi) (λ_ _ _=>An _) ?_ ?_⟩
 ·rintro i ys H3 v H4 hi ⟨rfl,s3,e3⟩ ⟨rfl,rfl⟩;rw[Hq];have a3:((List.range i).filter λi=>decide (i∈tvP z c) || decide (i∈tvP z j)).length<=3:=by have:=Hx (λi=>decide (i∈tvP z c) || decide (i∈tvP z j)) (List.range i);rw[Dv]at this;lia
  have R:(decide (i∈tvP z c) || decide (i∈tvP z j))=true->∃N,H4 D=some (.lst N)/\N.length<sizeLine/\N++[V.int (i:Int)]=iV ((List.range (i+1)).filter λi=>decide (i∈tvP z c) || decide (i∈tvP z j))/\Same H2 (upd H4 D (.lst (N++[V.int (i:Int)])))/\(upd H4 D (.lst (N++[V.int (i:Int)]))) D=some (.lst (N++[V.int (i:Int)])):=λS=>by refine⟨_,e3,by rw[Ah];lia,?_,s3.put hD,Af⟩;rw[Jf,As S,iV,iV,AR];rfl
  refine⟨_,U,_,U,t1,_,_,_,U,U,SqT.of (s3 _ _ r),p1 _ _,b1,_,U,.inl (Y.of (s3 _ _ (s2 _ _ C))),U,LV _,_,U,?_⟩;refine Bq (λS=>?_) (λS=>?_)
  ·have I:decide (i∈tvP z c)=true:=(Ft i (tvP z c)).symm.trans S;refine Bw ⟨_,U,R (by rw[I];rfl)⟩
  have I:decide (i∈tvP z c)=false:=by
   cases h:decide (i∈tvP z c)with
   | false=>rfl
   | true=>exact absurd ((Ft i (tvP z c)).trans h) S
  refine⟨_,U,_,U,t2,_,_,_,U,U,SqT.of (s3 _ _ X),p1 _ _,b2,_,U,.inl (Y.of (s3 _ _ a0)),U,LV _,_,U,?_⟩;refine Bq (λhc=>?_) (λhc=>?_)
  ·have G:=(Ft i (tvP z j)).symm.trans hc;exact⟨_,U,R (by rw[G];exact OD _)⟩
  have G:decide (i∈tvP z j)=false:=by
   cases h:decide (i∈tvP z j)with
   | false=>rfl
   | true=>exact absurd ((Ft i (tvP z j)).trans h) hc
  exact⟨by rw[Jf,Ag (by rw[I,G];decide),BC],s3,e3⟩
 rintro ys H3 ⟨rfl,s3,e3⟩;refine⟨AG,λt M=>?_⟩;obtain⟨H4,s4,e4,g4⟩:=nT M [.str (AE [c,j]),.ref D];rw[g4];refine q t D [c,j] H4 (((s1.trans s2).trans s3).trans s4) e4 ?_ ⟨Θ,by show 2<=3;decide,λt M=>?_⟩
 ·rw[s4 _ _ e3,r3]
  have e:([0,1,2].filter λi=>decide (i∈tvP z c) || decide (i∈tvP z j))=Fg z [c,j]:=by
   unfold tvP Fg CK;refine L9 λi hi=>?_;have d:∀p:Nat->Bool,decide (i∈[0,1,2].filter p)=p i:=λp=>by rw[EI,Ej,Hm];exact⟨λh=>h.2,λh=>⟨hi,h⟩⟩
   rw[d,d];simp
  rw[e]
 simp only[Ar,AS,AQ]at M;rcases M with e | e
 ·rw[e];exact u
 rw[e];exact W
def N4 (h:Nv x):Nw x:=by have:=h.len;refine⟨λc=>by have:=h.low _ c;lia,(LF h).1,Ψ,λa=>h.fix ?_⟩;(simp[Ar,AS,AQ]at a);rcases a with e | e | e | e <;> (rw[e];decide +kernel)
def iQ {x:Str}(h:Nv x):Nw (x ++ "x"):=by
 have i:=h.len;have j:=h.pos;have d:cs (x++"x")=cs x++[120]:=by rw[AZ];rfl
 have e:(x++"x").length=x.length+1:=by rw[BW];rfl
 refine⟨?_,NZ λc g=>?_,by rw[e];lia,λf=>?_⟩
 ·rw[d];intro z;rcases(Br.mp z)with z | z
  ·have:=h.low _ z;lia
  cases AF.mp z
 ·have b:c∈cs (x++"x"):=g;rw[d]at b;rcases Br.mp b with z | z
  ·have:=h.low _ z;lia
  rw[AF.mp z];decide
 have a:∀w∈(["and", "or", "while", "not"]:List Str),(120:Nat)∉cs w:=by decide +kernel
 exact a _ f (by rw[d];simp)
def Oz (x y z T:Str):List Str:=[Str.ofString "",T ++ " while free while free",T ++ " and",T ++ " or ",Str.ofString "and " ++ T, "not not free",z ++ " in " ++ z,x ++ " held",T ++ " while ",z ++ " in " ++ (x ++ "x")]
def uY (h:W3 x y z) (b:Cd (BJ x y z) ps)(k:Nat)(t:Str)(e:(Oz x y z (AE ps))[k]? = some t):DA (BJ x y z) t:=by
 have g:=Fv h
 have a:∀d:Str,d≠x->d≠y->d∉pn (BJ x y z):=λd i j c=>by
  rcases(Ar.mp c)with e | e
  ·exact i e
  exact j (AF.mp e)
 have f:=Cc e;clear e;simp only[Oz,Ar,AS,AQ]at f;rcases f with e | e | e | e | e | e | e | e | e | e
 ·rw[e];exact(Sx _).2.2
 ·rw[e];exact uW g b
 ·rw[e];exact uV g b
 ·rw[e];exact uU g b
 ·rw[e];exact uS g b
 ·rw[e];exact uR
 ·rw[e];exact Xd (N4 h.vz) (N4 h.vz) (a z h.xz.symm h.yz.symm)
 ·rw[e];exact uQ (N4 h.vx) (λc=>h.xz (AF.mp c))
 ·rw[e];exact uN g b
 have l:(x++"x").length=x.length+1:=by rw[BW];rfl
 rw[e];exact Xd (N4 h.vz) (iQ h.vx) (a _ (λe=>by have:=A5 Str.length e;lia) (λe=>by have:=A5 Str.length e;have:=h.len;lia))
inductive QQ (K:W.Frag)(vs:List V)(H:Hp)(Q:VK)(E0_:XK):Prop
 | mk (a l:Addr) (ns:List Int) (x y z:Str) (ps:List (List Tt)) (c0:vs=[.ref a,.ref l,.str (AE ps)]) (c1:Y K H a (ns.map V.int)) (c2:ns.length<=63) (c3:H l=some (.lst [.str x,.str y,.str z])) (c4:W3 x y z) (c5:Cd (BJ x y z) ps) (c6:∀(t:Str) (H':Hp),Same H H'->DA (BJ x y z) t->Q (.str t) H'):QQ K vs H Q E0_
def L0 (o u:List Nat):Nat:=(u.map λi=>2^o.idxOf i).sum
inductive QP (vs:List V)(H:Hp)(Q:VK)(E0_:XK):Prop
 | mk (b lo:Addr) (u o:List Nat) (c0:vs=[.ref b,.ref lo]) (c1:H b=some (.lst (iV u))) (c2:H lo=some (.lst (iV o))) (c3:o∈C7) (c4:u.length<=3) (c5:(∀i∈u,i<3)) (c6:∀H':Hp,Same H H'->Q (.int (L0 o u:Nat)) H'):QP  vs H Q E0_
def mO :Ff X "list.index" (λx xs H Q=>∃(l:Addr) (ys:List Int) (y:Int) (j:Nat),x=.ref l/\xs=[.int y]/\H l=some (.lst (ys.map V.int))/\ys[j]? = some y/\(∀m,m<j->ys[m]?≠some y)/\Q (.int (j:Int)) H):=by
 rintro A s W H x xs v us Q I G N⟨l,ys,y,j,rfl,rfl,D,B,p,q⟩;cases G;obtain⟨u,rfl,L⟩:=N.one;obtain⟨z,a,n,r,E,e⟩:=I.lstM D;rw[Ah]at E z;have T:=AB;have C:(ys.map V.int).all ED=true:=E8.mpr λv F=>by obtain⟨i,_,rfl⟩:=AK.mp F;rfl
 have c:∀(m:Nat) (f:Int) (o:m<a.toArray.size),ys[m]? = some f->CL (.int y) a.toArray[m]=(f == y):=λm f o e1=>by
  obtain⟨u',e2,M⟩:=r.get (i:=m) (x:=.int f) (by rw[AU,e1];rfl);have e3:a.toArray[m]=u':=by obtain⟨_,h⟩:=AW.mp e2;simpa using h
  rw[e3,On M rfl];rfl
 have S:=(AW.mp B).1;refine Hl JI ⟨_,e,U⟩ PySem.F.entry_list_index (Xk _ _) (PySem.SeqAt.list_indexAt l a.toArray n none #[] u (CL (.int y)) j (by rw[Bx];lia) Ψ ?_ ?_) ⟨e,λw R=>G7 L U r C w (by simpa using R),?_⟩
 ·rw[c j y _ B];exact Hy y
 ·intro m o g;have b:m<ys.length:=by lia
  rw[c m ys[m] o (Ay b)];have d:=p m g;rw[Ay b]at d;exact FD.mpr λz=>d (by rw[z])
 exact⟨.int (j:Int),H,I.tok _,⟨_,U⟩,q⟩
abbrev K0:List Str:=["_law_script", "_law_words_here", "_law_text"]
abbrev kE:List Str:=BG K0 ["_law_way", "_law_bad_here"]
def scLBad:Aw kE K0 (Ak Nr):=AA
def X1:∀c b a:Bool,∀o∈C7,L0 o ([0,1,2].filter λi=>if i=0 then c else if i=1 then b else a)=bt ((List.range 3).filterMap λj=>if (if o.getD j 9=0 then c else if o.getD j 9=1 then b else a)=true then some (j:Int)else none):=by decide +kernel
def W8 (a:o∈C7)(ps:List (List Tt)):L0 o (Fg z ps)=bt (whN ps 0 (o.map (AI z))):=by
 have h:=X1 (CK (AI z 0) ps) (CK (AI z 1) ps) (CK (AI z 2) ps) o a;have e1:Fg z ps=[0,1,2].filter λi=>if i=0 then CK (AI z 0) ps else if i=1 then CK (AI z 1) ps else CK (AI z 2) ps:=by refine L9 λi b=>?_;simp only[Ar,AS,AQ]at b;rcases b with e | e | e <;> (subst e;rfl)
 rw[e1,h];congr 1;generalize hb0:CK (AI z 0) ps=b0;generalize hb1:CK (AI z 1) ps=b1;generalize hb2:CK (AI z 2) ps=b2;have w:∀i j k:Nat,whN ps 0 ([i,j,k].map (AI z))=(if CK (AI z i) ps then [(0:Int)]else [])++((if CK (AI z j) ps then [(1:Int)]else [])++((if CK (AI z k) ps then [(2:Int)]else [])++[])):=λi j k=>rfl;simp only[C7,Ar,AS,AQ]at a;rcases a with e | e | e | e | e | e <;> (subst e;rw[w,hb0,hb1,hb2];cases b0 <;> cases b1 <;> cases b2 <;> rfl)
def iD (F:Fun K "_law_bad" "_law_bad" Nr f fd)(T:Bl mg)(b:Ca P w K mg base CX0 2 "_law_draw" EU Ey (Fh K)):Aj P w K mg base CX0 3 f fd K0 (QQ K):=by
 refine F.oq scLBad λa1 A j s H vs Q E o h=>?_;obtain⟨a,l,ns,x,y,z,ps,rfl,X,M,W,d,C,q⟩:=h;have G:=AB;have N:=Eh (Fv d) C;have lx:=d.vx.len;have ly:=d.vy.len;have lz:=d.vz.len;have v:atI [V.str x,V.str y,V.str z] ((0:Nat):Int)=some (.str x):=Au U;have r:atI [V.str x,V.str y,V.str z] ((2:Nat):Int)=some (.str z):=Au U;have c:∀a m:Str,a.length<=9900->m.length<=30->a.length+m.length<=sizeLine:=λa m h1 h2=>by lia
 have D:=uY d C;generalize AE ps=T' at N D ⊢;refine⟨_,(Ai (AO (i:=3) scLBad.nd (Az b o Aq (Aa (pv 0) (Aa Ad (Aa Ad (Aa Ad Ac)))))) (Ai (AO (i:=4) scLBad.nd (Cu (Aa AC (Aa (AD Bs (pv 2) AC) (Aa (AD Bs (pv 2) AC) (Aa (AD Bs (pv 2) AC) (Aa (AD Bs AC (pv 2)) (Aa AC Ac)))))))) (Ai (AO (i:=4) scLBad.nd (AD G3 (pv 4) (Cu (Aa (AD Bs (AD Bs (Ap AL (pv 1) Ad (λ_ _=>U)) AC) (Ap AL (pv 1) Ad (λ_ _=>U))) (Aa (AD Bs (Ap AL (pv 1) Ad (λ_ _=>U)) AC) (Aa (AD Bs (pv 2) AC) (Aa (AD Bs (AD Bs (AD Bs (Ap AL (pv 1) Ad (λ_ _=>U)) AC) (Ap AL (pv 1) Ad (λ_ _=>U))) AC) Ac))))))) (Al (Av (Ap AL (pv 4) (pv 3) (λ_ _=>U))))))),_,U,a,ns,_,_,_,U,X,M,Ξ,Ξ,Ξ,Ξ,?_⟩;have d9:=Hf ns 20 10007 (m:=10) Ξ;obtain⟨n,g⟩:∃n:Nat,(n:Int)=dw ns 20 10007 10:=⟨_,OJ (He ns 20 10007 (m:=10) Ξ)⟩;rw[<- g];refine⟨_,U,_,_,U,U,c T' " while free while free" Ψ Δ,_,U,_,_,U,U,c T' " and" Ψ Δ,_,U,_,_,U,U,c T' " or " Ψ Δ,_,U,_,_,U,U,by rw[show(Str.ofString "and ").length=4 by decide +kernel];lia,AG,λS n1=>?_⟩;obtain⟨K1,B,e1,g1⟩:=nL n1 [.str "",.str (T'++" while free while free"),.str (T'++Str.ofString " and"),.str (T'++Str.ofString " or "),.str (Str.ofString "and " ++ T'),.str "not not free"];rw[g1];clear g1;have e:=B _ _ W;have li:(z++" in ").length<=30:=by rw[BW,show(Str.ofString " in ").length=4 by decide +kernel];lia
 have lj:(z++" in " ++ x).length<=40:=by rw[BW];lia
 refine⟨_,U,_,U,l,_,_,_,U,U,Y.of e,r,_,_,U,U,c z " in " Ψ Δ,_,U,l,_,_,_,U,U,Y.of e,r,_,_,U,U,c _ z Ψ Ψ,_,U,l,_,_,_,U,U,Y.of e,v,_,_,U,U,c x " held" Ψ Δ,_,U,_,_,U,U,c T' " while " Ψ Δ,_,U,l,_,_,_,U,U,Y.of e,r,_,_,U,U,c z " in " Ψ Δ,_,U,l,_,_,_,U,U,Y.of e,v,_,_,U,U,c _ x Ψ Ψ,_,_,U,U,c _ "x" Ψ Δ,AG,λp2 L=>?_⟩;obtain⟨K2,s2,e2,g2⟩:=nL L [.str (z++" in " ++ z),.str (x++" held"),.str (T'++Str.ofString " while "),.str (z++Str.ofString " in " ++ x++"x")];rw[g2];clear g2;refine⟨S,p2,_,_,U,U,s2 _ _ e1,e2,by show 6+4<=sizeLine;lia,λp3 R=>?_⟩;have I:z++" in " ++ x++"x" = z++" in " ++ (x++Str.ofString "x"):=by apply BF;simp only[AZ,B4]
 rw[I];obtain⟨t,u⟩:∃t,(Oz x y z T')[n]? = some t:=⟨_,Ay (show n<10 by lia)⟩;have p:atI ((Oz x y z T').map V.str) ((n:Nat):Int)=some (.str t):=Au (by rw[AU,u];rfl);exact⟨_,U,_,U,p3,_,_,_,U,U,Y.of Af,p,q t _ ((B.trans s2).trans (Same.new R)) (D n t u)⟩
def iC (F:Fun K "_law_bits" "_law_bits" Kg f fd)(T:Bl mg):Aj P w K mg base CX0 1 f fd KZ QP:=by
 refine F.oq Zt λa0 A C s H vs Q E a1 h=>?_;obtain⟨b,lo,u,o,rfl,d,p,ho,X,I,q⟩:=h;have M:=AB;refine⟨_,(Al (Av (Be (tS U) Φ T.sum uF (Aa (B1 (N:=["_law_world", "_law_order"]) (sc:=Ak Kg) (own:=["_law_world"]) (js:=[1]) BA U (BB (pv 0)) (λ_ _ _ _=>A0 (i:=0) (show List.Nodup (["_law_world", "_law_order"]:List Str) by decide +kernel)) (λ_ _ _ _=>BV) (λ_ _ _ _=>(AD Vo Ad (uJ K U (Dg OX JI OW mO (pv 1) (Aa (pv 0) Ac)))))) Ac)))),?_⟩;refine⟨_,U,b,U,⟨_,Y.of d⟩,λD hD=>?_⟩
 refine BK (λi ys c=>ys=iV ((u.take i).map λi=>2^o.idxOf i)/\Same H c/\c D=some (.lst ys)) ⟨U,Same.new hD,Af⟩
  (λi ys c g ⟨_,s3,_⟩=>⟨_,.int (u[i]:Nat),Y.of (s3 _ _ d),by rw[AU,Ay g];rfl⟩) (λys c B=>by obtain⟨_,s3,_⟩:=B;exact⟨_,Y.of (s3 _ _ d),by rw[Ah];exact An _⟩) ?_ ?_
 ·rintro i ys c v H4 g ⟨rfl,s3,e3⟩ ⟨rfl,hy⟩;refine BX ?_;have S:v=.int (u[i]:Nat):=by have:=hy _ (Y.of (s3 _ _ d));rw[AU,Ay g]at this;(exact(Bh this).symm)
  subst S;have L:=I u[i] (Cb g);have l:u.take (i+1)=u.take i++[u[i]]:=BN g;generalize u[i]=m at l L ⊢;have z:∀o∈C7,∀m,m<3->o.idxOf m<3/\o[o.idxOf m]? = some m/\∀j,j<o.idxOf m->o[j]?≠some m:=by decide +kernel
  obtain⟨i3,G,x⟩:=z o ho m L;generalize hj:o.idxOf m=j at i3 G x;have y:iV o=(o.map λn:Nat=>(n:Int)).map V.int:=by rw[Bk];rfl
  refine⟨_,U,.inl ⟨U,_,Y.of (s3 _ _ p)⟩,_,U,lo,o.map λn:Nat=>(n:Int),(m:Int),j,U,U,?_,?_,?_,?_⟩
  ·rw[<- y];exact s3 _ _ p
  ·rw[AU,G];rfl
  ·intro k W e;rw[AU]at e;cases hx:o[k]? with
   | none=>rw[hx]at e;cases e
   | some n=>rw[hx]at e;have:=Bh e;exact x k W (by rw[hx,show n=m by lia])
  refine⟨_,_,U,U,⟨Ψ,Ψ,Ψ⟩,_,e3,by rw[Ah,Ah,Bm];lia,?_,s3.put hD,Af⟩;rw[l,AR,iV,iV,AR];show _++[V.int (1*2^((j:Nat):Int).toNat)]=_++[V.int ((2^o.idxOf m:Nat):Int)];rw[hj,CO,one_mul];push_cast;rfl
 rintro ys c ⟨rfl,s3,e3⟩;rw[BQ]at e3;have y:iV (u.map λi=>2^o.idxOf i)=(u.map λi=>((2^o.idxOf i:Nat):Int)).map V.int:=by rw[iV,Bk,Bk];rfl
 rw[y]at e3;refine⟨D,_,U,Y.of e3,?_⟩
 have R:(u.map λi=>((2^o.idxOf i:Nat):Int)).sum=((L0 o u:Nat):Int):=by
  unfold L0;clear e3 y d X I q;induction u with
  | nil=>rfl
  | cons a r ih=>rw[Bg,Hs,ih,Bg,Hs];rfl
 rw[R];exact q c s3
inductive PF (vs:List V)(H:Hp)(Q:VK)(E0_:XK):Prop
 | mk (i:Int) (c0:vs=[.int i]) (c1:Q (.bl true) H):PF  vs H Q E0_
abbrev KQ:List Str:=["_law_thing"]
abbrev jU:List Str:=KQ
def Zr:Aw jU KQ (Ak Np):=AA
structure Xz (K:W.Frag)(mg:Str->Option Value)(NN XN XW:Addr):Prop where
 m1:mg "NoName" = some (.ref XN)
 m2:mg "NoWorld" = some (.ref XW)
 ni:HP K NN
 k1:PySem.W.kin_not K NN XN=true
 k2:PySem.W.kin_not K NN XW=true
def vZ (K:W.Frag)(D C':Addr)(b:Bool):Prop:=(b=true/\D=C')\/(b=false/\HP K D/\PySem.W.kin_not K D C'=true)
def Sn (h:X.K=K):Ce X (.builtin "isinstance") (λxs H Q=>∃(a D f:Addr) (b:Bool),xs=[.ref a,.ref f]/\H a=some (Hd a D)/\vZ K D f b/\Q (.bl b) H):=by
 subst h;rintro d s i H xs us Q I r⟨a,D,f,b,e,g,c,q⟩;refine uC d s i H xs us Q I r ⟨a,D,f,e,g,?_⟩;rcases c with⟨rfl,c⟩ | ⟨rfl,c⟩
 ·exact .inl ⟨c,q⟩
 exact .inr ⟨c.1,c.2,q⟩
inductive PV (C CT CH:Addr)(vs:List V)(H:Hp)(Q:VK)(E0_:XK):Prop
 | mk (z:Addr) (rs:List Ro) (L:List Wl) (ds:List Dee) (ls:List Loo) (t:Str) (c0:vs=[.ref z,.str t]) (c1:AtL C CT CH H z rs L ds ls) (c2:DA rs t) (c3:∀H':Hp,Same H H'->Q (.bl true) H'):PV C CT CH vs H Q E0_
abbrev KS:List Str:=["_law_atlas", "_law_text"]
abbrev jW:List Str:=BG KS ["_law_told", "error"]
def scLRefused:Aw jW KS (Ak Nq):=AA
abbrev BZ (y:Str):Str:=Str.ofString "take " ++ y
abbrev B0 (y:Str):Str:=Str.ofString "put " ++ y
inductive Ql (CE CH:Addr)(vs:List V)(H:Hp)(Q:VK)(E0_:XK):Prop
 | mk (ex l lp:Addr) (ds:List Dee) (ls:List Loo) (g k:Nat) (x y z:Str) (p0 p1 p2:Int) (c0:vs=[.ref ex,.int (g:Int),.int (k:Int),.ref l,.ref lp]) (c1:JU CE CH H ex 3 ds ls g k) (c2:H l=some (.lst [.str x,.str y,.str z])) (c3:W3 x y z) (c4:H lp=some (.lst [.int p0,.int p1,.int p2])) (c5:ds.map (λd=>(d.name,d.price))=[(BZ y,p0),(B0 y,p1)]) (c6:ls.map (λl=>(l.name,l.price))=[(fhS,p2)]) (c7:∀H':Hp,Same H H'->Q (.bl true) H'):Ql CE CH vs H Q E0_
abbrev KW:List Str:=["_law_errand", "_law_goal", "_law_keep", "_law_words_here", "_law_prices"]
abbrev jY:List Str:=BG KW ["_law_chart", "_law_names"]
def scLIsErrand:Aw jY KW (Ak Kd):=AA
def cW (F:Fun K "_law_whole" "_law_whole" Np f fd)(T:Bl mg):Aj P w K mg base CX0 1 f fd KQ PF:=by refine F.oq Zr ?_;rintro b A a s H vs Q E c⟨i,rfl,q⟩;refine⟨_,(Al (Av (KB (Be W4 Φ T.isi Jj (Aa (pv 0) (Aa (Rv (v:=.ty "int") Φ T.int uG U) Ac))) (IA (NT (Be W4 Φ T.isi Jj (Aa (pv 0) (Aa (Rv (v:=.ty "bool") Φ T.bool uH U) Ac)))))))),_,U,i,_,U,.inl ⟨U,_,U,?_⟩⟩;apply Bw;exact⟨_,U,i,_,U,.inr ⟨U,_,U,q⟩⟩
def dY (F:Fun K "_law_refused" "_law_refused" Nq f fd)(T:Bl mg)(e:EF K mg G NN)(d:Xz K mg NN XN XW)(c:Ca P w K mg base (CXe P w) 9 "errand_of" Ip GZ (Qv C CT CH NN)):Aj P w K mg base CX0 10 f fd KS (PV C CT CH):=by refine F.oq scLRefused ?_;rintro o A l s H vs Q E h⟨z,rs,L,ds,n,t,rfl,m,b,q⟩;refine⟨_,(Ai (AO (i:=2) scLRefused.nd CW) (Ai (bC (G:=G) (nG := "ValueError.__new__") (j:=3) U U U e.oG Φ e.mG scLRefused.nd U U (λpn xe B p=>(Al (CV (Az c h p (Aa (pv 0) (Aa (pv 1) Ac)))))) (λa=>(Al (AO (i:=2) scLRefused.nd (pv 3))))) (Ai (AY (PW.pt (DE (AN IZ (pv 2) CW (AJ _)) (DE (C6 (CS (Be (Sn (K:=K) U) Φ T.isi Jj (Aa (pv 2) (Aa (CY (v:=.ref NN) Φ e.mN U) Ac))))) (EW (C6 (CS (Be (tZ (C:=NN) e.oN XZ) Φ T.isi Jj (Aa (pv 2) (Aa (Rv (v:=.ty "ValueError") Φ T.ve uE U) Ac))))))))) (Al (Av Ex)) AX) (Al (Av (KB (NT (Be (Sn (K:=K) U) Φ T.isi Jj (Aa (pv 2) (Aa (CY (v:=.ref XN) Φ d.m1 U) Ac)))) (IA (NT (Be (Sn (K:=K) U) Φ T.isi Jj (Aa (pv 2) (Aa (CY (v:=.ref XW) Φ d.m2 U) Ac))))))))))),_,U,_,U,z,rs,L,ds,n,t,U,m,b,λa D s2 u=>⟨a,NN,_,U,U,e.oN,e.sub,λ_=>?_⟩⟩;obtain⟨x,r,y,g⟩:=DV u;rw[r];refine⟨_,U,?_⟩;refine⟨_,U,U,_,U,A7 ⟨_,U,a,NN,NN,true,U,g,.inl ⟨U,U⟩,_,U,A7 ?_⟩⟩;refine⟨_,U,a,U,g,_,U,A7 ?_⟩;exact⟨_,U,a,NN,XN,false,U,g,.inr ⟨U,d.ni,d.k1⟩,_,U,_,U,Bw ⟨_,U,a,NN,XW,false,U,g,.inr ⟨U,d.ni,d.k2⟩,_,U,q x (s2.trans y)⟩⟩
def fX {CE f2 f3 f4 f5 f6:Addr} (F:Fun K "_law_is_errand" "_law_is_errand" Kd f fd)(T:Bl mg)(L:FP K CH)(LE:JV K CE)(a:Ca P w K mg base CX0 1 "_law_whole" Np KQ PF)
  (a2:Binds K d2 ["self"] [])(a5:B5 K CE "chart" f2)(a3:Aj P w K mg base CX0 1 f2 d2 Lf (QB CE CH))(N:Binds K d3 ["self"] [])(a0:B5 K CE "keep" f3)(R:Aj P w K mg base CX0 1 f3 d3 Ld (Qy CE CH))(X:Binds K d4 ["self"] [])(W:B5 K CE "goal" f4)(M:Aj P w K mg base CX0 1 f4 d4 Le (QA CE CH))
  (aa:Binds K d5 ["self"] [])(a9:B5 K CH "size" f5)(ab:Aj P w K mg base CX0 1 f5 d5 IU (MO CH))(j:Binds K d6 ["self"] [])(u:B5 K CH "deed_names" f6)(B:Aj P w K mg base CX0 1 f6 d6 Lq (QE CH))(p:Binds K d7 ["self"] [])(b:B5 K CH "look_names" f7)(r:Aj P w K mg base CX0 1 f7 d7 Ln (Qg CH))(G:Binds K d8 ["self", "name"] [])(C:B5 K CH "price_of" f8)(I:Aj P w K mg base CX0 2 f8 d8 Ll (P4 CH)):Aj P w K mg base CX0 3 f fd KW (Ql CE CH):=by
 refine F.oq scLIsErrand λb4 A av s H vs Q E af h=>?_
 obtain⟨ex,l,lp,ds,ls,g,k,x,y,z,p0,p1,p2,rfl,er,hl,w3,ay,ak,ap,q⟩:=h
 have n:Room 1 _:=af.mono Ξ
 have ad:=af.units
 have b1:=AB
 have aq:=er
 obtain⟨dx,c0,hx,b2⟩:=aq
 refine⟨_,(Ai (AY (PW.pt (DE (C6 (CS (Az a n Aq (Aa (Cr (pv 0) LE.cl W M n X .nil Aq) Ac)))) (EW (AN Fn (Cr (pv 0) LE.cl W M n X .nil Aq) (pv 1) (AJ _))))) (Al (Av Ex)) AX) (Ai (AY (PW.pt (DE (C6 (CS (Az a n Aq (Aa (Cr (pv 0) LE.cl a0 R n N .nil Aq) Ac)))) (EW (AN Fn (Cr (pv 0) LE.cl a0 R n N .nil Aq) (pv 2) (AJ _))))) (Al (Av Ex)) AX) (Ai (Es (i:=5) scLIsErrand.nd U (DN U) (Cr (pv 0) LE.cl a5 a3 n a2 .nil Aq)) (Ai (AO (i:=6) scLIsErrand.nd (Cu (Aa (AD Bs AC (Ap AL (pv 3) Ad (λ_ _=>U))) (Aa (AD Bs AC (Ap AL (pv 3) Ad (λ_ _=>U))) Ac)))) (Ai (AY (PW.pt (DE (AN Fn (Cr (pv 5) L.cl a9 ab n aa .nil Aq) Ad (AJ _)) (DE (AN (Vq ad) (Cr (pv 5) L.cl u B n j .nil Aq) (pv 6) (AJ _)) (EW (AN (Vq ad) (Cr (pv 5) L.cl b r n p .nil Aq) (Cu (Aa AC Ac)) (AJ _)))))) (Al (Av Ex)) AX) (Al (Av (Cn (cR ad) (B1 (sc:=Ak Kd) (own:=["_law_name"]) (js:=[5]) BA U (BB (AD G3 (pv 6) (Cu (Aa AC Ac)))) (λ_ _ _ _=>A0 (i:=0) (show List.Nodup (["_law_name", "_law_chart"]:List Str) by decide +kernel)) (λ_ _ _ _=>BV) (λ_ _ _ _=>(Kz (pv 1) L.cl C I af G .nil Aq (Aa (pv 0) Ac)))) (pv 4) (AJ _))))))))),?_⟩
 refine⟨_,U,ex,dx,_,U,hx,LW Δ,ex,3,ds,ls,g,k,U,er,_,U,_,U,?_⟩
 refine A7 ?_
 refine⟨_,U,ex,dx,_,U,hx,LW Δ,ex,3,ds,ls,g,k,U,er,_,U,U,_,U,?_⟩
 rw[AV rfl]
 refine A7 ?_
 dsimp only[ML]
 refine⟨_,U,ex,dx,_,U,hx,LW Δ,ex,3,ds,ls,g,k,U,er,_,U,_,U,?_⟩
 refine A7 ?_
 refine⟨_,U,ex,dx,_,U,hx,LW Δ,ex,3,ds,ls,g,k,U,er,_,U,U,_,U,?_⟩
 rw[AV rfl]
 refine A7 ?_
 refine⟨_,U,ex,dx,_,U,hx,LW Δ,ex,3,ds,ls,g,k,U,er,λc hc=>?_⟩
 have a1:atI [V.str x,V.str y,V.str z] ((1:Nat):Int)=some (.str y):=Au U
 have ly:=w3.vy.len
 have l5:(Str.ofString "take ").length=5:=by decide +kernel
 have l4:(Str.ofString "put ").length=4:=by decide +kernel
 refine⟨_,U,l,_,_,_,U,U,Y.of hl,a1,_,_,U,U,Ψ,_,U,l,_,_,_,U,U,Y.of hl,a1,_,_,U,U,Ψ,AG,λln b0=>?_⟩
 obtain⟨H1,s1,e1,g1⟩:=nL b0 [.str (BZ y),.str (B0 y)]
 rw[g1]
 clear g1
 have a4:=hc.same s1
 obtain⟨a6,p',o',a',q',d',b3,ko,ka,kq,kd,o1,o2,a7,_⟩:=a4.ex
 refine⟨_,U,c,a6,_,U,a7,Jg Δ,c,3,ds,ls,U,a4,U,_,U,?_⟩
 rw[show decide (V.int ((3:Nat):Int)=V.int 3)=true from AV rfl]
 refine A7 ?_
 refine⟨_,U,c,a6,_,U,a7,Jg Δ,c,3,ds,ls,U,a4,λm1 H2 s2 _ e2=>?_⟩
 have aj:ds.map Dee.name=[BZ y,B0 y]:=by have:=A5 (List.map Prod.fst) ak;rw[Bk]at this;exact this
 have ac:ls.map Loo.name=[fhS]:=by have:=A5 (List.map Prod.fst) ap;rw[Bk]at this;exact this
 have ah:∀v∈[BZ y,B0 y],strOk v=true:=λv hv=>by
  have o:∀m:Str,strOk m=true->strOk (m++y)=true:=λm hm=>NZ λc hc=>by
   have an:c∈cs (m++y):=hc;rw[AZ]at an;rcases Br.mp an with z | z
   ·exact LC hm z
   exact LC ((LF w3.vy).1) z
  simp only[Ar,AS,AQ]at hv;rcases hv with e | e
  ·rw[e];exact o _ Δ
  rw[e];exact o _ Δ
 rw[aj]at e2
 refine⟨_,U,m1,ln,[BZ y,B0 y],[BZ y,B0 y],U,U,e2,s2 _ _ e1,FV ah,FV ah,_,U,?_⟩
 rw[Om,AV rfl]
 refine A7 ?_
 refine⟨_,U,c,a6,_,U,s2 _ _ a7,Jg Δ,c,3,ds,ls,U,a4.same s2,λm2 H3 s3 _ e3=>?_⟩
 rw[ac]at e3
 refine⟨AG,λm3 ax=>?_⟩
 obtain⟨H4,s4,e4,g4⟩:=nL ax [.str fhS]
 rw[g4]
 clear g4
 refine⟨m2,m3,[fhS],[fhS],U,U,s4 _ _ e3,e4,FV Δ,FV Δ,_,U,?_⟩
 rw[Om,AV rfl]
 refine A7 ?_
 refine⟨_,U,AG,λm4 aw=>?_⟩
 obtain⟨H5,s5,e5,g5⟩:=nL aw [.str fhS]
 rw[g5]
 clear g5
 have al:=((s2.trans s3).trans s4).trans s5
 refine⟨ln,m4,_,_,U,U,al _ _ e1,e5,by show 2+1<=sizeLine;lia,λm5 as=>?_⟩
 obtain⟨H6,s6,e6,g6⟩:=nL as ([.str (BZ y),.str (B0 y)]++[.str fhS])
 rw[g6]
 clear g6
 have ae:=al.trans s6
 have ar:=ae _ _ a7
 refine⟨m5,U,⟨_,Y.of e6⟩,λD hD=>?_⟩
 have az:CF ds ls=[(BZ y,p0),(B0 y,p1),(fhS,p2)]:=by show ds.map (λd=>(d.name,d.price))++ls.map (λl=>(l.name,l.price))=_;rw[ak,ap];rfl
 have nd:(ds.map Dee.name++ls.map Loo.name).Nodup:=by
  rw[aj,ac];have h1:(cs (BZ y)).head? = some 116:=by rw[AZ];rfl
  have h2:(cs (B0 y)).head? = some 112:=by rw[AZ];rfl
  have h3:(cs fhS).head? = some 102:=by decide +kernel
  have n1:BZ y≠B0 y:=λe=>by rw[e,h2]at h1;cases h1
  have n2:BZ y≠fhS:=λe=>by rw[e,h3]at h1;cases h1
  have n3:B0 y≠fhS:=λe=>by rw[e,h3]at h2;cases h2
  show [BZ y,B0 y,fhS].Nodup;simp[n1,n2,n3]
 have a8:H6 m5=some (.lst (([(BZ y,p0),(B0 y,p1),(fhS,p2)]:List (Str×Int)).map λs=>V.str s.1)):=e6
 have hm:∀st∈([(BZ y,p0),(B0 y,p1),(fhS,p2)]:List (Str×Int)),st∈CF ds ls:=λst h=>by rw[az];exact h
 have am:([(BZ y,p0),(B0 y,p1),(fhS,p2)]:List (Str×Int)).map (λs=>s.2)=[p0,p1,p2]:=rfl
 have l3:([(BZ y,p0),(B0 y,p1),(fhS,p2)]:List (Str×Int)).length=3:=rfl
 generalize ([(BZ y,p0),(B0 y,p1),(fhS,p2)]:List (Str×Int))=S at a8 hm am l3
 refine BK (λi ys H7=>ys=(S.take i).map (λs=>V.int s.2)/\Same H6 H7/\H7 D=some (.lst ys)) ⟨U,Same.new hD,Af⟩
  (λi ys H7 hi ⟨_,s7,_⟩=>⟨_,.str S[i].1,Y.of (s7 _ _ a8),by rw[AU,Ay hi];rfl⟩) (λys H7 au=>by obtain⟨_,s7,_⟩:=au;exact⟨_,Y.of (s7 _ _ a8),by rw[Ah];exact An _⟩) ?_ ?_
 ·rintro i ys H7 v H8 hi ⟨rfl,s7,e7⟩ ⟨rfl,hy⟩;refine BX ?_;have hv:v=.str S[i].1:=by have:=hy _ (Y.of (s7 _ _ a8));rw[AU,Ay hi]at this;(exact(Bh this).symm)
  subst hv;have ao:=hm S[i] (Cb hi);have ai:S.take (i+1)=S.take i++[S[i]]:=BN hi;generalize S[i]=st at ao ai ⊢;refine⟨_,U,c,a6,_,U,s7 _ _ ar,Jg Δ,_,U,c,3,ds,ls,st,U,(a4.same ae).same s7,nd,ao,?_⟩;refine⟨_,e7,by rw[Ah,Bm];lia,?_,s7.put hD,Af⟩;rw[ai,AR];rfl
 rintro ys H7 ⟨rfl,s7,e7⟩
 have e8:S.map (λs=>V.int s.2)=[p0,p1,p2].map V.int:=by rw[<- am,Bk];rfl
 rw[BQ,e8]at e7
 have ag:=(s1.trans ae).trans s7
 refine⟨_,U,.list ([p0,p1,p2].map PyData.int),.list ([p0,p1,p2].map PyData.int),.lst e7 (RdWs.of (Ks _)),.lst (ag _ _ ay) (RdWs.of (Ks [p0,p1,p2])),M9 _,M9 _,?_⟩
 rw[Wt]
 exact q H7 ag
def VD {x y z:Str}{M:List Wl}(c:M.Nodup)(h:∀W∈M,Ci (BJ x y z) W):M.length<=3:=by
 have:=Tv c (l₂:=[AI z 0,AI z 1,AI z 2]) λW a=>by
  obtain⟨i,b,e⟩:=Xg (h W a);match i,b with
  | 0,_=>rw[e];simp
  | 1,_=>rw[e];simp
  | 2,_=>rw[e];simp
 exact this
def cJ (h:o∈C7):(o.map (AI z)).Nodup:=by
 have a:∀o∈C7,o.Nodup/\∀i∈o,i<3:=by decide
 obtain⟨n,l⟩:=a o h;refine Ma.mpr (n.imp_of_mem λ{i j} hi hj hne e=>hne (XR (l i hi) (l j hj) e))
theorem Xh:∀{L A:List Wl},(L++A).Nodup->BS L A=L++A
 | L,[],_=>(BC L).symm
 | L,W::r,h=>by show BS (if W∈L then L else L++[W]) r=_;rw[Ag (λz=>(Dj.mp h).2.2 W z W (Bb ..) U),Xh (by rw[B4];exact h),B4];rfl
def vJ (b:o∈C7)(a:NA (BJ x y z) (o.map (AI z)) Ds n L):L=o.map (AI z):=by
 obtain⟨t,e⟩:=a.pre;rw[Xh (by rw[Jy];exact cJ b),Jy]at e;have f:=VD a.nd a.rw'
 have d:o.length=3:=by
  have:∀o∈C7,o.length=3:=by decide
  exact this o b
 have:=A5 List.length e;rw[AM,Ah,d]at this;have c:t=[]:=Mp.mp Ψ;rw[e,c,BC]
def Hg (y w:Str)(line:Str):DO:=⟨line,w,1,1,(y,false,none),(y,false,none)⟩
def WD {w:Str}(h:W3 x y z)(f:cs m=cs w++[32])(j:w∈Fo)(b:w ≠ "tip")(g:32∉cs w)(l:w.length<=8):Gx (BJ x y z) (Hg y w (m++y)):=by
 have d:=h.vy;have o:=d.len;have n:m.length=w.length+1:=by rw[<- A8,f,AM,A8];rfl
 refine⟨⟨?_,?_,λv i=>?_⟩,?_,U,U,λe=>absurd e b,j⟩
 ·show m++y=Txt.join blank (ER w y y);unfold ER;rw[Ag b];apply BF;rw[AZ,B3,f];show _=cs w++32::cs y;simp
 ·show ER w y y≠[];unfold ER;split <;> simp
 ·have a:v∈ER w y y:=i;unfold ER at a;rw[Ag b]at a;simp only[Ar,AS,AQ]at a;rcases a with e | e
  ·rw[e];exact g
  rw[e];exact λc=>by have:=d.low _ c;lia
 show(m++y).length<=1000;rw[BW];lia
def Kt.seq (k:Kt H H')(h:Y K H a xs):Y K H' a xs:=by
 rcases h with(h | ⟨o,h⟩) | h
 ·exact .inl (.inl (k _ _ h λ_ z=>nomatch z))
 ·exact .inl (.inr ⟨o,k _ _ h λ_ z=>nomatch z⟩)
 exact .inr h
def bF (n:Int):1<=1+n*48271 % 1000000000/\1+n*48271 % 1000000000<=1000000000:=by lia
def Ya (z:Str):Str.ofString "thing " ++ z++Str.ofString " ball" = Ro.txt (.th z "ball"):=by show _=Str.ofString "thing " ++ z++Str.ofString " " ++ Str.ofString "ball";apply BF;simp[AZ,B4];rfl
def Ob (_:Str):LL:=⟨fhS⟩
def nO (x y z:Str):TJ (BJ x y z) (Ob x):=rfl
def nQ (h:Ci (BJ x y z) W){s:Str}(e:Jl (BJ x y z) (Ob x) W=some s):s∈(["-", "ball"]:List Str):=by
 obtain⟨i,b,rfl⟩:=Xg h;have a:=Bh e;obtain rfl|rfl|rfl:=(by lia:i=0∨i=1∨i=2)
 ·rw[<- a];exact Bb ..
 ·rw[<- a];exact Bb ..
 ·
  have:J2 (BJ x y z) (some z) = "ball" := by show((([(z,Str.ofString "ball")]:List (Str×Str)).find? λx=>x.1 == z).map (λx:Str×Str=>x.2)).getD "-"=_;simp
  rw[<- a];show J2 (BJ x y z) (some z)∈_;rw[this];exact Bc _ (Bb ..)
def V3 (y:Str):(cs (BZ y)).head? = some 116:=by rw[AZ];rfl
def V4 (y:Str):(cs (B0 y)).head? = some 112:=by rw[AZ];rfl
def V5:(cs fhS).head? = some 102:=by decide +kernel
def Ub (y:Str):BZ y≠B0 y:=λe=>by have:=V3 y;rw[e,V4 y]at this;cases this
def Yb (y:Str):BZ y≠fhS:=λe=>by have:=V3 y;rw[e,V5]at this;cases this
def bQ (y:Str):B0 y≠fhS:=λe=>by have:=V4 y;rw[e,V5]at this;cases this
def RH (K:W.Frag)(D:Addr):Bool:=decide (PySem.W.findIn K (.ref D) "__getattribute__" = some (some (.builtin "BaseException.__getattribute__"))) && decide (PySem.W.findIn K (.ref D) "__getattr__" = some none) && decide (PySem.W.subIn K (.ref D) (.type "BaseException")=some true) && decide (PySem.W.findIn K (.ref D) "__class__" = some (some (.builtin "object.__class__"))) && decide (PySem.W.specialIn K (.builtin "object.__class__") "__get__" = some (some (.builtin "getset_descriptor.__get__"))) && decide (PySem.W.takesIn K (.builtin "object.__class__")=some true) && decide (PySem.W.mroIn K D (.type "object")=some true) && (PySem.W.clsIn K D).isSome
def iR (h:RH K D=true):HP K D:=by unfold RH at h;simp[Co,Ej]at h;obtain⟨⟨⟨⟨⟨⟨⟨c,f⟩,a⟩,d⟩,e⟩,b⟩,i⟩,g⟩:=h;exact⟨c,f,a,d,e,b,i,g⟩
def fN {CE f1 f2:Addr} (F:Fun K "law" "law" GG f fd)(T:Bl mg)
  (MR:L2.Mk K C fI)(mR:mg "Room" = some (.ref C))(bR:Binds K dI ["self", "lines"] [])(c6:Aj P w K mg base CX0 4 fI dI ["self", "lines"] (Qp C))(MT:L2.Mk K CT fT)(mT:mg "Atlas" = some (.ref CT))(bT:Binds K dT IV [])(c0:Aj P w K mg base CX0 10 fT dT IV (Qn C CT CH))
  (D_l_words:Df K mg "_law_words" Il IJ f1 d1)(X:Aj P w K mg base CX0 3 f1 d1 IJ (PK K))(D_l_worlds:Df K mg "_law_worlds" Kb II f2 d2)(L:Aj P w K mg base CX0 3 f2 d2 II (PD K))(a4:Ca P w K mg base CX0 1 "_law_cell" Kf IK (M4 K))(r:Ca P w K mg base CX0 5 "_law_fact" Ke KY (Qr K))(B:Ca P w K mg base CX0 1 "_law_bits" Kg KZ QP)
  (a5:Ca P w K mg base CX0 2 "_law_draw" EU Ey (Fh K))(j:Ca P w K mg base CX0 3 "_law_is_errand" Kd KW (Ql CE CH))(m:Ca P w K mg base CX0 9 "errand_of" Ip GZ (Qw C CT CH CE))(G:Ca P w K mg base CX0 10 "_law_refused" Nq KS (PV C CT CH))(aa:Ca P w K mg base CX0 3 "_law_bad" Nr K0 (QQ K)):Aj P w K mg base CX0 12 f fd ["_law_script"] (MV K):=by
 refine F.oq scLaw λd0 A c9 s H vs Q E p h=>?_
 obtain⟨a,ns,rfl,hS,hn,q⟩:=h
 have ay:Room 1 _:=p.mono Ξ
 have a9:Room 3 _:=p.mono Ξ
 have b5:Room 5 _:=p.mono Ξ
 have ba:Room 9 _:=p.mono Ξ
 have cu:sizeLine=16777216:=AB
 refine⟨_,(Ai (AO (i:=1) scLaw.nd (Cj X a9 Φ D_l_words.m D_l_words.F.kp D_l_words.b .nil Aq (Aa (pv 0) Ac))) (Ai (AO (i:=2) scLaw.nd (Cj L a9 Φ D_l_worlds.m D_l_worlds.F.kp D_l_worlds.b .nil Aq (Aa (pv 0) (Aa (pv 1) Ac)))) (Ai (Iy (i:=3) (sc:=Ak GG) (own:=["_law_k"]) (js:=[0]) scLaw.nd U U BA U (Ky Φ T.range (Aa Ad Ac)) (λ_ _ _ _=>A0 (i:=0) (show List.Nodup (["_law_k", "_law_script"]:List Str) by decide +kernel)) (λ_ _ _ _=>BV) (λ_ _ _ _=>(AD DS Ad (AD IW (AD LA (Az a4 ay Aq (Aa (pv 1) (Aa (AD DS Ad (pv 0)) Ac))) Ad) (AD cK Ad Ad))))) (Ai (AO (i:=4) scLaw.nd (NU MR c6 b5 Φ mR bR .nil Aq (Aa (Cu (Aa (AD Bs AC (Ap AL (pv 1) Ad (λ_ _=>U))) (Aa (AD Bs AC (Ap AL (pv 1) Ad (λ_ _=>U))) (Aa (AD Bs (AD Bs AC (Ap AL (pv 1) Ad (λ_ _=>U))) AC) Ac)))) Ac))) (Ai (AO (i:=5) scLaw.nd (Cu (Aa (A6 (Aa (AD Bs AC (Ap AL (pv 1) Ad (λ_ _=>U))) (Aa (Ap AL (pv 3) Ad (λ_ _=>U)) Ac))) (Aa (A6 (Aa (AD Bs AC (Ap AL (pv 1) Ad (λ_ _=>U))) (Aa (Ap AL (pv 3) Ad (λ_ _=>U)) Ac))) Ac)))) (Ai (AO (i:=6) scLaw.nd (NU MT c0 p Φ mT bT .nil Aq (Aa (pv 4) (Aa (Ap Bf (pv 2) Ad (λ_ _=>U)) (Aa (pv 5) (Aa (Cu (Aa (A6 (Aa AC (Aa (Ap AL (pv 3) Ad (λ_ _=>U)) Ac))) Ac)) Ac)))))) (Ai (AO (i:=7) scLaw.nd (Az r b5 Aq (Aa (pv 0) (Aa Ad (Aa (pv 1) Ac))))) (Ai (AO (i:=8) scLaw.nd (Az r b5 Aq (Aa (pv 0) (Aa Ad (Aa (pv 1) Ac))))) (Ai (AO (i:=9) scLaw.nd (Az B ay Aq (Aa (Ap Bf (pv 7) Ad (λ_ _=>U)) (Aa (Ap Bf (pv 2) Ad (λ_ _=>U)) Ac)))) (Ai (AO (i:=10) scLaw.nd (Ap Bf (pv 7) Ad (λ_ _=>U))) (Ai (AO (i:=11) scLaw.nd Ad) (Ai (AY (AN By (Az a5 (p.mono Ξ) Aq (Aa (pv 0) (Aa Ad (Aa Ad (Aa Ad Ac))))) Ad (AJ _)) (Ai (AO (i:=10) scLaw.nd (AD Bs (AD Bs (pv 10) AC) (Ap Bf (pv 8) Ad (λ_ _=>U)))) (Al (AO (i:=11) scLaw.nd (Az B ay Aq (Aa (Ap Bf (pv 8) Ad (λ_ _=>U)) (Aa (Ap Bf (pv 2) Ad (λ_ _=>U)) Ac)))))) AX) (Ai (AY (C6 (CS (Az j a9 Aq (Aa (Az m ba Aq (Aa (pv 6) (Aa (pv 10) Ac))) (Aa (pv 9) (Aa (pv 11) (Aa (pv 1) (Aa (pv 3) Ac)))))))) (Al (Av Ex)) AX) (Ai (AY (C6 (CS (Az G (p.mono Ξ) Aq (Aa (pv 6) (Aa (Az aa a9 Aq (Aa (pv 0) (Aa (pv 1) (Aa (Ap Bf (pv 7) Ad (λ_ _=>U)) Ac)))) Ac))))) (Al (Av Ex)) AX) (Al (Av (Az j a9 Aq (Aa (Az m ba Aq (Aa (pv 6) (Aa (pv 10) Ac))) (Aa (pv 9) (Aa (pv 11) (Aa (pv 1) (Aa (pv 3) Ac)))))))))))))))))))))),?_⟩
 refine⟨_,U,a,ns,U,hS,hn,λl x y z H1 s1 hl w3=>?_⟩
 refine⟨_,U,_,U,a,l,ns,x,y,z,U,s1.seq hS,hn,hl,λt lw lo us o H2 s2 et bu bv c4 ho=>?_⟩
 have ap:=s1.trans s2
 refine⟨_,U,Ξ,Ξ,λD hD=>?_⟩
 refine BK (n:=3) (λi ys H3=>ys=((List.range i).map λk:Nat=>1+cl ns (21+(k:Int))*48271 % 1000000000).map V.int/\Same H2 H3/\H3 D=some (.lst ys)) ⟨U,Same.new hD,Af⟩ (λi _ _ hi _=>hi) (λ_ _ _=>An _) ?_ ?_
 ·rintro i ys H3 v H4 hi ⟨rfl,s3,e3⟩ ⟨rfl,rfl⟩;refine BX ?_;rw[Hq];refine⟨_,U,_,U,_,_,U,U,a,ns,_,U,(ap.trans s3).seq hS,hn,Ψ,_,_,U,U,.inr ⟨Ξ,Ξ⟩,_,_,U,U,⟨Ξ,Ξ,Ξ⟩,_,_,U,U,Ξ,_,_,U,U,?_⟩;refine⟨_,e3,by rw[Ah,Ah,Dv];lia,?_,s3.put hD,Af⟩;rw[L4,AR,AR];rfl
 rintro ys H3 ⟨rfl,s3,e3⟩
 have pr:=λk:Nat=>bF (cl ns (21+(k:Int)))
 rw[show List.range 3=[0,1,2] by decide]at e3
 simp only[Bg,FF]at e3
 have aq:=pr 0
 have b0:=pr 1
 have b3:=pr 2
 generalize 1+cl ns (21+((0:Nat):Int))*48271 % 1000000000=p0 at e3 aq
 generalize 1+cl ns (21+((1:Nat):Int))*48271 % 1000000000=p1 at e3 b0
 generalize 1+cl ns (21+((2:Nat):Int))*48271 % 1000000000=p2 at e3 b3
 have d6:=ap.trans s3
 have a0:atI [V.str x,V.str y,V.str z] ((0:Nat):Int)=some (.str x):=Au U
 have a1:atI [V.str x,V.str y,V.str z] ((1:Nat):Int)=some (.str y):=Au U
 have a2:atI [V.str x,V.str y,V.str z] ((2:Nat):Int)=some (.str z):=Au U
 have lx:=w3.vx.len
 have ly:=w3.vy.len
 have lz:=w3.vz.len
 have l6:(Str.ofString "place ").length=6:=by decide +kernel
 have cz:(Str.ofString "thing ").length=6:=by decide +kernel
 have d7:(Str.ofString " ball").length=5:=by decide +kernel
 have l5:(Str.ofString "take ").length=5:=by decide +kernel
 have l4:(Str.ofString "put ").length=4:=by decide +kernel
 have ai:=(s2.trans s3) _ _ hl
 have g:=Fv w3
 refine⟨_,U,l,_,_,_,U,U,Y.of ai,a0,_,_,U,U,Ψ,_,U,l,_,_,_,U,U,Y.of ai,a1,_,_,U,U,Ψ,_,U,l,_,_,_,U,U,Y.of ai,a2,_,_,U,U,Ψ,_,_,U,U,by rw[BW];lia,AG,λlr c7=>?_⟩
 rw[Ya]
 obtain⟨H4,s4,e4,g4⟩:=nL c7 [.str (Str.ofString "place " ++ x),.str (Str.ofString "place " ++ y),.str (Ro.txt (.th z "ball"))]
 rw[g4]
 clear g4
 refine λxr dx nx c5 d3=>?_
 have sN:Same H4 (upd (upd H4 dx (.own xr)) xr (.ins C dx [])):=λb o e=>by rw[Ao (A1 e nx),Ao (A1 e c5)];exact e
 refine⟨xr,dx,lr,BJ x y z,U,Af,sN _ _ e4,g,by show 3<=12;decide,λH5 kp RA=>⟨U,?_⟩⟩
 have av:=s4.trans (λb o e=>kp b o (sN _ _ e) (A1 e nx))
 have as:=av _ _ ai
 have ar:=av _ _ e3
 have q1:atI [V.int p0,V.int p1,V.int p2] ((1:Nat):Int)=some (.int p1):=Au U
 refine⟨_,U,l,_,_,_,U,U,Y.of as,a1,_,_,U,U,Ψ,_,U,D,_,_,_,U,U,Y.of ar,Au U,AG,λt1 cd=>?_⟩
 obtain⟨H6,s6,e6,g6⟩:=nT cd [.str (BZ y),.int p0]
 rw[g6]
 clear g6
 refine⟨_,U,l,_,_,_,U,U,Y.of (s6 _ _ as),a1,_,_,U,U,Ψ,_,U,D,_,_,_,U,U,Y.of (s6 _ _ ar),q1,AG,λt2 ce=>?_⟩
 obtain⟨H7,s7,e7,g7⟩:=nT ce [.str (B0 y),.int p1]
 rw[g7]
 clear g7
 refine⟨AG,λld ca=>?_⟩
 obtain⟨H8,s8,e8,g8⟩:=nL ca [.ref t1,.ref t2]
 rw[g8]
 clear g8
 have af:=(s6.trans s7).trans s8
 have b8:=av.trans af
 have bl:atI [V.ref lw,V.ref lo] ((1:Nat):Int)=some (.ref lo):=Au U
 have aw:=s3.trans b8
 refine⟨_,U,_,U,t,_,_,_,U,U,SqT.of (aw _ _ et),Au U,_,U,_,U,D,_,_,_,U,U,Y.of (af _ _ ar),Au U,AG,λt3 cb=>?_⟩
 obtain⟨H9,s9,e9,g9⟩:=nT cb [.str fhS,.int p2]
 rw[g9]
 clear g9
 refine⟨AG,λlk cj=>?_⟩
 obtain⟨bp,a3,cc,bf⟩:=nL cj [.ref t3]
 rw[bf]
 clear bf
 refine λza dz nz ck cy=>?_
 have sM:Same bp (upd (upd bp dz (.own za)) za (.ins CT dz [])):=λb o e=>by rw[Ao (A1 e nz),Ao (A1 e ck)];exact e
 have cn:=((af.trans s9).trans a3).trans sM
 have b7:=((aw.trans s9).trans a3).trans sM
 have cp:O6 (BJ x y z) [(Hg y "take" (BZ y),p0),(Hg y "put" (B0 y),p1)]:=by
  refine⟨λq hq=>?_,λq hq=>?_,by show 2<=40;decide,?_⟩
  ·simp only[Ar,AS,AQ]at hq;rcases hq with e | e
   ·rw[e];exact WD w3 Δ Δ Δ Δ Δ
   rw[e];exact WD w3 Δ Δ Δ Δ Δ
  ·simp only[Ar,AS,AQ]at hq;rcases hq with e | e
   ·rw[e];refine⟨?_,?_,aq.1,aq.2⟩
    ·show 1<=(BZ y).length;rw[BW];lia
    show(BZ y).length<=30;rw[BW];lia
   rw[e];refine⟨?_,?_,b0.1,b0.2⟩
   ·show 1<=(B0 y).length;rw[BW];lia
   show(B0 y).length<=30;rw[BW];lia
  show [BZ y,B0 y].Nodup;simp[Ub y]
 have bz:O4 (BJ x y z) [(Hg y "take" (BZ y),p0),(Hg y "put" (B0 y),p1)] [(Ob x,p2)]:=by
  refine⟨λq hq=>?_,λq hq=>?_,by show 1<=40;decide,?_⟩
  ·rw[AF.mp hq];exact nO x y z
  ·rw[AF.mp hq];exact⟨(by decide +kernel:1<=fhS.length),(by decide +kernel:fhS.length<=30),b3.1,b3.2⟩
  show [BZ y,B0 y,fhS].Nodup;simp[Ub y,Yb y,bQ y]
 refine⟨za,dz,xr,lw,ld,lk,BJ x y z,o.map (AI z),[(Hg y "take" (BZ y),p0),(Hg y "put" (B0 y),p1)],[(Ob x,p2)],us,[.ref t1,.ref t2],[.ref t3],["-", "ball"],U,Af,RA.same cn,g,b7 _ _ bu,b7.rds bv,?_,?_,sM _ _ (a3 _ _ (s9 _ _ e8)),?_,cp,sM _ _ cc,?_,bz,?_,Ξ,Δ,?_,λLw ds cw br AT bb na=>⟨U,?_⟩⟩
 ·intro e;have:∀o∈C7,o≠[]:=by decide
  exact this o ho (List.map_eq_nil_iff.mp e)
 ·intro W hW;obtain⟨i,_,rfl⟩:=AK.mp hW;exact Z5 x y z i
 ·refine⟨U,λi v d hv hd=>?_⟩;match i with
  | 0=>cases hv;cases hd;exact⟨t1,U,((((s7.trans s8).trans s9).trans a3).trans sM) _ _ e6⟩
  | 1=>cases hv;cases hd;exact⟨t2,U,(((s8.trans s9).trans a3).trans sM) _ _ e7⟩
  | i+2=>cases hv
 ·refine⟨U,λi v d hv hd=>?_⟩;match i with
  | 0=>cases hv;cases hd;exact⟨t3,U,(a3.trans sM) _ _ e9⟩
  | i+1=>cases hv
 ·intro q hq W hW s hs;rw[AF.mp hq]at hs;exact nQ hW hs
 ·intro M nd hM;have:=VD nd hM;lia
 have eL:=vJ ho na
 subst eL
 have ae:=(s9.trans a3).trans (λb o e=>br b o (sM _ _ e) (A1 e nz))
 have bg:=af.trans ae
 have a8:=aw.trans ae
 have b4:=bg _ _ as
 have ch:=(b8.trans ae) _ _ e3
 have SA:=(ap.trans a8).seq hS
 refine⟨_,U,_,U,a,l,ns,10,x,y,z,U,SA,hn,Ξ,Ξ,b4,w3,λc1 b1 I cx ac au c3 ah=>?_⟩
 refine⟨_,U,_,U,a,l,ns,14,x,y,z,U,ac.seq SA,hn,Ξ,Ξ,ac _ _ b4,w3,λc2 b2 ax d5 S b9 c8 bh=>?_⟩
 have sB:=ac.trans S
 have ak:=sB _ _ (a8 _ _ c4)
 have bi:=sB _ _ (a8 _ _ et)
 have ol:o.length=3:=by
  have:∀o∈C7,o.length=3:=by decide
  exact this o ho
 have w0:∀(s:Str) (b:Addr),atI [V.str s,V.ref b] ((0:Nat):Int)=some (.str s):=λ_ _=>Au U
 have w1:∀(s:Str) (b:Addr),atI [V.str s,V.ref b] ((1:Nat):Int)=some (.ref b):=λ_ _=>Au U
 have ag:∀ps:List (List Tt),(Fg z ps).length<=3/\∀i∈Fg z ps,i<3:=λps=>⟨Hx _ [0,1,2],λi hi=>by
  have h3:∀i∈[0,1,2],i<3:=by decide
  exact h3 i (Hm.mp hi).1⟩
 refine⟨_,U,c1,_,_,_,U,U,SqT.of (S _ _ au),w1 _ _,_,U,t,_,_,_,U,U,SqT.of bi,bl,b1,lo,_,o,U,S _ _ c3,ak,ho,(ag I).1,(ag I).2,λci R=>?_⟩
 rw[W8 ho]
 have sC:=sB.trans R
 refine⟨_,U,c1,_,_,_,U,U,SqT.of ((S.trans R) _ _ au),w0 _ _,?_⟩
 dsimp only
 have bx:=AT.same sC
 have bc:=na.rw'
 have lO:(o.map (AI z)).length=3:=by rw[Ah];exact ol
 refine UC (λad H'=>ad=[some (.ref a),some (.ref l),some (.ref t),some (.ref D),some (.ref xr),some (.ref ld),some (.ref za),some (.ref c1),some (.ref c2),some (.int (bt (whN I 0 (o.map (AI z))):Nat)),some (.str (AE I)),some (.int 7)]/\H'=ci) ?_ (λN hN=>hN _ _ ⟨U,U⟩)
 rintro ad H' ⟨rfl,rfl⟩
 refine Zc (λad a6=>∃oo:Option (List (List Tt)),(∀q,oo=some q->Cd (BJ x y z) q)/\ad=[some (.ref a),some (.ref l),some (.ref t),some (.ref D),some (.ref xr),some (.ref ld),some (.ref za),some (.ref c1),some (.ref c2),some (.int (bt (whN I 0 (o.map (AI z))):Nat)),some (.str (E1 I oo)),some (.int ((RN 3 (oo.map λq=>bt (whN q 0 (o.map (AI z)))):Nat):Int))]/\Same H' a6) ?_ (λN hN=>?_)
 ·rintro ad a6 ⟨oo,be,rfl,ab⟩;have sD:=sC.trans ab;have aj:=sD _ _ b4;have al:=sD _ _ ch;refine⟨_,U,_,U,za,BJ x y z,_,ds,_,I,oo,U,bx.same ab,g,ah,be,bc,by rw[lO];decide,An 1,λex bq az bj er=>?_⟩;rw[lO]at er;have ki:∀c u,a6 c=some (.lst u)->bq c=some (.lst u):=λc u e=>az _ _ e (λ_ z=>nomatch z);have kt:∀c u,a6 c=some (.tup u)->bq c=some (.tup u):=λc u e=>az _ _ e (λ_ z=>nomatch z);refine⟨_,U,_,U,_,U,_,U,ex,l,D,ds,_,_,_,x,y,z,p0,p1,p2,U,er,ki _ _ aj,w3,ki _ _ al,bb,U,λcv a7=>⟨_,U,?_⟩⟩;refine A7 ?_;dsimp only[ML];have ao:=a7 _ _ (ki _ _ aj);refine⟨_,U,_,U,_,U,_,U,c1,_,_,_,U,U,SqT.of (a7 _ _ (kt _ _ (((S.trans R).trans ab) _ _ au))),w0 _ _,a,l,ns,x,y,z,I,U,a7.seq (az.seq (sD.seq SA)),hn,ao,w3,ah,λco ct bo bd=>?_⟩;have an:=(bj.same a7).same bo;refine⟨za,BJ x y z,_,ds,_,co,U,an,bd,λcf bn=>⟨_,U,?_⟩⟩;refine A7 ?_;have am:=bo.trans bn;have bm:=am _ _ (a7 _ _ (ki _ _ al));refine⟨_,U,_,U,za,BJ x y z,_,ds,_,I,oo,U,an.same bn,g,ah,be,bc,by rw[lO];decide,An 1,λbw cg cq cr b6=>?_⟩;rw[lO]at b6;have kj:∀c u,cf c=some (.lst u)->cg c=some (.lst u):=λc u e=>cq _ _ e (λ_ z=>nomatch z);exact⟨_,U,_,U,_,U,_,U,bw,l,D,ds,_,_,_,x,y,z,p0,p1,p2,U,b6,kj _ _ (am _ _ ao),w3,kj _ _ bm,bb,U,λcm d4=>q cm⟩
 refine⟨_,U,a,ns,_,_,_,U,sC.seq SA,hn,Ξ,Ξ,Ξ,Ξ,U,_,U,?_⟩
 refine Bq (λ_=>?_) (λ_=>?_)
 ·have f1:=Eh g ah;have f2:=Eh g bh;have l7:(Str.ofString " while ").length=7:=by decide +kernel
  refine⟨_,U,_,_,U,U,Ψ,_,U,c2,_,_,_,U,U,SqT.of (R _ _ b9),w0 _ _,_,_,U,U,by rw[BW];lia,?_⟩;refine⟨_,U,c2,_,_,_,U,U,SqT.of (R _ _ b9),w1 _ _,_,U,t,_,_,_,U,U,SqT.of (R _ _ bi),bl,b2,lo,_,o,U,R _ _ c8,R _ _ ak,ho,(ag ax).1,(ag ax).2,λa6 ab=>?_⟩;rw[W8 ho];exact hN _ _ ⟨some ax,(λq e=>by cases e;exact bh),U,ab⟩
 exact hN _ _ ⟨none,(λq e=>by cases e),U,Same.refl _⟩
end
def Cg {P:List Value->Prop}(h:∀a:Value,P [a]):∀us:List Value,us.length=1->P us:=λu e=>by obtain⟨a,rfl⟩:=List.length_eq_one_iff.mp e;exact h a
def Cf {P:List Value->Prop}(h:∀a b:Value,P [a,b]):∀us:List Value,us.length=2->P us:=λu e=>by cases u with|nil=>cases e|cons a r=>exact Cg (P:=λr=>P (a::r)) (h a) r (Nat.succ.inj e)
def B7 {P:List Value->Prop}(h:∀a b c:Value,P [a,b,c]):∀us:List Value,us.length=3->P us:=λu e=>by cases u with|nil=>cases e|cons a r=>exact Cf (P:=λr=>P (a::r)) (h a) r (Nat.succ.inj e)
def Ja {P:List Value->Prop}(h:∀a b c d:Value,P [a,b,c,d]):∀us:List Value,us.length=4->P us:=λu e=>by cases u with|nil=>cases e|cons a r=>exact B7 (P:=λr=>P (a::r)) (h a) r (Nat.succ.inj e)
def VJ {P:List Value->Prop}(h:∀b c d e a:Value,P [b,c,d,e,a]):∀us:List Value,us.length=5->P us:=λu e=>by cases u with|nil=>cases e|cons a r=>exact Ja (P:=λr=>P (a::r)) (h a) r (Nat.succ.inj e)
open PySem.W (Frag OpenLaw codeIn excIn findIn fnOf hasDictIn isFn keepIn kin_not makesIn mg_none_of mg_of nsIn plainGet plainOver)
abbrev nA (K:Frag)(x:Str)(f:Addr):Prop:=nsIn K mainGlobals x=some (some (.ref f))
abbrev lK (K:Frag)(f:Addr)(x q:Str)(s:Stmt)(oc:Value)(od:Option Addr)(kV dc pm:Value)(an:Option Addr)(cd ct:Value)(sl:Array (Option Value)):Prop:=K.lookup f=some ⟨oc,od,.func (fnOf x q (Dr s) (CB s) (Ak s) .none kV dc pm an cd ct),sl⟩
def all_mk {l:OpenLaw}{w:World}{K:Frag}{h:Heap}{mg:Str->Option Value}{fa GE NN CH CT CE XN XW C aN aF tF1 tF2 tF3 tF4 aI f1 f2 f3 f4 f5 f6 f7 f8 f9 f10 f11 f12 f13 f14 f15 f16 f17 f18 f19 f20 f21 f22 f23 f24 f25 f26 f27 f28 f29 f30 f31 f32 f33 f34 f35 f36 f37 f38 f39 f40 f41 f42 f43 f44 f45 f46 f47 f48 f49 f50 f51 f52 f53 f54 f55 f56 f57 f58 f59 f60 f61 f62 f63 f64 f65 f66 f67 f68 f69 f70 f71 f72 f73 f74 f75 f76 f77 f78 f79 f80 f81 f82 f83 f84 f85 f86:Addr}(X:K.In h)(G:h.Ns mainGlobals mg)(hfa:mg "law" = some (.ref fa))
  {od67 an67 od68 an68 od69 an69 od70 an70 od71 an71 od83 an83 odN odF oF1 oF2 oF3 oF4 odI:Option Addr}{sl67 sl68 sl69 sl70 sl71 sl83 slN slF sF1 sF2 sF3 sF4 slI:Array (Option Value)}{oc67 kV67 dc67 pm67 cd67 ct67 oc68 kV68 dc68 pm68 cd68 ct68 oc69 kV69 dc69 pm69 cd69 ct69 oc70 kV70 dc70 pm70 cd70 ct70 oc71 kV71 dc71 pm71 cd71 ct71 oc83 kV83 dc83 pm83 cd83 ct83 uL uO uP uT uWc uSc uNc uRc:Value}{itN itF iF1 iF2 iF3 iF4 itI:Array Value}{nN nF nF1 nF2 nF3 nF4 nnI:Nat}{TD:Addr}{ocTD:Value}{odTD:Option Addr}{nnTD:Nat}{slTD:Array (Option Value)}
  {esP esL:Array DictEntry}{epP epL:Nat}{aP aL t1 t2 t3 t4:Addr}{oT1 oT2 oT3 oT4:Option Addr}{iT1 iT2 iT3 iT4:Array Value}{nT1 nT2 nT3 nT4:Nat}{sT1 sT2 sT3 sT4:Array (Option Value)}
  (q1:Qf K "heap_in" GH f1)
  (q2:Qf K "lid_on" Ka f2)
  (q3:Qf K "holds" Kl f3)
  (q4:Qf K "read_errand" Ij f4)
  (q5:Qf K "read_fact" Fi f5)
  (q6:Qf K "read_part" FY f6)
  (q7:Qf K "read_term" Ih f7)
  (q8:Qf K "is_atom" Kk f8)
  (q9:Qf K "is_short_atom" Ny f9)
  (q10:Qf K "is_spot" Nu f10)
  (q11:Qf K "part_holds" J7 f11)
  (q12:Qf K "atom_holds" NJ f12)
  (q13:Qf K "holds_of_thing" Io f13)
  (q14:Qf K "lies_on" Nm f14)
  (q15:Qf K "set_of" FX f15)
  (q16:Qf K "errand_of" Ip f16)
  (q17:Qf K "check_many" NF f17)
  (q18:Qf K "check_steps" Ir f18)
  (q19:Qf K "check_name" ND f19)
  (q20:Qf K "check_price" NC f20)
  (q21:Qf K "check_table" Ko f21)
  (q22:Qf K "check_entry" Kp f22)
  (q23:Qf K "read_deeds" J6 f23)
  (q24:Qf K "read_looks" Ng f24)
  (q25:Qf K "parted" Ni f25)
  (q26:Qf K "doable_sets" Iq f26)
  (q27:Qf K "turns" J3 f27)
  (q28:Qf K "read_deed" Ik f28)
  (q29:Qf K "move_things" Nk f29)
  (q30:Qf K "take" Nb f30)
  (q31:Qf K "put" Nh f31)
  (q32:Qf K "is_free" Kj f32)
  (q33:Qf K "is_open" Kh f33)
  (q34:Qf K "can_put" NH f34)
  (q35:Qf K "laid" Nn f35)
  (q36:Qf K "changed" Kr f36)
  (q37:Qf K "looked" Nl f37)
  (q38:Qf K "read_look" J4 f38)
  (q39:Qf K "is_look" Nz f39)
  (q40:Qf K "shape_told" Nc f40)
  (q41:Qf K "check_told" NB f41)
  (q42:Qf K "number_all" Nj f42)
  (q43:Qf K "add_new" NM f43)
  (q44:Qf K "chart_of" Iu f44)
  (q45:Qf K "deed_table" Kn f45)
  (q46:Qf K "numbers_of" J8 f46)
  (q47:Qf K "look_table" J9 f47)
  (q48:Qf K "is_name" Ki f48)
  (q49:Qf K "read_line" J5 f49)
  (q50:Qf K "read_rows" Ii f50)
  (q51:Qf K "read_things" Nd f51)
  (q52:Qf K "read_places" Nf f52)
  (q53:Qf K "check_keys" NG f53)
  (q54:Qf K "_law_cell" Kf f54)
  (q55:Qf K "_law_draw" EU f55)
  (q56:Qf K "_law_words" Il f56)
  (q57:Qf K "_law_worlds" Kb f57)
  (q58:Qf K "_law_atoms" Nt f58)
  (q59:Qf K "_law_term" Im f59)
  (q60:Qf K "_law_part" Kc f60)
  (q61:Qf K "_law_fact" Ke f61)
  (q62:Qf K "_law_bad" Nr f62)
  (q63:Qf K "_law_bits" Kg f63)
  (q64:Qf K "_law_whole" Np f64)
  (q65:Qf K "_law_is_errand" Kd f65)
  (q66:Qf K "_law_refused" Nq f66)
  (a67:nA K "law" f67)(l67:lK K f67 "law" "law" GG oc67 od67 kV67 dc67 pm67 an67 cd67 ct67 sl67)(c67:codeIn K cd67 "law" = true)(k67:keepIn K (.ref f67)=true)
  (aC:nsIn K mainGlobals "Room" = some (some (.ref C)))
  (a68:findIn K (.ref C) "__init__" = some (some (.ref f68)))(i68:isFn K (.ref f68)=true)(l68:lK K f68 "__init__" "Room.__init__" QZ oc68 od68 kV68 dc68 pm68 an68 cd68 ct68 sl68)(c68:codeIn K cd68 "Room.__init__" = true)(k68:keepIn K (.ref f68)=true)
  (a69:findIn K (.ref C) "places" = some (some (.ref f69)))(i69:isFn K (.ref f69)=true)(l69:lK K f69 "places" "Room.places" QY oc69 od69 kV69 dc69 pm69 an69 cd69 ct69 sl69)(c69:codeIn K cd69 "Room.places" = true)(k69:keepIn K (.ref f69)=true)
  (a70:findIn K (.ref C) "things" = some (some (.ref f70)))(i70:isFn K (.ref f70)=true)(l70:lK K f70 "things" "Room.things" QW oc70 od70 kV70 dc70 pm70 an70 cd70 ct70 sl70)(c70:codeIn K cd70 "Room.things" = true)(k70:keepIn K (.ref f70)=true)
  (a71:findIn K (.ref C) "shape_of" = some (some (.ref f71)))(i71:isFn K (.ref f71)=true)(l71:lK K f71 "shape_of" "Room.shape_of" QX oc71 od71 kV71 dc71 pm71 an71 cd71 ct71 sl71)(c71:codeIn K cd71 "Room.shape_of" = true)(k71:keepIn K (.ref f71)=true)
  (pg:plainGet K C Str.empty=true)(hd:hasDictIn K C=true)(po:plainOver K C=true)(sa:findIn K (.ref C) "__setattr__" = some (some (.builtin "object.__setattr__")))(mk:makesIn K C=true)(kc:keepIn K (.ref C)=true)
  (nP:findIn K (.ref C) "told_places" = some none)(nS:findIn K (.ref C) "told_shapes" = some none)
  (aCH:nsIn K mainGlobals "Chart" = some (some (.ref CH)))(pgCH:plainGet K CH Str.empty=true)(hdCH:hasDictIn K CH=true)(poCH:plainOver K CH=true)(saCH:findIn K (.ref CH) "__setattr__" = some (some (.builtin "object.__setattr__")))(mkCH:makesIn K CH=true)(kcCH:keepIn K (.ref CH)=true)
  (nCH_1:findIn K (.ref CH) "many" = some none)
  (nCH_2:findIn K (.ref CH) "prices" = some none)
  (nCH_3:findIn K (.ref CH) "told_outs" = some none)
  (nCH_4:findIn K (.ref CH) "told_answers" = some none)
  (nCH_5:findIn K (.ref CH) "told_parts" = some none)
  (nCH_6:findIn K (.ref CH) "told_doable" = some none)
  (aCT:nsIn K mainGlobals "Atlas" = some (some (.ref CT)))(pgCT:plainGet K CT Str.empty=true)(hdCT:hasDictIn K CT=true)(poCT:plainOver K CT=true)(saCT:findIn K (.ref CT) "__setattr__" = some (some (.builtin "object.__setattr__")))(mkCT:makesIn K CT=true)(kcCT:keepIn K (.ref CT)=true)
  (nCT_1:findIn K (.ref CT) "told_room" = some none)
  (nCT_2:findIn K (.ref CT) "numbers" = some none)
  (nCT_3:findIn K (.ref CT) "made_chart" = some none)
  (aCE:nsIn K mainGlobals "Errand" = some (some (.ref CE)))(pgCE:plainGet K CE Str.empty=true)(hdCE:hasDictIn K CE=true)(poCE:plainOver K CE=true)(saCE:findIn K (.ref CE) "__setattr__" = some (some (.builtin "object.__setattr__")))(mkCE:makesIn K CE=true)(kcCE:keepIn K (.ref CE)=true)
  (nCE_1:findIn K (.ref CE) "told_chart" = some none)
  (nCE_2:findIn K (.ref CE) "told_goal" = some none)
  (nCE_3:findIn K (.ref CE) "told_keep" = some none)
  (q72:Qm K CH "__init__" "Chart.__init__" Kq f72)
  (q73:Qm K CH "size" "Chart.size" Q4 f73)
  (q74:Qm K CH "deed_names" "Chart.deed_names" Q7 f74)
  (q75:Qm K CH "look_names" "Chart.look_names" Q6 f75)
  (q76:Qm K CH "check_step" "Chart.check_step" Q8 f76)
  (q77:Qm K CH "price_of" "Chart.price_of" Q5 f77)
  (q78:Qm K CT "__init__" "Atlas.__init__" NL f78)
  (q79:Qm K CT "room" "Atlas.room" Q9 f79)
  (q80:Qm K CT "worlds" "Atlas.worlds" Z4 f80)
  (q81:Qm K CT "where" "Atlas.where" NK f81)
  (q82:Qm K CT "chart" "Atlas.chart" Ra f82)
  (a83:findIn K (.ref CE) "__init__" = some (some (.ref f83)))(i83:isFn K (.ref f83)=true)(l83:K.lookup f83=some ⟨oc83,od83,.func (fnOf "__init__" "Errand.__init__" (Dr Km) (CB Km) (Ak Km) (.ref TD) kV83 dc83 pm83 an83 cd83 ct83),sl83⟩)(c83:codeIn K cd83 "Errand.__init__" = true)(k83:keepIn K (.ref f83)=true)
  (q84:Qm K CE "chart" "Errand.chart" Q3 f84)
  (q85:Qm K CE "goal" "Errand.goal" Q2 f85)
  (q86:Qm K CE "keep" "Errand.keep" Q0 f86)
  (aG:nsIn K mainGlobals "GropeError" = some (some (.ref GE)))(aE:nsIn K mainGlobals "NoFact" = some (some (.ref NN)))(oG:excIn K GE E3 "ValueError.__new__" = true)(oE:excIn K NN E3 "ValueError.__new__" = true)(sE:mroIn K NN GE=true)
  (aXN:nsIn K mainGlobals "NoName" = some (some (.ref XN)))(oXN:excIn K XN E3 "ValueError.__new__" = true)(sXN:mroIn K XN GE=true)
  (aXW:nsIn K mainGlobals "NoWorld" = some (some (.ref XW)))(oXW:excIn K XW E3 "ValueError.__new__" = true)(sXW:mroIn K XW GE=true)
  (gL:nsIn K mainGlobals "LETTERS" = some (some uL))(vL:Dt uL=some (.str abc))
  (gO:nsIn K mainGlobals "MOST_LETTERS" = some (some uO))(vO:Dt uO=some (.int 8))
  (gP:nsIn K mainGlobals "MOST_PLACES" = some (some uP))(vP:Dt uP=some (.int 6))
  (gT:nsIn K mainGlobals "MOST_THINGS" = some (some uT))(vT:Dt uT=some (.int 6))
  (gWc:nsIn K mainGlobals "MOST_WORLDS" = some (some uWc))(vWc:Dt uWc=some (.int 200))
  (gSc:nsIn K mainGlobals "MOST_STEPS" = some (some uSc))(vSc:Dt uSc=some (.int 40))
  (gNc:nsIn K mainGlobals "MOST_SIGNS" = some (some uNc))(vNc:Dt uNc=some (.int 30))
  (gRc:nsIn K mainGlobals "MOST_PRICE" = some (some uRc))(vRc:Dt uRc=some (.int 1000000000))
  (gN:nsIn K mainGlobals "NO_NAMES" = some (some (.ref aN)))(lN:K.lookup aN=some ⟨.type "tuple",odN,.seq itN nN,slN⟩)(vN:Di itN.toList=some (fixedS.map V.str))
  (gF:nsIn K mainGlobals "FORMS" = some (some (.ref aF)))(lF:K.lookup aF=some ⟨.type "tuple",odF,.seq itF nF,slF⟩)(vF:Di itF.toList=some [.ref tF1,.ref tF2,.ref tF3,.ref tF4])
  (lF1:K.lookup tF1=some ⟨.type "tuple",oF1,.seq iF1 nF1,sF1⟩)(vF1:Di iF1.toList=some [.str "place",.int 2])
  (lF2:K.lookup tF2=some ⟨.type "tuple",oF2,.seq iF2 nF2,sF2⟩)(vF2:Di iF2.toList=some [.str "box",.int 2])
  (lF3:K.lookup tF3=some ⟨.type "tuple",oF3,.seq iF3 nF3,sF3⟩)(vF3:Di iF3.toList=some [.str "box",.int 3])
  (lF4:K.lookup tF4=some ⟨.type "tuple",oF4,.seq iF4 nF4,sF4⟩)(vF4:Di iF4.toList=some [.str "thing",.int 3])
  (gI:nsIn K mainGlobals "LIDS_facts" = some (some (.ref aI)))(lI:K.lookup aI=some ⟨.type "tuple",odI,.seq itI nnI,slI⟩)(vI:Di itI.toList=some (lidsS.map V.str))
  (gPl:nsIn K mainGlobals "PLACES" = some (some (.ref aP)))
  (lPl:K.lookup aP=some ⟨.type "dict",none,.dict esP epP,#[]⟩)
  (sPl:(aP == sysModules)=false)
  (vPl:E2 esP.toList=some placesK)
  (hPl:esP.toList.map (·.hash)=placesK.map (λkv=>LO w kv.1))
  (gLi:nsIn K mainGlobals "LIDS_deeds" = some (some (.ref aL)))
  (lLi:K.lookup aL=some ⟨.type "dict",none,.dict esL epL,#[]⟩)
  (sLi:(aL == sysModules)=false)
  (vLi:E2 esL.toList=some (LK t1 t2 t3 t4))
  (hLi:esL.toList.map (·.hash)=(LK t1 t2 t3 t4).map (λkv=>LO w kv.1))
  (lT1:K.lookup t1=some ⟨.type "tuple",oT1,.seq iT1 nT1,sT1⟩)
  (wT1:Di iT1.toList=some [V.str "shut",V.str "open"])
  (lT2:K.lookup t2=some ⟨.type "tuple",oT2,.seq iT2 nT2,sT2⟩)
  (wT2:Di iT2.toList=some [V.str "open",V.str "shut"])
  (lT3:K.lookup t3=some ⟨.type "tuple",oT3,.seq iT3 nT3,sT3⟩)
  (wT3:Di iT3.toList=some [V.str "shut",V.str "locked"])
  (lT4:K.lookup t4=some ⟨.type "tuple",oT4,.seq iT4 nT4,sT4⟩)
  (wT4:Di iT4.toList=some [V.str "locked",V.str "shut"])
  (hKB:(RH K NN && kin_not K NN XN && kin_not K NN XW)=true)
  (lTD:K.lookup TD=some ⟨ocTD,odTD,.seq #[.none] nnTD,slTD⟩)
  (z1:nsIn K mainGlobals "len" = some none)(z2:nsIn K mainGlobals "range" = some none)(z3:nsIn K mainGlobals "tuple" = some none)(z4:nsIn K mainGlobals "zip" = some none)(z5:nsIn K mainGlobals "isinstance" = some none)(z6:nsIn K mainGlobals "str" = some none)(z7:nsIn K mainGlobals "list" = some none)(z8:nsIn K mainGlobals "set" = some none)(z9:nsIn K mainGlobals "all" = some none)(z10:nsIn K mainGlobals "sorted" = some none)(z11:nsIn K mainGlobals "int" = some none)(z12:nsIn K mainGlobals "bool" = some none)(z13:nsIn K mainGlobals "reversed" = some none)(z14:nsIn K mainGlobals "max" = some none)(z15:nsIn K mainGlobals "sum" = some none)(z16:nsIn K mainGlobals "enumerate" = some none)(z17:nsIn K mainGlobals "dict" = some none)(z18:nsIn K mainGlobals "any" = some none)(z19:nsIn K mainGlobals "ValueError" = some none) :
  ∃fd:FuncData,(∀(s:Shared) (v:Value),BindsTo s fd ⟨[v],[]⟩ [("_law_script",v)])/\∀base:Heap,K.In base->base.Ns mainGlobals mg->Aj l.prog w K mg base CX0 12 fa fd ["_law_script"] (MV K):=by
 have e:=hfa.symm.trans (Ck X G a67)
 cases e
 have T:Bl mg:=⟨CN X G z1,CN X G z2,CN X G z3,CN X G z4,CN X G z5,CN X G z6,CN X G z7,CN X G z8,CN X G z9,CN X G z10,CN X G z11,CN X G z12,CN X G z13,CN X G z14,CN X G z15,CN X G z16,CN X G z17,CN X G z18,CN X G z19⟩
 obtain⟨tL,eL⟩:=(EV vL:RelV (.str abc) uL)
 rw[eL]at gL
 obtain⟨tO,eO⟩:=(EV vO:RelV (.int 8) uO)
 rw[eO]at gO
 obtain⟨tP,eP⟩:=(EV vP:RelV (.int 6) uP)
 rw[eP]at gP
 obtain⟨tT,eT⟩:=(EV vT:RelV (.int 6) uT)
 rw[eT]at gT
 obtain⟨tWc,eWc⟩:=(EV vWc:RelV (.int 200) uWc)
 rw[eWc]at gWc
 obtain⟨tSc,eSc⟩:=(EV vSc:RelV (.int 40) uSc)
 rw[eSc]at gSc
 obtain⟨tNc,eNc⟩:=(EV vNc:RelV (.int 30) uNc)
 rw[eNc]at gNc
 obtain⟨tRc,eRc⟩:=(EV vRc:RelV (.int 1000000000) uRc)
 rw[eRc]at gRc
 have M:Md K mg aN aF:=⟨⟨_,Ck X G gL⟩,⟨_,Ck X G gO⟩,⟨_,Ck X G gP⟩,⟨_,Ck X G gT⟩,Ck X G gN,λH=>.inr ⟨_,itN,nN,lN,U,U,by
   have h1:=(DB vN).length
   have h2:itN.toList.length=itN.size:=by simp
   have h3:(fixedS.map V.str).length=14:=by decide +kernel
   have hs:=AB
   lia,DB vN⟩,Ck X G gF,
  Ku lF vF (.cons (Ku lF1 vF1 (.cons (FZ U) (.cons (FZ U) .nil))) (.cons (Ku lF2 vF2 (.cons (FZ U) (.cons (FZ U) .nil))) (.cons (Ku lF3 vF3 (.cons (FZ U) (.cons (FZ U) .nil))) (.cons (Ku lF4 vF4 (.cons (FZ U) (.cons (FZ U) .nil))) .nil))))⟩
 have L:Cl K C:=⟨⟨pg,hd,po,sa⟩,nP,nS⟩
 have MI:Ml K mg aI:=⟨Ck X G gI,λH=>.inr ⟨_,itI,nnI,lI,U,U,by
   have h1:=(DB vI).length;have h2:itI.toList.length=itI.size:=by simp
   have h3:(lidsS.map V.str).length<=100:=by decide +kernel
   have hs:=AB;lia,DB vI⟩⟩
 have F67:=Fx l67 c67 k67
 have F68:=Fx l68 c68 k68
 have b68:=F68.binds (ps:=["self", "lines"]) λ_ _ _ _ _ _=>Cf λ_ _=>rfl
 have F69:=Fx l69 c69 k69
 have b69:=F69.binds (ps:=["self"]) λ_ _ _ _ _ _=>Cg λ_=>rfl
 have F70:=Fx l70 c70 k70
 have b70:=F70.binds (ps:=["self"]) λ_ _ _ _ _ _=>Cg λ_=>rfl
 have F71:=Fx l71 c71 k71
 have b71:=F71.binds (ps:=["self", "thing"]) λ_ _ _ _ _ _=>Cf λ_ _=>rfl
 obtain⟨_,F72,b72,m72⟩:=q72.df Lp λ_ _ _ _ _ _=>Ja λ_ _ _ _=>rfl
 obtain⟨_,F73,b73,m73⟩:=q73.df IU λ_ _ _ _ _ _=>Cg λ_=>rfl
 obtain⟨_,F74,b74,m74⟩:=q74.df Lq λ_ _ _ _ _ _=>Cg λ_=>rfl
 obtain⟨_,F75,b75,m75⟩:=q75.df Ln λ_ _ _ _ _ _=>Cg λ_=>rfl
 obtain⟨_,F76,b76,m76⟩:=q76.df Lr λ_ _ _ _ _ _=>Cf λ_ _=>rfl
 obtain⟨_,F77,b77,m77⟩:=q77.df Ll λ_ _ _ _ _ _=>Cf λ_ _=>rfl
 obtain⟨_,F78,b78,m78⟩:=q78.df IV λ_ _ _ _ _ _=>VJ λ_ _ _ _ _=>rfl
 obtain⟨_,F79,b79,m79⟩:=q79.df Rx λ_ _ _ _ _ _=>Cg λ_=>rfl
 obtain⟨_,F80,b80,m80⟩:=q80.df cH λ_ _ _ _ _ _=>Cg λ_=>rfl
 obtain⟨_,F81,b81,m81⟩:=q81.df Ly λ_ _ _ _ _ _=>Cf λ_ _=>rfl
 obtain⟨_,F82,b82,m82⟩:=q82.df Ry λ_ _ _ _ _ _=>Cg λ_=>rfl
 have F83:=qZ l83 c83
 obtain⟨_,F84,b84,m84⟩:=q84.df Lf λ_ _ _ _ _ _=>Cg λ_=>rfl
 obtain⟨_,F85,b85,m85⟩:=q85.df Le λ_ _ _ _ _ _=>Cg λ_=>rfl
 obtain⟨_,F86,b86,m86⟩:=q86.df Ld λ_ _ _ _ _ _=>Cg λ_=>rfl
 have CCH:Cls K CH:=⟨pgCH,hdCH,poCH,saCH⟩
 obtain⟨_,D1⟩:=q1.df X G EY λ_ _ _ _ _ _=>B7 λ_ _ _=>rfl
 obtain⟨_,D2⟩:=q2.df X G GW λ_ _ _ _ _ _=>B7 λ_ _ _=>rfl
 obtain⟨_,D3⟩:=q3.df X G Lc λ_ _ _ _ _ _=>B7 λ_ _ _=>rfl
 obtain⟨_,D4⟩:=q4.df X G GV λ_ _ _ _ _ _=>Cf λ_ _=>rfl
 obtain⟨_,D5⟩:=q5.df X G F6 λ_ _ _ _ _ _=>Cf λ_ _=>rfl
 obtain⟨_,D6⟩:=q6.df X G GU λ_ _ _ _ _ _=>Cf λ_ _=>rfl
 obtain⟨_,D7⟩:=q7.df X G GS λ_ _ _ _ _ _=>Cf λ_ _=>rfl
 obtain⟨_,D8⟩:=q8.df X G IP λ_ _ _ _ _ _=>Cf λ_ _=>rfl
 obtain⟨_,D9⟩:=q9.df X G IM λ_ _ _ _ _ _=>B7 λ_ _ _=>rfl
 obtain⟨_,D10⟩:=q10.df X G IL λ_ _ _ _ _ _=>B7 λ_ _ _=>rfl
 obtain⟨_,D11⟩:=q11.df X G KH λ_ _ _ _ _ _=>B7 λ_ _ _=>rfl
 obtain⟨_,D12⟩:=q12.df X G Lx λ_ _ _ _ _ _=>B7 λ_ _ _=>rfl
 obtain⟨_,D13⟩:=q13.df X G IQ λ_ _ _ _ _ _=>B7 λ_ _ _=>rfl
 obtain⟨_,D14⟩:=q14.df X G KO λ_ _ _ _ _ _=>B7 λ_ _ _=>rfl
 obtain⟨_,D15⟩:=q15.df X G Fm λ_ _ _ _ _ _=>Cg λ_=>rfl
 obtain⟨_,D16⟩:=q16.df X G GZ λ_ _ _ _ _ _=>Cf λ_ _=>rfl
 obtain⟨_,D17⟩:=q17.df X G IT λ_ _ _ _ _ _=>Cg λ_=>rfl
 obtain⟨_,D18⟩:=q18.df X G G0 λ_ _ _ _ _ _=>Cf λ_ _=>rfl
 obtain⟨_,D19⟩:=q19.df X G Lj λ_ _ _ _ _ _=>Cg λ_=>rfl
 obtain⟨_,D20⟩:=q20.df X G Li λ_ _ _ _ _ _=>Cg λ_=>rfl
 obtain⟨_,D21⟩:=q21.df X G IS λ_ _ _ _ _ _=>B7 λ_ _ _=>rfl
 obtain⟨_,D22⟩:=q22.df X G Lk λ_ _ _ _ _ _=>B7 λ_ _ _=>rfl
 obtain⟨_,D23⟩:=q23.df X G IF λ_ _ _ _ _ _=>Cf λ_ _=>rfl
 obtain⟨_,D24⟩:=q24.df X G ID λ_ _ _ _ _ _=>Cf λ_ _=>rfl
 obtain⟨_,D25⟩:=q25.df X G IH λ_ _ _ _ _ _=>Cg λ_=>rfl
 obtain⟨_,D26⟩:=q26.df X G IR λ_ _ _ _ _ _=>Cf λ_ _=>rfl
 obtain⟨_,D27⟩:=q27.df X G IC λ_ _ _ _ _ _=>B7 λ_ _ _=>rfl
 obtain⟨_,D28⟩:=q28.df X G IG λ_ _ _ _ _ _=>Cf λ_ _=>rfl
 obtain⟨_,D29⟩:=q29.df X G KL λ_ _ _ _ _ _=>Ja λ_ _ _ _=>rfl
 obtain⟨_,D30⟩:=q30.df X G KC λ_ _ _ _ _ _=>B7 λ_ _ _=>rfl
 obtain⟨_,D31⟩:=q31.df X G KG λ_ _ _ _ _ _=>B7 λ_ _ _=>rfl
 obtain⟨_,D32⟩:=q32.df X G GY λ_ _ _ _ _ _=>Cg λ_=>rfl
 obtain⟨_,D33⟩:=q33.df X G GX λ_ _ _ _ _ _=>B7 λ_ _ _=>rfl
 obtain⟨_,D34⟩:=q34.df X G Lu λ_ _ _ _ _ _=>B7 λ_ _ _=>rfl
 obtain⟨_,D35⟩:=q35.df X G KP λ_ _ _ _ _ _=>B7 λ_ _ _=>rfl
 obtain⟨_,D36⟩:=q36.df X G G1 λ_ _ _ _ _ _=>Ja λ_ _ _ _=>rfl
 obtain⟨_,D37⟩:=q37.df X G KM λ_ _ _ _ _ _=>B7 λ_ _ _=>rfl
 obtain⟨_,D38⟩:=q38.df X G IE λ_ _ _ _ _ _=>Cf λ_ _=>rfl
 obtain⟨_,D39⟩:=q39.df X G Lb λ_ _ _ _ _ _=>B7 λ_ _ _=>rfl
 obtain⟨_,D40⟩:=q40.df X G KE λ_ _ _ _ _ _=>Cf λ_ _=>rfl
 obtain⟨_,D41⟩:=q41.df X G Lh λ_ _ _ _ _ _=>B7 λ_ _ _=>rfl
 obtain⟨_,D42⟩:=q42.df X G KJ λ_ _ _ _ _ _=>B7 λ_ _ _=>rfl
 obtain⟨_,D43⟩:=q43.df X G Lz λ_ _ _ _ _ _=>Cf λ_ _=>rfl
 obtain⟨_,D44⟩:=q44.df X G Lm λ_ _ _ _ _ _=>Ja λ_ _ _ _=>rfl
 obtain⟨_,D45⟩:=q45.df X G Lg λ_ _ _ _ _ _=>B7 λ_ _ _=>rfl
 obtain⟨_,D46⟩:=q46.df X G KI λ_ _ _ _ _ _=>Cf λ_ _=>rfl
 obtain⟨_,D47⟩:=q47.df X G KN λ_ _ _ _ _ _=>B7 λ_ _ _=>rfl
 obtain⟨_,D48⟩:=q48.df X G ["text"] λ_ _ _ _ _ _=>Cg λ_=>rfl
 obtain⟨_,D49⟩:=q49.df X G ["line"] λ_ _ _ _ _ _=>Cg λ_=>rfl
 obtain⟨_,D50⟩:=q50.df X G ["lines"] λ_ _ _ _ _ _=>Cg λ_=>rfl
 obtain⟨_,D51⟩:=q51.df X G ["rows"] λ_ _ _ _ _ _=>Cg λ_=>rfl
 obtain⟨_,D52⟩:=q52.df X G ["rows"] λ_ _ _ _ _ _=>Cg λ_=>rfl
 obtain⟨_,D53⟩:=q53.df X G ["places", "shapes"] λ_ _ _ _ _ _=>Cf λ_ _=>rfl
 obtain⟨_,D54⟩:=q54.df X G IK λ_ _ _ _ _ _=>Cf λ_ _=>rfl
 obtain⟨_,D55⟩:=q55.df X G Ey λ_ _ _ _ _ _=>Ja λ_ _ _ _=>rfl
 obtain⟨_,D56⟩:=q56.df X G IJ λ_ _ _ _ _ _=>Cg λ_=>rfl
 obtain⟨_,D57⟩:=q57.df X G II λ_ _ _ _ _ _=>Cf λ_ _=>rfl
 obtain⟨_,D58⟩:=q58.df X G La λ_ _ _ _ _ _=>Cg λ_=>rfl
 obtain⟨_,D59⟩:=q59.df X G KR λ_ _ _ _ _ _=>B7 λ_ _ _=>rfl
 obtain⟨_,D60⟩:=q60.df X G KU λ_ _ _ _ _ _=>B7 λ_ _ _=>rfl
 obtain⟨_,D61⟩:=q61.df X G KY λ_ _ _ _ _ _=>B7 λ_ _ _=>rfl
 obtain⟨_,D62⟩:=q62.df X G K0 λ_ _ _ _ _ _=>B7 λ_ _ _=>rfl
 obtain⟨_,D63⟩:=q63.df X G KZ λ_ _ _ _ _ _=>Cf λ_ _=>rfl
 obtain⟨_,D64⟩:=q64.df X G KQ λ_ _ _ _ _ _=>Cg λ_=>rfl
 obtain⟨_,D65⟩:=q65.df X G KW λ_ _ _ _ _ _=>VJ λ_ _ _ _ _=>rfl
 obtain⟨_,D66⟩:=q66.df X G KS λ_ _ _ _ _ _=>Cf λ_ _=>rfl
 refine⟨fnOf "law" "law" (Dr GG) (CB GG) (Ak GG) .none kV67 dc67 pm67 an67 cd67 ct67,λs v=>.of_eq U,λbase _ _=>?_⟩
 have Grl:=eE  D49.F D48 T M (fU (P:=l.prog) (w:=w) (base:=base) D48.F T M)
 have Gin:=fZ  F68 L D50 D52 D51 D53 (dZ  D50.F D49 T Grl) (eQ (P:=l.prog) (w:=w) (base:=base) D52.F T M) (dC (P:=l.prog) (w:=w) (base:=base) D51.F T M) (hR (P:=l.prog) (w:=w) (mg:=mg) (base:=base) D53.F)
 have Gps:=eR (P:=l.prog) (w:=w) (base:=base) F69 L T
 have DD:Dd l.prog w K mg aP:=⟨Ck X G gPl,VU lPl sPl vPl hPl Δ⟩
 have DL:Dl l.prog w K mg aL t1 t2 t3 t4:=⟨Ck X G gLi,VU lLi sLi vLi hLi (by show List.Nodup ([Sum.inr "open",Sum.inr "shut",Sum.inr "lock",Sum.inr "unlock"]:List Key);decide +kernel),λH=>.inr ⟨_,iT1,nT1,lT1,U,U,by
   have h1:=(DB wT1).length
   have h2:iT1.toList.length=iT1.size:=by simp
   have h3:([V.str "shut",V.str "open"]:List V).length=2:=rfl
   have hs:=AB
   lia,DB wT1⟩,λH=>.inr ⟨_,iT2,nT2,lT2,U,U,by
   have h1:=(DB wT2).length
   have h2:iT2.toList.length=iT2.size:=by simp
   have h3:([V.str "open",V.str "shut"]:List V).length=2:=rfl
   have hs:sizeLine=16777216:=AB
   lia,DB wT2⟩,λH=>.inr ⟨_,iT3,nT3,lT3,U,U,by
   have h1:=(DB wT3).length
   have h2:iT3.toList.length=iT3.size:=by simp
   have h3:([V.str "shut",V.str "locked"]:List V).length=2:=rfl
   have hs:=AB
   lia,DB wT3⟩,λH=>.inr ⟨_,iT4,nT4,lT4,U,U,by
   have h1:=(DB wT4).length
   have h2:iT4.toList.length=iT4.size:=by simp
   have h3:([V.str "locked",V.str "shut"]:List V).length=2:=rfl
   have hs:=AB
   lia,DB wT4⟩⟩
 have Ghi:=gB  D1.F L b69 ⟨a69,i69,k69⟩ Gps
 have Gln:=fM  D2.F L b69 ⟨a69,i69,k69⟩ Gps
 have Gif:=fW (P:=l.prog) (w:=w) (mg:=mg) (base:=base) D32.F
 have Gio:=fQ  D33.F ⟨D2,Gln⟩
 have Gch:=hV  D36.F L b69 ⟨a69,i69,k69⟩ Gps
 have Grd:=eH  D28.F T L DD b69 ⟨a69,i69,k69⟩ Gps
 have Gcp:=iB  D34.F ⟨D32,Gif⟩ ⟨D33,Gio⟩
 have Gla:=fO  D35.F ⟨D1,Ghi⟩ ⟨D36,Gch⟩
 have Gmt:=fC  D29.F ⟨D30,dJ  D30.F T D1 D32 D33 D36 Ghi Gif Gio Gch⟩ ⟨D31,eK  D31.F ⟨D34,Gcp⟩ ⟨D35,Gla⟩⟩
 have Gtu:=cY  D27.F DL ⟨D28,Grd⟩ ⟨D29,Gmt⟩
 have Mq:Mc mg:=⟨⟨_,Ck X G gWc⟩,⟨_,Ck X G gSc⟩,⟨_,Ck X G gNc⟩,⟨_,Ck X G gRc⟩⟩
 have LQ:FP K CH:=⟨CCH,nCH_1,nCH_2,nCH_3,nCH_4,nCH_5,nCH_6⟩
 have LT:HR K CT:=⟨⟨pgCT,hdCT,poCT,saCT⟩,nCT_1,nCT_2,nCT_3⟩
 have LE:JV K CE:=⟨⟨pgCE,hdCE,poCE,saCE⟩,nCE_1,nCE_2,nCE_3⟩
 have RF:EF K mg GE NN:=⟨Ck X G aG,Ck X G aE,oG,oE,sE⟩
 have KX:Xz K mg NN XN XW:=by simp only[Co]at hKB;exact⟨Ck X G aXN,Ck X G aXW,iR hKB.1.1,hKB.1.2,hKB.2⟩
 have Gsf:=dU (P:=l.prog) (w:=w) (mg:=mg) (base:=base) F71 L
 have Grk:=eC  D38.F T ⟨D39,fV (P:=l.prog) (w:=w) (mg:=mg) (base:=base) D39.F⟩
 have Glk:=fH  D37.F ⟨D38,Grk⟩ ⟨D40,dS  D40.F L b71 ⟨a71,i71,k71⟩ Gsf⟩
 have Gth2:=dB (P:=l.prog) (w:=w) (base:=base) F70 L T
 have Gsh:=dQ  D9.F L MI b69 ⟨a69,i69,k69⟩ Gps b70 ⟨a70,i70,k70⟩ Gth2
 have Gsp:=dM  D10.F L b69 ⟨a69,i69,k69⟩ Gps b70 ⟨a70,i70,k70⟩ Gth2
 have Gat:=iG  D8.F L T b70 ⟨a70,i70,k70⟩ Gth2 D9 Gsh D10 Gsp
 have Gtm:=dG  D7.F T ⟨D8,Gat⟩
 have Gfa:=gE  D5.F T ⟨D6,eW  D6.F T ⟨D7,Gtm⟩⟩
 have Got:=eX  D13.F T ⟨D1,Ghi⟩ ⟨D14,fL (P:=l.prog) (w:=w) (mg:=mg) (base:=base) D14.F T⟩
 have Gah:=iK  D12.F L T b70 ⟨a70,i70,k70⟩ Gth2 D1 Ghi D2 Gln D13 Got
 have Gph:=eS  D11.F T ⟨D12,Gah⟩
 have Gso:=dX (P:=l.prog) (w:=w) (mg:=mg) (base:=base) D15.F
 have Gcm:=hL (P:=l.prog) (w:=w) (mg:=mg) (base:=base) D17.F Mq
 have Gcq:=hH (P:=l.prog) (w:=w) (mg:=mg) (base:=base) D20.F Mq
 have Gct:=hE (P:=l.prog) (w:=w) (base:=base) D21.F T
 have Gcs:=hF  D18.F T Mq ⟨D19,hJ (P:=l.prog) (w:=w) (mg:=mg) (base:=base) D19.F T Mq⟩ ⟨D20,Gcq⟩
 have Gre:=eF  D23.F T ⟨D21,Gct⟩ ⟨D22,hQ (P:=l.prog) (w:=w) (mg:=mg) (base:=base) D22.F T⟩ ⟨D15,Gso⟩
 have Gic:=fY  F72 LQ T D17 Gcm D18 Gcs D23 Gre D24 (eA  D24.F T ⟨D21,Gct⟩) D25 (eU  D25.F T ⟨D15,Gso⟩) D26 (gV  D26.F T ⟨D15,Gso⟩)
 have Gan:=iL (P:=l.prog) (w:=w) (mg:=mg) (base:=base) D43.F T ⟨_,Ck X G gWc⟩
 have Gdt:=gW  D45.F T ⟨D46,eY (P:=l.prog) (w:=w) (mg:=mg) (base:=base) D46.F T⟩ ⟨D27,Gtu⟩
 have Glt:=fF  D47.F ⟨D37,Glk⟩
 have Gai:=iH  F78 T LT ⟨D41,gZ  D41.F ⟨D28,Grd⟩ ⟨D38,Grk⟩ ⟨D18,Gcs⟩⟩ ⟨D42,fA  D42.F T ⟨D43,Gan⟩ ⟨D27,Gtu⟩⟩ ⟨D44,hU  D44.F T ⟨mkCH,m72.at_,m72.fn,kcCH⟩ (Ck X G aCH) b72 Gic ⟨D45,Gdt⟩ ⟨D47,Glt⟩⟩
 have Gwh:=iE  (CH:=CH) F81 T LT ⟨D3,gA  D3.F T ⟨D5,Gfa⟩ ⟨D11,Gph⟩⟩ ⟨D15,Gso⟩
 have Gar:=iF (P:=l.prog) (w:=w) (mg:=mg) (base:=base) (C:=C) (CH:=CH) F79 LT
 have Gsz:=dN (P:=l.prog) (w:=w) (mg:=mg) (base:=base) F73 LQ
 have Gkn:=fG (P:=l.prog) (w:=w) (mg:=mg) (base:=base) F75 LQ T
 have Gpo:=eN  F77 LQ b76 m76 (gY (P:=l.prog) (w:=w) (mg:=mg) (base:=base) F76 LQ)
 have Gei:=gQ  F83 LQ LE T ⟨D15,Gso⟩ b73 m73 Gsz
 have Gech:=gS (P:=l.prog) (w:=w) (mg:=mg) (base:=base) (C:=CH) F84 LE
 have Gek:=gM (P:=l.prog) (w:=w) (mg:=mg) (base:=base) (C:=CH) F86 LE
 have Geo:=gK  D16.F LT ⟨mkCE,a83,i83,kcCE⟩ (Ck X G aCE) (F83.binds (ps:=["self", "chart", "goal", "keep"]) lTD λ_ _ _ _ _ _=>Ja λ_ _ _ _=>⟨_,U,U⟩) Gei b79 m79 Gar b82 m82 (iI (P:=l.prog) (w:=w) (mg:=mg) (base:=base) (C:=C) (CH:=CH) F82 LT) b81 m81 Gwh ⟨D4,gH  D4.F T ⟨D5,Gfa⟩⟩
 have GptX:=eV  D6.F RF T ⟨D7,dF  D7.F RF T ⟨D8,Gat⟩⟩
 have GfaX:=gD  D5.F RF T ⟨D6,GptX⟩
 have GerX:=gG  D4.F RF T ⟨D5,GfaX⟩
 have Gcl:=iA (P:=l.prog) (w:=w) (base:=base) D54.F T
 have Gdr:=gU  D55.F ⟨D54,Gcl⟩
 have Gwl:=cV  D57.F T ⟨D55,Gdr⟩
 have Ga9:=iJ (P:=l.prog) (w:=w) (mg:=mg) (base:=base) D58.F
 have Gp3:=eM  D60.F T ⟨D55,Gdr⟩ ⟨D59,cZ  D59.F T ⟨D55,Gdr⟩ ⟨D58,Ga9⟩⟩
 have Gb3:=iD  D62.F T ⟨D55,Gdr⟩
 have Gbi:=iC (P:=l.prog) (w:=w) (base:=base) D63.F T
 have Grf:=dY  D66.F T RF KX ⟨D16,gJ  D16.F LT RF b79 m79 Gar ⟨D4,GerX⟩⟩
 have Gie:=fX  D65.F T LQ LE ⟨D64,cW (P:=l.prog) (w:=w) (mg:=mg) (base:=base) D64.F T⟩ b84 m84 Gech b86 m86 Gek b85 m85 (gR (P:=l.prog) (w:=w) (mg:=mg) (base:=base) (C:=CH) F85 LE) b73 m73 Gsz b74 m74 (gX (P:=l.prog) (w:=w) (mg:=mg) (base:=base) F74 LQ T) b75 m75 Gkn b77 m77 Gpo
 exact fN F67 T ⟨mk,a68,i68,kc⟩ (Ck X G aC) b68 Gin ⟨mkCT,m78.at_,m78.fn,kcCT⟩ (Ck X G aCT) b78 Gai D56 (cX  D56.F T ⟨D55,Gdr⟩) D57 Gwl ⟨D54,Gcl⟩ ⟨D61,gC  D61.F T ⟨D55,Gdr⟩ ⟨D60,Gp3⟩⟩ ⟨D63,Gbi⟩ ⟨D55,Gdr⟩ ⟨D65,Gie⟩ ⟨D16,Geo⟩ ⟨D66,Grf⟩ ⟨D62,Gb3⟩
def walk {l:PySem.W.OpenLaw}{q:Program}{loose:List Str}{XP:(Str->Option Value)->Heap->Prop}{YP:World->Heap->Prop}{d:DefRec}{K:Params->W.Frag}(hn:l.most=some 63)(hdf:d.params.defaults=[])
  (hY:∀(w:World) (h:Heap),YP w h->(K w.params).In h)
  (F:∀(w:World) (mg:Str->Option Value) (fa:Addr) (h:Heap),(K w.params).In h->h.Ns mainGlobals mg->mg d.name=some (.ref fa) -> ∃fd:FuncData,(∀(s:Shared) (u:Value),BindsTo s fd ⟨[u],[]⟩ [("_law_script",u)])/\∀base:Heap,(K w.params).In base->base.Ns mainGlobals mg->Aj l.prog w (K w.params) mg base CX0 12 fa fd ["_law_script"] (MV (K w.params))) :
  PySem.W.WalkO q loose XP YP l.row.toRowW d [] (λf vs=>PySem.call f vs):=
 L2.walk_of (x := "_law_script") hn Ξ hdf ⟨U,Ξ,Ξ⟩ hY F (λ_ _ a ns hl _ hS=>⟨a,ns,U,hS,hl,λ_=>U⟩) λ_ _ _ _ _ z=>z
end K52
namespace PySem.W.Fast
def tw13407090421186952248:=0
def tw3157233959337372794:=0
def tw11469890680684847890:=0
def tw6864899118385921376:=0
def tw1401334595109351517:=0
def tw5344903439799457634:=0
def tw7122783566506497427:=0
def tw13971078250803125167:=0
def tw2083142481865904757:=0
def tw10606936865178277170:=0
def tw16773117252327133966:=0
def tw2395700007846424129:=0
def tw6452630234314141717:=0
def tw16105108163745972745:=0
def tw277167686834455119:=0
def tw16696121664586899970:=0
def tw13946854892765529272:=0
def tw4887012129411711766:=0
def tw5669138464165992891:=0
def tw1886618777818159612:=0
def tw6067065054735499324:=0
def tw16625451134135519270:=0
def tw18002990207406817996:=0
def tw14972100797018799805:=0
def tw2885833773739691777:=0
def tw15701087125179372330:=0
def tw857485468407254136:=0
def tw10763615802382598093:=0
def tw3190637992319341084:=0
def tw11651589292554013616:=0
def tw13320510005921451899:=0
def tw13776639781077653528:=0
def tw12157224915241433358:=0
def tw12587697114459859520:=0
def tw13711435034782064584:=0
def tw10097858121686338388:=0
def tw14862254696147905866:=0
def tw8473185912276357563:=0
def tw11570509735175215861:=0
def tw2674689971892110975:=0
def tw17648481085306856685:=0
def tw13677096053621167793:=0
def tw17715353345030707464:=0
def tw12843554632276224237:=0
def tw6321025123636516553:=0
def tw796683789829434240:=0
def tw1888852949972182769:=0
def tw14372894421458851838:=0
def tw12906482819455380627:=0
def tw17088507939541402637:=0
def tw7656257333717337461:=0
def tw6312217029802627791:=0
def tw11021315232356608717:=0
def tw17276078061460431667:=0
def tw18440605938742232340:=0
def tw6529676325085802270:=0
def tw2144593316118807731:=0
def tw6254914968241888882:=0
def tw11892298697535268444:=0
def tw3539719801990163914:=0
def tw2753597490797921305:=0
def tw17295557192994101837:=0
def tw6977852203895096489:=0
def tw8043693841673830386:=0
def tw314809364488860811:=0
def tw2571959614044592429:=0
def tw6998974134436776813:=0
def tw13001453648152314985:=0
def tw3896316424516238251:=0
def tw15479909064619582872:=0
def tw10818285697479408058:=0
def tw14682215131562195935:=0
def tw17134760507242423871:=0
def tw12528713056106107121:=0
def tw2620179039446152670:=0
def tw7648905461295077594:=0
def tw102317402900606648:=0
def tw7332445300688580100:=0
def tw14786875525806230175:=0
def tw7444548214803272578:=0
def tw15998065370751030113:=0
def tw3017250552864752739:=0
def tw13306218700456758205:=0
def tw3290315478359077019:=0
def tw10154343228638800428:=0
def tw17277095222929745799:=0
def tw13410091302249654209:=0
def tw3809305357443383316:=0
def tw5210606207957178867:=0
def tw8523041256216671263:=0
def tw6884386811991449131:=0
def tw11405665430329732075:=0
def tw2676799087175719522:=0
def tw7596102694044157232:=0
def tw17663417499310162229:=0
def tw9374600276493521001:=0
def tw6912137524773478863:=0
def tw6748923761724506164:=0
def tw15524784095056918578:=0
def tw12443674445196578347:=0
def tw13497145819797163808:=0
def tw13215237430765019267:=0
def tw1862229136134159994:=0
def tw7178053988226537246:=0
def tw9896403308985635617:=0
def tw16060085547399355928:=0
def tw16794223001500823089:=0
def tw11784094237676099:=0
def tw8301169863530569836:=0
def tw3199681777957840875:=0
def tw8183185511293752730:=0
def tw954891877744074293:=0
def tw5699011474627558566:=0
def tw3661009138727698543:=0
def tw3028937825254727220:=0
def tw10135551568926801726:=0
def tw14209958158837006478:=0
def tw8164497497177596072:=0
def tw15850992618762362201:=0
def tw10946066764456758202:=0
def tw18290101849264574083:=0
def tw10807580180085052292:=0
def tw5468324550263735205:=0
def tw14394270543561867647:=0
def tw13228470113936882506:=0
def tw13189128446744690010:=0
def tw6124625341445212077:=0
def tw16888299464373835949:=0
def tw15190599776355445624:=0
def tw6038992558226474636:=0
def tw4065424262143625610:=0
def tw9195083903272432533:=0
def tw10750710158398715088:=0
def tw1954954219896652449:=0
def tw11546038055202460016:=0
def tw4549790274531591062:=0
def tw13439091548465414904:=0
def tw4490141622684960581:=0
def tw6321453554915803191:=0
def tw3461431525567508611:=0
def tw412400251651989172:=0
def tw16822703947950802463:=0
def tw13894060615681455285:=0
def tw5735290537926567887:=0
def tw12658639185793693809:=0
def tw9759680615727091578:=0
def tw13388697763460429770:=0
def tw17168136984913934747:=0
def tw5256565666699839663:=0
def tw15865649693898974647:=0
def tw1785817941624891076:=0
def tw6919301680473743034:=0
def tw18042155843511338246:=0
def tw11181179139153292195:=0
def tw8197044348204817114:=0
def tw7458026975891680254:=0
def tw10041201781112227839:=0
def tw4745800735794411508:=0
def tw9551828504666899309:=0
def tw2947799000586814112:=0
def tw3984986239103653962:=0
def tw5242986529338763832:=0
def tw4062282239214214611:=0
def tw12287896115596892806:=0
def tw5203496225675338798:=0
def tw16026251128936152515:=0
def tw15628186330601900905:=0
def tw8110167470371111954:=0
def tw5390075090678555671:=0
def tw8805764678845508279:=0
def tw18074660364835962668:=0
def tw605220927966664606:=0
def tw10177773028491102197:=0
def tw12343992363211626397:=0
def tw1804393321745764566:=0
def tw3234925256538284884:=0
def tw174100759153202891:=0
def tw9268311437050919490:=0
def tw11136775633997497159:=0
def tw16133209657824031292:=0
def tw766814040831941111:=0
def tw6041868174893337695:=0
def tw14116622227874578605:=0
def tw5124333607117535841:=0
def tw4028725659492711485:=0
def tw8377168937962274864:=0
def tw14518349712714969637:=0
def tw759113116375150569:=0
def tw16502412429791603208:=0
def tw18118212278075488143:=0
def tw4957812684571069179:=0
def tw9298128632294977197:=0
def tw1616611365841744002:=0
def tw3862868021989628173:=0
def tw10094395792398005916:=0
def tw3485054706793290854:=0
def tw15159114208233085794:=0
def tw7939929974413450730:=0
def tw2020831843786041756:=0
def tw6347535302471657691:=0
def tw8195736546377510354:=0
def tw8815581686655096272:=0
def tw2281137327813923615:=0
def tw8691057538531204907:=0
def tw9802753533667123981:=0
def tw10466903570065033912:=0
def tw4831377802033894941:=0
def tw2835051425084176324:=0
def tw15315298408631074009:=0
def tw12423105225993664713:=0
def tw9476818673909503937:=0
def tw13608456290606607885:=0
def tw4188501752448606544:=0
def tw1136482762735948838:=0
def tw10607741463707445433:=0
def tw13212843074973566790:=0
def tw1471923711989622520:=0
def tw8155202352201597129:=0
def tw9818179077244862773:=0
def tw15679157578526353480:=0
def tw3900282176493611738:=0
def tw17038936497249951257:=0
def tw17923802871110897064:=0
def tw728624201635513967:=0
def tw6416661734342641881:=0
def tw5582147833646767928:=0
def tw9264052324022876778:=0
def tw1229504899366812349:=0
def tw4603040638777368623:=0
def tw6264447702084425592:=0
def tw15992880170635011451:=0
def tw8276966472938229644:=0
def tw10724416771513014327:=0
def tw8102261463741013306:=0
def tw15677784875152418046:=0
def tw14075328474396886672:=0
def tw9754220468147994145:=0
def tw18134794656872210144:=0
def tw16132136040440828672:=0
def tw565878318525111947:=0
def tw17278792761207359847:=0
def tw5084291236874374821:=0
def tw9623526442515070873:=0
def tw13835727594284191535:=0
def tw9311880371812624002:=0
def tw16296182424853996652:=0
def tw9438677280643153225:=0
def tw12747734162406613612:=0
def tw5495562708848967530:=0
def tw13890496235277219459:=0
def tw7915658522297609403:=0
def tw6572665176528413171:=0
def tw7478820394607116190:=0
def tw17288363507398862370:=0
def tw9398772042358129864:=0
def tw7287943715006213524:=0
def tw17203365988218345422:=0
def tw3551296069962444828:=0
def tw11823044051159993340:=0
def tw15458610087767631427:=0
def tw13847304252340820445:=0
def tw14762003098830542621:=0
def tw11590046279020218538:=0
def tw10626398818614916302:=0
def tw10528339038128633894:=0
def tw14068377050564661413:=0
def tw6358395912228491361:=0
def tw11799771873646698161:=0
def tw3854606976642851297:=0
def tw1094250704499520216:=0
def tw10369197988755842978:=0
def tw8260815523117961509:=0
def tw18209326404863804450:=0
def tw10247470635063305379:=0
def tw1225893209510778091:=0
def tw4586610906386987709:=0
def tw3886198283476273464:=0
def tw267242407451928162:=0
def tw15827866400746367548:=0
def tw1080191869133081931:=0
def tw18333331945794346799:=0
def tw17695191165819409140:=0
def tw16024964820655860236:=0
def tw13862041661590515770:=0
def tw15453325049301352159:=0
def tw10551826295355657613:=0
def tw15210244609214553842:=0
def tw15720965347645607731:=0
def tw10451840349446434421:=0
def tw9897133885693135913:=0
def tw6074728028298285720:=0
def tw4923050846608154971:=0
def tw15468437046560015937:=0
def tw8817142110577886566:=0
def tw7449357514358729639:=0
def tw6088663764997046982:=0
def tw2625782925802967347:=0
def tw16177569310451336484:=0
def tw126629824595940397:=0
def tw1314855512109891583:=0
def tw3962227601519981299:=0
def tw2603218517378873437:=0
def tw4169738153396718233:=0
def tw9835921620709584828:=0
def tw15174370730159882573:=0
def tw14267114580247267611:=0
def tw13926519535473665694:=0
def tw16394683108832953077:=0
def tw4512671412355930474:=0
def tw13326705473696259716:=0
def tw13230540756087191821:=0
def tw1469296907812194974:=0
def tw15160703639292020813:=0
def tw12891992912994060651:=0
def tw9501046087765927857:=0
def tw9397082627761918792:=0
def tw1977123066186730798:=0
def tw18134257109158406269:=0
end PySem.W.Fast
open PySem PySem.W PyProof.Rows
set_option maxRecDepth 100000 in
set_option maxHeartbeats 0 in
theorem PySem.Challenge.cw_grope_k52_errands_of_texts_holds : PySem.Challenge.rw_grope_k52_errands_of_texts.Holds := by
 w_on;o_law;k_head;(case hw=>w_witness2)
 k_fill
 refine K52.walk (l:=PySem.Challenge.rw_grope_k52_errands_of_texts) rfl rfl (λw h Y=>PySem.W.kIn_of Y) ?F
 case F=>
  intro w mg fa h KX G hmg
  apply K52.all_mk KX G hmg
  all_goals (try unfold K52.nA)
  all_goals (try unfold K52.lK)
  all_goals first | k_is | (refine' .mk ?a ?l ?c ?k;case a | l | c | k=>k_is) | (refine' .mk ?a ?i ?l ?c ?k;case a | i | l | c | k=>k_is) | k_exc | rfl | decide +kernel | kernel_rfl | (with_unfolding_all rfl)
