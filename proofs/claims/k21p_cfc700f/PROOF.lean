import PyProof.Rows.All
import Wide.All
import OpenK.AllK
import Wide.FinOn
import Lean
import PyProof.EqAt
import PyProof.EqKinds
import PyProof.TupleCall
import PySem.Challenge.RW_grope_k21_no_atlas
set_option Elab.async false
set_option linter.all false
set_option maxRecDepth 100000
set_option maxHeartbeats 4000000
theorem Δ{p:Prop}(h:p:=by decide +kernel):p:=h
theorem Θ{p:Prop}(h:p:=by simp):p:=h
theorem Ξ{p:Prop}(h:p:=by decide):p:=h
theorem Φ{p:Prop}(h:p:=by rfl):p:=h
theorem Ψ{p:Prop}(h:p:=by lia):p:=h
theorem U{α:Sort u}{a:α}:a=a:=rfl
open Nat (ne_of_lt le_of_lt le_of_eq lt_trans le_of_not_lt lt_of_le_of_lt mod_lt le_succ_of_le)
open List (mem_filter mem_filterMap any_eq_false replicate getElem?_take_of_lt any_cons length_nil pairwise_iff_getElem pairwise_lt_range append_assoc ext_getElem not_lt perm_ext_iff_of_nodup filter_append filter_congr filter_eq_nil_iff map_congr_left length_filter_le)
open Option (isSome_iff_exists map_some isSome_map isSome)
open Bool (not_eq_true')
open Int (one_mul)
noncomputable section
def Ac:=@PySem.wpAny_bind
def Ay:=@List.getElem?_eq_some_iff
def Ai:=@List.length_map
def Aj:=@PySem.wpAny_pure
def An:=@Nat.le_refl
def AJ:=@List.getElem?_eq_getElem
def AV:=@PySem.Heap.get?_push_of_some
def AG:=@List.length_append
def Ak:=@if_neg
def BL:=@List.take_succ_eq_append_getElem
def AU:=@decide_eq_true
def AF:=@PySem.sizeLine_eq
def AY:=@List.mem_cons_of_mem
def AR:=@List.mem_singleton
def Bf:=@of_decide_eq_true
def AQ:=@List.getElem?_map
def Bs:=@PySem.Heap.get?_push_size
def Ar:=@if_pos
def Az:=@List.mem_cons
def A9:=@List.mem_cons_self
def A0:=@PySem.Heap.lt_size
def Bj:=@PySem.boot_len
def Br:=@List.mem_of_getElem?
def AW:=@List.map_append
def BO:=@Bool.false_ne_true
def BG:=@Option.some.inj
def Bh:=@List.length_take
def BR:=@decide_eq_false
def CA:=@List.getD_eq_getElem?_getD
def Bw:=@List.not_mem_nil
def BJ:=@List.size_toArray
def Bg:=@List.map_cons
def Da:=@List.getElem?_append_left
def CQ:=@List.mem_map_of_mem
def Ba:=@List.mem_map
def Bk:=@Nat.ne_of_lt
def BF:=@List.mem_append
def BV:=@Bool.and_eq_true
def Bv:=@or_false
def Ea:=@PySem.F.plainAttrs_list
def CK:=@PySem.PassesOwn.never
def DF:=@Array.length_toList
def Bn:=@Nat.zero_le
def Cr:=@List.nodup_append
def ES:=@Array.getElem?_eq_getElem
def Cd:=@List.take_length
def CJ:=@Nat.lt_of_lt_of_le
def DE:=@PySem.F.called_set
def B6:=@List.nodup_cons
def Cc:=@List.append_nil
def BD:=@List.map_map
def DC:=@PySem.wpAny_call_entry
def BQ:=@congrArg
def Dr:=@Int.toNat_of_nonneg
def Cy:=@List.length_cons
def ER:=@List.getElem?_append_right
def EO:=@List.take_append_drop
def C9:=@Int.toNat_natCast
def DZ:=@PySem.wpAny_newObj_type
def Dj:=@PySem.wpAny_holding
def CI:=@List.getElem_mem
def Eo:=@List.take_of_length_le
def Di:=@List.append_assoc
def JT:=@PyProof.Rows.F.plain_set_update_loop
def F1:=@PySem.F.slot_list_append
def C0:=@Sum.inr.inj
def En:=@List.mem_append_right
def F0:=@PySem.wpAny_callSpecial?_slot
def CP:=@PySem.W.mg_none_of
def GY:=@PySem.F.type_list_append
def CZ:=@PySem.wpAny_mono
def Dq:=@List.length_drop
def FZ:=@PySem.F.slot_str_split
def EM:=@PySem.codeAny_builtin
def FY:=@PySem.Around.under_plainId
def EL:=@List.getElem?_of_mem
def DB:=@List.all_eq_true
def FX:=@PySem.Heap.SameBut.update
def FW:=@PySem.wpAny_setField_rec
def Fz:=@List.length_replicate
def Em:=@List.length_range
def Ia:=@PySem.F.plainAttrs_str
def Do:=@List.mem_range
def FV:=@PySem.wpAny_truthy_bool
def GV:=@beq_eq_false_iff_ne
def On:=@PyProof.Rows.F.entry_set_update_loop
def GU:=@List.Sublist.nodup
def E8:=@Bool.false_eq_true
def Cb:=@PySem.W.mg_of
def LY:=@PySem.F.slot_dict_keyiterator_next
def FU:=@List.length_set
def JS:=@List.getElem?_set_self
def JR:=@PySem.F.type_str_split
def DY:=@Nat.lt_irrefl
def HZ:=@List.mem_replicate
def JQ:=@List.Perm.append_left
def JP:=@Array.getElem?_toList
def LX:=@List.getElem?_zip_eq_some
def LW:=@List.getElem?_eq_none_iff
def GS:=@List.cons.injEq
def Hc:=@List.mem_append_left
def Ki:=@List.getElem?_set_ne
def Im:=@List.flatten_cons
def O5:=@PySem.wpAny_typeNameOfWhole_keyiter
def Ml:=@PySem.F.plainAttrs_dict
def G9:=@PySem.Heap.size_push
def Il:=@List.cons_append
def Ik:=@List.cons_ne_nil
def O4:=@PyProof.Rows.slot_tuple_getitem
def Mj:=@PySem.Calls.callWith_builtin
def O3:=@PyProof.Rows.callWith_type1
def F5:=@PySem.codeAny_mono
def F4:=@List.take_sublist
def Ij:=@PySem.wpAny_specialOf
def Ii:=@PySem.wpAny_passesOwn
def Mi:=@PySem.F.slot_dict_get
def Mh:=@PySem.Heap.get?_update_self
def Ih:=@List.mem_of_mem_take
def Es:=@if_false
def G8:=@PySem.Paired.length
def Er:=@Nat.le_trans
def O2:=@PySem.F.slot_tuple_iterator_next
def G7:=@PySem.plainId_quiet
def G6:=@Nat.lt_succ_of_lt
def Ep:=@List.map_take
def Kh:=@decide_eq_true_eq
def Kg:=@PySem.PassesOwn.leaving
def FC:=@beq_iff_eq
def O1:=@List.getLast?_eq_none_iff
def F3:=@List.getElem_inj
def Eb:=@List.map_nil
def G5:=@Nat.lt_succ_self
def Kf:=@beq_self_eq_true
def Ke:=@Array.toList_inj
def O0:=@PySem.AutoSeq1.wpAny_loadPart'
def OZ:=@PySem.wpAny_typeNameOf_keyiter
def Mg:=@PySem.mem_of_lookup
def OY:=@PySem.F.slot_list_index
def OX:=@PySem.F.slot_dict_items
def Kd:=@Bool.eq_iff_iff
def Mf:=@PySem.wpAny_Call_Name_kw
def F2:=@List.find?_cons
def Fc:=@Nat.ne_of_gt
def G4:=@List.lookup_cons
def OW:=@Array.getElem?_eq_none
def Me:=@PySem.wpAny_pyIter_list
def Mb:=@PySem.wpAny_setState_of
def Kc:=@PySem.wpAny_seqItems
def Kb:=@List.filterMap_cons
def ET:=@Ne.symm
def Ig:=@PySem.call_meetsIn
def SS:=@PySem.SeqAt.compareEq_shaped
def OV:=@PySem.builtinLookup_eq_fast
def Ka:=@Int.emod_lt_of_pos
def Ie:=@Int.zero_add
def Xu:=@PySem.wpAny_callSpecialIfBoundUnlessNone?_slot
def G3:=@PySem.wpAny_rule
def OU:=@PySem.F.slot_NoneType_hash
def G2:=@True.intro
def OT:=@PySem.Calls.evalArgs_plain
def G1:=@PySem.call_meets
def Ma:=@List.perm_middle
def OS:=@PySem.codeAny_call_builtin
def FB:=@Nat.lt_or_ge
def L9:=@PySem.wpAny_askSetting
def G0:=@List.range_succ
def OR:=@List.mem_of_mem_drop
def L8:=@Nat.succ_le_succ
def SR:=@Array.getElem?_eq_some_iff
def J9:=@PySem.wpAny_attempt
def SQ:=@List.perm_append_singleton
def Fb:=@Nat.le_succ
def Ic:=@PySem.wpAny_field
def OQ:=@List.replicate_succ
def L7:=@Option.map_eq_some_iff
def L6:=@Nat.min_eq_left
def SO:=@PySem.Calls.call_function_entry
def OP:=@PySem.Calls.spliced_cons
def OO:=@List.getElem?_replicate
def SN:=@PySem.F.args_tuple_add_2
def J8:=@PySem.wpAny_typeOf
def ON:=@PySem.Obj.data_mapFields
def SM:=@PySem.SeqAt.canLay_of_shaped
def SL:=@PySem.F.slot_list_getattribute
def J7:=@Nat.succ.inj
def SJ:=@List.Pairwise.imp_of_mem
def GZ:=@List.take_zero
def FA:=@if_true
def L5:=@List.drop_zero
def L4:=@List.Perm.refl
def Xt:=@PySem.F.slot_dict_itemiterator_iter
def SH:=@PySem.F.entry_tuple_add
def SF:=@PySem.F.type_list_index
def OM:=@PySem.F.slot_tuple_hash
def OL:=@PySem.wpAny_pyIter_slot
def OK:=@PySem.wpAny_dictEntries
def OJ:=@List.Sublist.refl
def SE:=@PySem.F.slot_tuple_add
def SD:=@PySem.Heap.get?_update_other
def SA:=@PySem.F.entry_dict_get
def E9:=@Or.inr
def J1:=@List.any_eq_true
def Sy:=@PySem.F.slot_list_insert
def J0:=@PySem.wpAny_of_eq
def Sx:=@PySem.F.excBase_ValueError
def JZ:=@Int.emod_nonneg
def Sw:=@List.Perm.append_right
def OI:=@PySem.wpAny_isInstance
def OH:=@List.length_singleton
def OG:=@PySem.wpAny_typeOf_ref
def OF:=@List.mem_flatMap
def Sv:=@List.perm_append_comm
def OE:=@PySem.wpAny_execs_nil
def JY:=@PySem.wpAny_call
def JX:=@List.foldl_cons
def OD:=@List.nil_append
def OC:=@PySem.typeLookup_type
def Su:=@List.Pairwise.of_map
def Xs:=@List.Nodup.length_le_of_subset
def OB:=@List.length_zip
def Ss:=@PySem.W.plainGet_of
def Sr:=@PySem.wpAny_isSubtype_exc
def Sq:=@PySem.wpAny_setEntries_of
def So:=@List.length_pos_iff
def Ib:=@Nat.le_of_lt
def OA:=@PySem.wpAny_setField
def Oz:=@List.Perm.cons
def Oy:=@PyProof.Rows.joinParts_cons
def Ox:=@PySem.wpAny_fieldsOf
def Xr:=@PySem.SeqAt.compareNe_shaped
def Sn:=@PySem.W.callWith_K
def JW:=@LawfulBEq.eq_of_beq
def JV:=@List.nodup_nil
def Sl:=@PySem.F.args_str_split_2
def Sj:=@PySem.Code.quiet_builtin
def Si:=@List.contains_cons
def Sh:=@List.getElem?_drop
def Sg:=@List.length_eq_zero_iff
def Sf:=@PySem.wpAny_pyIter_tuple
def Xq:=@List.idxOf_lt_length_of_mem
def Ow:=@Nat.add_assoc
def Ov:=@PySem.W.hideAll_get
def Ou:=@List.all_cons
def Xp:=@PySem.F.sub_list_frozenset
def Xo:=@List.length_eraseIdx_of_lt
def Xn:=@PySem.F.excAttr_ValueError
def Ot:=@List.map_drop
def Xm:=@List.exists_cons_of_ne_nil
def Se:=@PySem.Calls.spliced_nil
def Sd:=@PySem.F.entry_str_split
def Sb:=@Array.size_append
def Sa:=@bne_self_eq_false
def R9:=@List.ext_getElem?
def L0:=@List.of_mem_zip
def LZ:=@PySem.typeIs_str
def Xl:=@PySem.F.slot_dict_getitem
def Xj:=@List.getLast?_eq_some_iff
def Xi:=@PySem.F.args_dict_items_1
def Xh:=@List.mem_of_find?_eq_some
def Xg:=@List.exists_mem_of_ne_nil
def JU:=@Nat.lt_trans
def R8:=@List.getElem?_eq_none
def R7:=@List.getElem?_toArray
def Os:=@Nat.zero_add
def R4:=@List.nodup_range
def Oq:=@List.pairwise_map
def Oo:=@Nat.sub_zero
def R0:=@Bool.or_eq_true
def RZ:=@Bool.decide_and
def RY:=@Nat.not_lt_zero
namespace WK
open PySem PyProof.Rows
section
variable {prog:Program}{w:World}{A:Around}{E:Value->Shared->Prop}{s:Shared}
def PH (prog:Program)(w:World)(room:Nat)(h:Heap)(v:Value)(i:Int)(n:Nat):Prop:=∀(A:Around) (E:Value->Shared->Prop) (s:Shared) (Q:Int->Shared->Prop),A.units+room<cLine->s.heap=h->Q i { s with toks:=s.toks+n }->wpAny (model prog w) A (pyHash v) Q E s
inductive Km (prog:Program)(w:World)(room:Nat)(h:Heap):List Value->List Int->Nat->Prop
 | nil:Km prog w room h [] [] 0
 | cons {v:Value}{i:Int}{n:Nat}{vs:List Value}{is:List Int}{m:Nat}:PH prog w room h v i n->Km prog w room h vs is m->Km prog w room h (v::vs) (i::is) (n+m)
def oM (v:A.units+(room+4)<cLine)(p:s.heap.get? a=some o)(u:o.cls=.type "tuple")(q:o.data=.seq items n)(r:Km prog w room s.heap items.toList is m)
  (h:Q (reduceHash (Builtin.Tuple.tupleHashOf is)) { s with toks:=s.toks+(m+1) }):wpAny (model prog w) A (pyHash (.ref a)) Q E s:=by
 have g:s.TypeIs (.ref a) "tuple" := ⟨o,p,u⟩
 unfold pyHash
 first | unfold pyHashByItsType | skip
 first | refine Ac (wpAny_cRoomFor_or (.inr Ψ) ?_) | skip
 refine Ac (Ij g OM.lookup ?_)
 show wpAny _ _ (if (some (Value.builtin "tuple.__hash__") == some Value.none)=true then _ else _) Q E s
 rw[Ak (by rw[beq_builtin_none];exact BO)]
 refine Ac (Ij g OM.lookup ?_)
 show wpAny _ _ (callSpecialIfBoundUnlessNone? (.ref a) "__hash__" _ >>= _) Q E s
 refine Ac (Xu g OM (DC OM g F.entry_tuple_hash ?_ (F.args_tuple_hash_1 _)))
 show wpAny _ _ (Builtin.Tuple.tupleItemsOf (.ref a) >>= _) _ _ s
 refine Ac (wpAny_tupleItemsOf p q ?_)
 refine Ac ?_
 rw[<- Array.forIn_toList]
 refine wpAny_forIn_list _
  (λd (b:Array Int) s'=>∃(c left:List Int) (k l:Nat),is=c++left/\Km prog w room s.heap d left l/\b.toList=c/\m=k+l/\s'={ s with toks:=s.toks+k })
  _ ?_ ?_ _ _ ⟨[],is,0,m,U,r,U,Ψ,U⟩
 ·rintro x d b s' ⟨c,left,k,l,rfl,j,e,rfl,rfl⟩;cases j with
  | @cons _ i n' _ is' m' h1 hl'=>
   refine Ac (h1 _ _ _ _ ?_ U ?_)
   ·show A.units+1+room<cLine;lia
   first
    | exact Aj ⟨c++[i],is',k+n',m',Θ,hl',by simp[e],Ψ,by simp[Ow]⟩
    | exact Ac (Aj (Aj ⟨c++[i],is',k+n',m',Θ,hl',by simp[e],Ψ,by simp[Ow]⟩))
 rintro b s' ⟨c,left,k,l,rfl,j,e,rfl,rfl⟩
 cases j
 rw[Cc]at h
 show wpAny _ _ (retInt (Builtin.Tuple.tupleHashOf b.toList)) _ _ _
 rw[e]
 refine wpAny_ret_mkInt ?_
 show wpAny _ _ (if (decide (-(2:Int)^63<=Builtin.Tuple.tupleHashOf c) && decide (Builtin.Tuple.tupleHashOf c<2^63))=true then _ else _) Q E _
 unfold reduceHash at h
 by_cases f:(decide (-(2:Int)^63<=Builtin.Tuple.tupleHashOf c) && decide (Builtin.Tuple.tupleHashOf c<2^63))=true
 ·rw[Ar f];rw[Ar f]at h;exact Aj (by simpa [Ow] using h)
 rw[Ak f]
 rw[Ak f]at h
 exact Ac (G3 (Aj (by simpa [Ow] using h)))
def oO {t:Tok} :PH prog w room h (.str x t) (hashStr w x) 1:=λA E s Q _ _ q=>wpAny_pyHash_str q
def oP :PH prog w room h .none 0xFCA86420 1:=λA E s Q _ _ q=>by
 have a:s.TypeIs .none "NoneType" := rfl;unfold pyHash;first | unfold pyHashByItsType | skip
 have b:[Value.none].any Value.onHeap=false:=rfl;refine Ac ?_;rw[cRoomFor,Ak (by rw[b];exact BO)];refine Aj ?_;refine Ac (Ij a OU.lookup ?_);show wpAny _ _ (if (some (Value.builtin "NoneType.__hash__") == some Value.none)=true then _ else _) Q E s;rw[Ak (by rw[beq_builtin_none];exact BO)];refine Ac (Ij a OU.lookup ?_);show wpAny _ _ (callSpecialIfBoundUnlessNone? .none "__hash__" _ >>= _) Q E s;refine Ac (Xu a OU (DC OU a F.entry_NoneType_hash (show wpAny _ _ (retInt 0xFCA86420) _ _ s from ?_) (F.args_NoneType_hash_1 _)));refine wpAny_ret_mkInt ?_;show wpAny _ _ (if (decide (-(2:Int)^63<=0xFCA86420) && decide ((0xFCA86420:Int)<2^63))=true then _ else _) Q E _;rw[Ar Ξ];exact Aj q
def PH.mono (x:PH prog w r h v i n)(l:r<=r'):PH prog w r' h v i n:=λA E s Q a=>x A E s Q Ψ
mutual
/-- None,a text,a tuple of such -/
def okT:PyData->Bool
 | .none=>true
 | .str _=>true
 | .tuple l=>okTs l
 | _=>false
def okTs:List PyData->Bool
 | []=>true
 | d::r=>okT d && okTs r
end
mutual
def hD (w:World):PyData->Int
 | .none=>0xFCA86420
 | .str x=>hashStr w x
 | .tuple l=>reduceHash (Builtin.Tuple.tupleHashOf (Rh w l))
 | _=>0
def Rh (w:World):List PyData->List Int
 | []=>[]
 | d::r=>hD w d::Rh w r
end
mutual
def Rx:PyData->Nat
 | .tuple l=>Rw l+1
 | _=>1
def Rw:List PyData->Nat
 | []=>0
 | d::r=>Rx d+Rw r
end
mutual
def dpD:PyData->Nat
 | .tuple l=>dpDs l+4
 | _=>0
def dpDs:List PyData->Nat
 | []=>0
 | d::r=>max (dpD d) (dpDs r)
end
mutual
theorem UY :∀(d:PyData) (v:Value) (b:List Addr),okT d=true->Reads h v d b->PH prog w (dpD d) h v (hD w d) (Rx d)
 | .none,_,_,_,r=>by cases r;exact oP
 | .str x,_,_,_,r=>by cases r;exact oO
 | .tuple l,_,_,ok,r=>by
  cases r with
  | tuple h1 h2 h3 h4=>intro A E s Q c a q;exact oM c (a▸h1) h2 h3 (a▸UX l _ _ ok h4 (dpDs l) (An _)) q
 | .bool _,_,_,ok,_=>nomatch ok
 | .int _,_,_,ok,_=>nomatch ok
 | .list _,_,_,ok,_=>nomatch ok
 | .dict _,_,_,ok,_=>nomatch ok
theorem UX :∀(l:List PyData) (vs:List Value) (b:List Addr),okTs l=true->ReadsAll h vs l b->∀r,dpDs l<=r->Km prog w r h vs (Rh w l) (Rw l)
 | [],_,_,_,r,_,_=>by cases r;exact .nil
 | d::l,_,_,ok,r,n,hn=>by
  cases r with
  | cons h1 h2=>
   have a:okT d=true/\okTs l=true:=by simpa [okTs] using ok
   have c:max (dpD d) (dpDs l)<=n:=hn;exact .cons ((UY d _ _ a.1 h1).mono Ψ) (UX l _ _ a.2 h2 n Ψ)
end
mutual
theorem Uy (f:h.get? b=some o)(e:o.data=.dict es ep)(g:Heap.SameBut b h h'):∀(d:PyData) (v:Value) (c:List Addr),okT d=true->Reads h v d c->Reads h' v d c
 | .none,_,_,_,r=>by cases r;exact .none
 | .str x,_,_,_,r=>by cases r;exact .str _ _
 | .tuple l,_,_,ok,r=>by
  cases r with
  | @tuple a o' vs n xs c h1 h2 h3 h4=>
   have i:a≠b:=λz=>by rw[z,f]at h1;cases h1;rw[e]at h3;cases h3
   exact .tuple ((g.2 a i).trans h1) h2 h3 (Ux f e g l _ _ ok h4)
 | .bool _,_,_,ok,_=>nomatch ok
 | .int _,_,_,ok,_=>nomatch ok
 | .list _,_,_,ok,_=>nomatch ok
 | .dict _,_,_,ok,_=>nomatch ok
theorem Ux (e:h.get? b=some o)(c:o.data=.dict es ep)(g:Heap.SameBut b h h'):∀(l:List PyData) (vs:List Value) (f:List Addr),okTs l=true->ReadsAll h vs l f->ReadsAll h' vs l f
 | [],_,_,_,r=>by cases r;exact .nil
 | d::l,_,_,ok,r=>by
  cases r with
  | cons h1 h2=>
   have a:okT d=true/\okTs l=true:=by simpa [okTs] using ok
   exact .cons (Uy e c g d _ _ a.1 h1) (Ux e c g l _ _ a.2 h2)
end
mutual
theorem V8:∀(x y:PyData),okT x=true->okT y=true->(PyData.eqv x y=true↔x=y)
 | .none,y,_,oy=>by cases y <;> simp[PyData.eqv,okT]at oy ⊢
 | .str a,y,_,oy=>by cases y <;> simp[PyData.eqv,okT]at oy ⊢
 | .tuple l,y,ox,oy=>by
  cases y with
  | tuple m=>have:=V7 l m ox oy;simp[PyData.eqv,this,PyData.tuple.injEq]
  | _=>simp[PyData.eqv,okT]at oy ⊢
 | .bool _,_,ok,_=>nomatch ok
 | .int _,_,ok,_=>nomatch ok
 | .list _,_,ok,_=>nomatch ok
 | .dict _,_,ok,_=>nomatch ok
theorem V7:∀(l m:List PyData),okTs l=true->okTs m=true->(PyData.eqvAll l m=true↔l=m)
 | [],m,_,_=>by cases m <;> simp[PyData.eqvAll]
 | x::l,m,ol,om=>by
  cases m with
  | nil=>simp[PyData.eqvAll]
  | cons y m=>
   have a:okT x=true/\okTs l=true:=by simpa [okTs] using ol
   have b:okT y=true/\okTs m=true:=by simpa [okTs] using om
   simp[PyData.eqvAll,BV,V8 x y a.1 b.1,V7 l m a.2 b.2,GS]
end
mutual
theorem UM :∀(d:PyData) (v:Value) (i:List Addr) (n:Nat),okT d=true->dpD d<4*n->Reads h v d i->∀{A:Around}{E:Value->Shared->Prop}{s:Shared}{Q:Bool->Shared->Prop},s.heap=h->Q true s->wpAny (model prog w) A (eqIsQuiet n v) Q E s
 | .none,_,_,n,_,_,r,A,E,s,Q,_,q=>by cases r;rw[eqIsQuiet_byValue n rfl];exact Aj q
 | .str x,_,_,n,_,_,r,A,E,s,Q,_,q=>by cases r;rw[eqIsQuiet_byValue n rfl];exact Aj q
 | .tuple l,_,_,n,ok,hn,r,A,E,s,Q,hs,q=>by
  cases r with
  | @tuple a o' vs n' xs i h1 h2 h3 h4=>
   cases n with
   | zero=>exact absurd hn Ψ
   | succ n=>
    have m:dpDs l+4<4*(n+1):=hn;have e:s.heap.get? a=some o':=by rw[hs];exact h1
    have j:s.TypeIs (.ref a) "tuple" := ⟨o',e,h2⟩;have p:=UL (h:=h) l vs.toList _ n ok Ψ h4;unfold eqIsQuiet;refine Ac (Ij j F.slot_tuple_eq.lookup ?_);show wpAny _ _ (isInstance (.ref a) (.type "tuple") >>= _) _ _ s;refine Ac (OI j isSubtype_tuple_tuple ?_);simp only[Bool.not_true,E8,Es];refine Ac (Kc e h3 ?_);refine Ac ?_;show wpAny _ _ (forIn vs _ _) _ _ s;rw[<- Array.forIn_toList];refine wpAny_forIn_list _ (λc r s'=>r.1=none/\s'=s/\∀v∈c,v∈vs.toList) _ ?_ ?_ _ _ ⟨U,U,λv o=>o⟩
    ·rintro v c r s' ⟨f,rfl,b⟩;refine Ac (p v (b v A9) hs ?_);simp only[Bool.not_true,E8,Es];exact Aj ⟨U,U,λu g=>b u (AY _ g)⟩
    rintro⟨z,y⟩ s' ⟨f,rfl,_⟩;simp only at f;subst f;exact Aj q
 | .bool _,_,_,_,ok,_,_,_,_,_,_,_,_=>nomatch ok
 | .int _,_,_,_,ok,_,_,_,_,_,_,_,_=>nomatch ok
 | .list _,_,_,_,ok,_,_,_,_,_,_,_,_=>nomatch ok
 | .dict _,_,_,_,ok,_,_,_,_,_,_,_,_=>nomatch ok
theorem UL :∀(l:List PyData) (vs:List Value) (c:List Addr) (n:Nat),okTs l=true->dpDs l<4*n->ReadsAll h vs l c->∀v∈vs,∀{A:Around}{E:Value->Shared->Prop}{s:Shared}{Q:Bool->Shared->Prop},s.heap=h->Q true s->wpAny (model prog w) A (eqIsQuiet n v) Q E s
 | [],_,_,_,_,_,r,v,b=>by cases r;cases b
 | d::l,_,_,n,ok,hn,r,v,b=>by
  cases r with
  | cons h1 h2=>
   have a:okT d=true/\okTs l=true:=by simpa [okTs] using ok
   have e:max (dpD d) (dpDs l)<4*n:=hn;rcases(Az.mp b)with rfl | b
   ·exact UM d _ _ n a.1 Ψ h1
   exact UL l _ _ n a.2 Ψ h2 v b
end
instance dD:DecidableEq PyData:=λa b=>Classical.propDecidable (a=b)
def nE (h:Heap)(k:PyData)(a:Addr):Prop:=okT k=true/\k.canLay0=true/\dpD k<=12/\k.depth<=8/\∃as,Reads h (.ref a) k as
def dataKind (prog:Program)(w:World):HeapKind prog w PyData where
 is:=nE
 hash:=hD w
 draws:=Rx
 room:=λA=>A.units+16<cLine
 inj:=λhx hy=>by obtain⟨_,c,_,_,_,r⟩:=hx;obtain⟨_,_,_,_,_,r'⟩:=hy;exact SeqAt.Reads.unique _ _ _ _ _ c r r'
 keeps:=λx ho hd hs=>by obtain⟨h1,h2,h3,h4,as,r⟩:=x;exact⟨h1,h2,h3,h4,as,Uy ho hd hs _ _ _ h1 r⟩
 pyHash:=λhu hk h=>by obtain⟨h1,h2,h3,h4,as,r⟩:=hk;exact UY _ _ _ h1 r _ _ _ _ Ψ U h
 eqBool:=@λA E s x y a b Q hu hx hy h=>by
  obtain⟨h1,h2,h3,h4,as,r⟩:=hx;obtain⟨k1,k2,k3,k4,bs,r'⟩:=hy;refine SeqAt.eqBoolOverData _ _ _ _ _ _ _ _ _ _ _ _ r r' h2 k2 Ψ ?_;have e:PyData.eqv x y=decide (x=y):=by rw[Kd,Kh];exact V8 x y h1 k1
  rw[e];exact h
 quiet:=λhk h=>by obtain⟨h1,h2,h3,h4,as,r⟩:=hk;exact UM _ _ _ 8 h1 Ψ r U h
def room_in1 (a:A.units+20<cLine):(dataKind prog w).room A.in1:=by show A.units+1+16<cLine;lia
end
end WK
namespace L2
open PySem PySem.Spec PyProof.Rows
abbrev Key:=Sum Int Str
def Ei:Key->Value->Bool
 | .inl k,v=>Value.isInt k v
 | .inr x,v=>Value.isStrOf x v
def LF (w:World):Key->Int
 | .inl k=>hashInt k
 | .inr x=>hashStr w x
theorem DK:∀{k:Key}{v:Value},Ei k v=true->(∃i t,k=Sum.inl i/\v=Value.int i t)\/(∃x t,k=Sum.inr x/\v=Value.str x t)
 | .inl i,v,h=>by obtain⟨t,e⟩:=Value.isInt_shape h;exact .inl ⟨i,t,U,e⟩
 | .inr x,v,h=>by obtain⟨t,e⟩:=Value.isStrOf_shape h;exact .inr ⟨x,t,U,e⟩
def Vz (i:Int)(t:Tok):Ei (.inl i) (.int i t)=true:=by simp[Ei,Value.isInt]
def Vy (x:Str)(t:Tok):Ei (.inr x) (.str x t)=true:=by simp[Ei,Value.isStrOf]
def mS (a b:Int):decide ((Sum.inl a:Key)=Sum.inl b)=(a == b):=by
 by_cases e:a=b
 ·subst e;simp
 rw[BR (λq=>e (Sum.inl.inj q))];exact(GV.mpr e).symm
def mO (a b:Str):decide ((Sum.inr a:Key)=Sum.inr b)=decide (a=b):=by
 by_cases e:a=b
 ·subst e;simp
 rw[BR (λq=>e (C0 q)),BR e]
def mQ (a:Int)(b:Str):decide ((Sum.inl a:Key)=Sum.inr b)=false:=BR (λq=>nomatch q)
def mP (a:Str)(b:Int):decide ((Sum.inr a:Key)=Sum.inl b)=false:=BR (λq=>nomatch q)
def BE (prog:Program)(w:World):PySem.KeyKind prog w Key where
 is:=Ei
 hash:=LF w
 inj:=λv a b ha hb=>by
  rcases DK ha with⟨i,t,rfl,rfl⟩ | ⟨x,t,rfl,rfl⟩
  ·rcases DK hb with⟨j,u,rfl,e⟩ | ⟨y,u,rfl,e⟩
   ·injection e with e1 _;rw[e1]
   exact nomatch e
  rcases DK hb with⟨j,u,rfl,e⟩ | ⟨y,u,rfl,e⟩
  ·exact nomatch e
  injection e with e1 _;rw[e1]
 byValue:=λk v h=>by rcases DK h with⟨i,t,rfl,rfl⟩ | ⟨x,t,rfl,rfl⟩ <;> rfl
 pyHash:=λhv h=>by
  rcases DK hv with⟨i,t,rfl,rfl⟩ | ⟨x,t,rfl,rfl⟩
  ·exact wpAny_pyHash_int h
  exact wpAny_pyHash_str h
 eqBool:=λhu hv h=>by
  rcases DK hu with⟨i,t,rfl,rfl⟩ | ⟨x,t,rfl,rfl⟩
  ·rcases DK hv with⟨j,u,rfl,rfl⟩ | ⟨y,u,rfl,rfl⟩
   ·rw[mS]at h;exact wpAny_eqBool_int h
   rw[mQ]at h;exact SeqAt.EqAt.int_str i t y u _ _ _ _ h
  rcases DK hv with⟨j,u,rfl,rfl⟩ | ⟨y,u,rfl,rfl⟩
  ·rw[mP]at h;exact SeqAt.EqAt.str_int x t j u _ _ _ _ h
  rw[mO]at h;exact wpAny_eqBool_str h
 «strs»:=λk x t v h=>by
  rcases DK h with⟨i,u,rfl,e⟩ | ⟨y,u,rfl,e⟩
  ·exact nomatch e
  injection e with e1 _;subst e1;cases v <;> rfl
def lA (prog:Program)(w:World)(i:Int)(t:Tok):(BE prog w).is (.inl i) (.int i t)=true:=Vz i t
def kZ (prog:Program)(w:World)(x:Str)(t:Tok):(BE prog w).is (.inr x) (.str x t)=true:=Vy x t
inductive V where
 | non | bl (b:Bool) | int (i:Int) | str (x:Str) | byt (b:Array UInt8) | flt (b:UInt64) | ref (a:Addr) | ty (n:String)
 deriving DecidableEq
def RelV:V->Value->Prop
 | .non,u=>u=Value.none
 | .bl b,u=>u=Value.bool b
 | .int i,u=>∃t,u=Value.int i t
 | .str x,u=>∃t,u=Value.str x t
 | .byt b,u=>∃t,u=Value.bytes b t
 | .flt b,u=>∃t,u=Value.float b t
 | .ref a,u=>u=Value.ref a
 | .ty n,u=>u=Value.type n
abbrev Vals:List V->List Value->Prop:=Paired RelV
def Vals.length (r:Vals xs us):xs.length=us.length:=G8 r
theorem Vals.get:∀{xs:List V}{us:List Value}{i:Nat}{x:V},Vals xs us->xs[i]? = some x->∃u,us[i]? = some u/\RelV x u
 | _,_,_,_,.nil,e=>by simp at e
 | _,_,0,_,.cons r _,e=>by simp at e;subst e;exact⟨_,U,r⟩
 | _,_,i+1,x,.cons _ t,e=>by obtain⟨u,a,b⟩:=Vals.get t (by simpa using e);exact⟨u,by simpa using a,b⟩
def Vals.append:∀{xs ys:List V}{us ws:List Value},Vals xs us->Vals ys ws->Vals (xs++ys) (us++ws):=by
 intro x y u w h s;induction h with
 | nil=>exact s
 | cons r t i=>exact .cons r i
theorem Vals.take:∀{xs:List V}{us:List Value}(n:Nat),Vals xs us->Vals (xs.take n) (us.take n)
 | _,_,0,_=>.nil
 | _,_,_+1,.nil=>.nil
 | _,_,n+1,.cons r t=>.cons r (Vals.take n t)
theorem Vals.drop:∀{xs:List V}{us:List Value}(n:Nat),Vals xs us->Vals (xs.drop n) (us.drop n)
 | _,_,0,r=>r
 | _,_,_+1,.nil=>.nil
 | _,_,n+1,.cons _ t=>Vals.drop n t
def RelO:Option V->Option Value->Prop
 | some v,some u=>RelV v u
 | none,none=>True
 | _,_=>False
def KV {κ:Type}:List (κ×V)->List (κ×Value)->Prop:=Paired λ(p:κ×V) (q:κ×Value)=>p.1=q.1/\RelV p.2 q.2
def kV:Key->V
 | .inl i=>.int i
 | .inr x=>.str x
inductive HO where
 /-- a list -/
 | lst (xs:List V)
 /-- a tuple (never changes) -/
 | tup (xs:List V)
 /-- a dict whose keys are ints and texts;one whose keys are tuples of ints and texts (the empty one is both) -/
 | dK (kvs:List (Key×V)) | dT (kvs:List (PyData×V))
 /-- a set of ints: its members,its size -/
 | set (S:Int->Bool) (n:Nat)
 /-- an instance of the class at C,its dict at dx,its attributes -/
 | ins (C dx:Addr) (fs:List (Str×V))
 /-- the dict of the instance at x -/
 | own (x:Addr)
 /-- the dict of an exception -/
 | xd (fs:List (Str×V))
 /-- a bound method,f of x -/
 | met (f x:Addr)
 /-- a range object lo,lo+1,.. below hi -/
 | rng (lo hi:Int)
 /-- a thing that is known to the object (the script;a dict while a loop Ta it): read,never written while it is so -/
 | frz (o:Obj) (u:HO)
 /-- a code object's table -/
 | tbl (ps:Array Value)
 /-- any other thing,by what is true of its one object (a def of one's own: SetO a S n:=HO.ext λh=>..) -/
 | ext (φ:Heap->Prop)
abbrev Hp:=Addr->Option HO
def Y (H:Hp)(a:Addr)(o:HO):Hp:=λb=>if b=a then some o else H b
def Ag :Y H a o a=some o:=by unfold Y;rw[Ar rfl]
def Af (h:b≠a):Y H a o b=H b:=by unfold Y;rw[Ak h]
def X5 :Y (Y H a o) a u=Y H a u:=by funext b;unfold Y;split <;> rfl
def A8 {H:Hp}{a b:Addr}{o u:HO}(h:H a=some o)(h':H b=some u)(d:o≠u):a≠b:=by intro e;subst e;rw[h]at h';exact d (BG h')
def Au {H:Hp}{a b:Addr}{o:HO}(h:H a=some o)(h':H b=none):a≠b:=by intro e;subst e;rw[h]at h';cases h'
mutual
inductive RdD (H:Hp):V->PyData->Prop
 | non:RdD H .non .none
 | str (x:Str):RdD H (.str x) (.str x)
 | tup {a:Addr}{xs:List V}{ds:List PyData}:H a=some (.tup xs)->RdDs H xs ds->RdD H (.ref a) (.tuple ds)
inductive RdDs (H:Hp):List V->List PyData->Prop
 | nil:RdDs H [] []
 | cons {x:V}{d:PyData}{xs:List V}{ds:List PyData}:RdD H x d->RdDs H xs ds->RdDs H (x::xs) (d::ds)
end
mutual
theorem RdD.same (k:∀b xs,H b=some (.tup xs)->H' b=some (.tup xs)):∀{x:V}{d:PyData},RdD H x d->RdD H' x d
 | _,_,.non=>.non
 | _,_,.str x=>.str x
 | _,_,.tup e rs=>.tup (k _ _ e) (RdDs.same k rs)
theorem RdDs.same (k:∀b xs,H b=some (.tup xs)->H' b=some (.tup xs)):∀{xs:List V}{ds:List PyData},RdDs H xs ds->RdDs H' xs ds
 | _,_,.nil=>.nil
 | _,_,.cons a b=>.cons (RdD.same k a) (RdDs.same k b)
end
structure RdT (H:Hp)(a:Addr)(d:PyData):Prop where
 rd:RdD H (.ref a) d
 ok:WK.okT d=true
 lay:d.canLay0=true
 dp:WK.dpD d<=12
 de:d.depth<=8
def RdT.same (r:RdT H a d)(k:∀b xs,H b=some (.tup xs)->H' b=some (.tup xs)):RdT H' a d:=⟨r.rd.same k,r.ok,r.lay,r.dp,r.de⟩
section
variable (P:Program) (w:World)
def ObjOk (H:Hp)(h:Heap)(a:Addr):HO->Prop
 | .lst xs=>xs.length<=sizeLine/\∃(its:List Value) (n:Nat),Vals xs its/\h.get? a=some { cls:=.type "list",data:=.seq its.toArray n }
 | .tup xs=>xs.length<=sizeLine/\∃its:List Value,Vals xs its/\IsTup h a its.toArray
 | .dK kvs=>kvs.length<=sizeLine/\(a == sysModules)=false/\∃vs,KV kvs vs/\h.DictOf (BE P w) a vs
 | .dT kvs=>kvs.length<=sizeLine/\(a == sysModules)=false/\∃xs:List (PyData×Addr×Value),
   Paired (λ(p:PyData×V) (q:PyData×Addr×Value)=>p.1=q.1/\RdT H q.2.1 p.1/\RelV p.2 q.2.2) kvs xs /\
   ∃o es ep,h.get? a=some o/\o.ExactDict/\o.data=.dict es ep/\es.toList=xs.map (entryOfKey (WK.dataKind P w))/\(xs.map (·.1)).Nodup
 | .set S n=>h.SetOf (intKind P w) a S n
 | .ins C dx fs=>H dx=some (.own a)/\fs.length<=1000/\dx≠a/\h.get? a=some (PySem.W.instObj C dx) /\
   ∃mA,h.Ns1 dx mA/\(∀f,RelO (fs.lookup f) (mA f))/\PySem.Within mA (fs.map (·.1))
 | .own _=>∃o,h.get? a=some o
 | .xd fs=>∃mA,h.Ns1 a mA/\∀f,RelO (fs.lookup f) (mA f)
 | .rng lo hi=>∃t u v,h.get? a=some { cls:=.type "range",data:=.fields #[.int lo t,.int hi u,.int 1 v] }
 | .frz o u=>h.get? a=some o/\ObjOk H h a u
 | .tbl ps=>h.get? a=some { cls:=.none,data:=.fields ps }
 | .met f x=>h.get? a=some (PySem.W.methodObj (.ref f) (.ref x))
 | .ext φ=>φ h/\(∃o,h.get? a=some o)/\∀h1 h2:Heap,φ h1->(∀o,h1.get? a=some o->h2.get? a=some o)->φ h2
def HOk (H:Hp)(h:Heap):Prop:=∀a o,H a=some o->ObjOk P w H h a o
end
section
variable {P:Program}{w:World}{H H':Hp}{h h':Heap}{a:Addr}{o:HO}
def ObjOk.lt (x:ObjOk P w H h a o):a<h.objs.size:=by
 cases o with
 | lst xs=>obtain⟨_,_,_,_,e⟩:=x;exact A0 e
 | tup xs=>obtain⟨_,_,_,p⟩:=x;exact p.lt
 | dK kvs=>obtain⟨_,_,_,_,o,_,_,e,_⟩:=x;exact A0 e
 | dT kvs=>obtain⟨_,_,_,_,o,_,_,e,_⟩:=x;exact A0 e
 | set S n=>obtain⟨o,_,_,_,e,_⟩:=x;exact A0 e
 | ins C dx fs=>obtain⟨_,_,_,e,_⟩:=x;exact A0 e
 | own y=>obtain⟨_,e⟩:=x;exact A0 e
 | xd fs=>obtain⟨_,⟨_,_,_,e,_⟩,_⟩:=x;exact A0 e
 | rng lo hi=>obtain⟨_,_,_,e⟩:=x;exact A0 e
 | frz ob u=>obtain⟨e,_⟩:=x;exact A0 e
 | tbl ps=>exact A0 x
 | met f y=>exact A0 x
 | ext φ=>obtain⟨_,⟨_,e⟩,_⟩:=x;exact A0 e
def Paired.mapP {g e:Type}{F G:g->e->Prop}:∀{d:List g}{l₂:List e},Paired F d l₂->(∀a b,F a b->G a b)->Paired G d l₂:=by
 intro c l h f;induction h with
 | nil=>exact .nil
 | cons r t i=>exact .cons (f _ _ r) i
def ObjOk.stay (x:ObjOk P w H h a o)(k:∀b u,(b=a\/H b=some (.own a))->h.get? b=some u->h'.get? b=some u)
  (B:∀b,H b=some (.own a)->H' b=some (.own a))(m:∀b xs,H b=some (.tup xs)->H' b=some (.tup xs)):ObjOk P w H' h' a o:=by
 induction o with
 | lst xs=>obtain⟨z,i,n,r,e⟩:=x;exact⟨z,i,n,r,k _ _ (.inl U) e⟩
 | tup xs=>obtain⟨z,i,r,g,e,c⟩:=x;exact⟨z,i,r,g,k _ _ (.inl U) e,c⟩
 | dK kvs=>obtain⟨z,y,vs,r,g,es,ep,e,c⟩:=x;exact⟨z,y,vs,r,g,es,ep,k _ _ (.inl U) e,c⟩
 | dT kvs=>obtain⟨z,y,xs,r,g,es,ep,e,c⟩:=x;exact⟨z,y,xs,Paired.mapP r λp q z=>⟨z.1,z.2.1.same m,z.2.2⟩,g,es,ep,k _ _ (.inl U) e,c⟩
 | set S n=>obtain⟨g,es,ep,t,e,c⟩:=x;exact⟨g,es,ep,t,k _ _ (.inl U) e,c⟩
 | ins C dx fs=>obtain⟨d,z,s,e,j,⟨l,es,ep,A,c⟩,r⟩:=x;exact⟨B _ d,z,s,k _ _ (.inl U) e,j,⟨l,es,ep,k _ _ (.inr d) A,c⟩,r⟩
 | own y=>obtain⟨g,e⟩:=x;exact⟨g,k _ _ (.inl U) e⟩
 | xd fs=>obtain⟨j,⟨l,es,ep,e,c⟩,r⟩:=x;exact⟨j,⟨l,es,ep,k _ _ (.inl U) e,c⟩,r⟩
 | rng lo hi=>obtain⟨t,u,v,e⟩:=x;exact⟨t,u,v,k _ _ (.inl U) e⟩
 | frz g u ih=>obtain⟨e,q⟩:=x;exact⟨k _ _ (.inl U) e,ih q⟩
 | tbl ps=>have e:=x;exact k a _ (.inl U) e
 | met f y=>have e:=x;exact k a _ (.inl U) e
 | ext φ=>obtain⟨p,⟨o,e⟩,st⟩:=x;exact⟨st _ _ p λo q=>k _ _ (.inl U) q,⟨o,k _ _ (.inl U) e⟩,st⟩
def HOk.lt (x:HOk P w H h)(e:H a=some o):a<h.objs.size:=(x a o e).lt
def HOk.fresh (x:HOk P w H h)(e:h.objs.size<=a):H a=none:=by
 cases q:H a with
 | none=>rfl
 | some u=>exact absurd (CJ (x.lt q) e) (DY _)
def HOk.kept (x:HOk P w H h)(k:∀b u,h.get? b=some u->h'.get? b=some u):HOk P w H h':=λa o e=>(x a o e).stay (λb u _ q=>k b u q) (λ_ q=>q) λ_ _ q=>q
def HOk.laid (x:HOk P w H h)(k:∀b u,h.get? b=some u->h'.get? b=some u)(g:h.objs.size<=a)(new:ObjOk P w (Y H a o) h' a o):HOk P w (Y H a o) h':=λb u e=>by
 have f:=x.fresh g;by_cases d:b=a
 ·subst d;rw[Ag]at e;cases e;exact new
 rw[Af d]at e;exact(x b u e).stay (λc v _ q=>k c v q) (λc q=>by rw[Af (Au q f)];exact q) λc xs q=>by rw[Af (Au q f)];exact q
end
def Rd (H:Hp)(a:Addr)(u:HO):Prop:=H a=some u\/∃o,H a=some (.frz o u)
def Rd.ok (r:Rd H a u)(x:HOk P w H h):ObjOk P w H h a u:=by
 rcases r with r | ⟨o,r⟩
 ·exact x a u r
 obtain⟨_,q⟩:=x a _ r;exact q
def Mr:Option HO->Prop
 | some (.lst _)=>True
 | some (.dK _)=>True
 | some (.dT _)=>True
 | some (.set _ _)=>True
 | some (.ins _ _ _)=>True
 | some (.ext _)=>True
 | _=>False
section
variable {P:Program}{w:World}{H:Hp}{h h':Heap}{x e:Addr}{o':HO}
def HOk.write (ok:HOk P w H h)(i:Mr (H x))(m:e=x\/H e=some (.own x))(k:∀b u,b≠e->h.get? b=some u->h'.get? b=some u)(l:∃u,h'.get? e=some u)
  (new:ObjOk P w (Y H x o') h' x o'):HOk P w (Y H x o') h':=λb u q=>by
 have d:∀c y,H c=some (.own y)->c≠x:=λc y r z=>by subst z;rw[r]at i;exact i
 have f:∀c xs,H c=some (.tup xs)->c≠x:=λc xs r z=>by subst z;rw[r]at i;exact i
 by_cases g:b=x
 ·subst g;rw[Ag]at q;cases q;exact new
 rw[Af g]at q
 by_cases a:b=e
 ·have n:H b=some (.own x):=by
   rcases m with z | z
   ·exact absurd (a.trans z) g
   rw[a];exact z
  rw[q]at n;cases n;obtain⟨v,o⟩:=l;exact⟨v,a▸o⟩
 refine(ok b u q).stay (λc v j r=>k c v ?_ r) (λc r=>by rw[Af (d c b r)];exact r) λc xs r=>by rw[Af (f c xs r)];exact r
 rcases j with rfl | j
 ·exact a
 rintro rfl
 rcases m with z | z
 ·exact d c b j z
 rw[j]at z;cases z;exact g U
end
structure Un (fs ex:List Addr)(H H':Hp)(h h':Heap):Prop where
 keep:∀b o,h.get? b=some o->H b=none->b∉fs->b∉ex->h'.get? b=some o
 slot:∀b o,h.get? b=some o->H b=none->b∈fs->b∉ex->∃sl,h'.get? b=some { o with slots:=sl }
 free:∀b o,h.get? b=some o->H b=none->b∉ex->H' b=none
 there:∀b o,h.get? b=some o->b∉ex->∃o',h'.get? b=some o'
 tups:∀b xs,H b=some (.tup xs)->H' b=some (.tup xs)
 frzs:∀b o u,H b=some (.frz o u)->H' b=some (.frz o u)
 tbls:∀b ps,H b=some (.tbl ps)->∃more,H' b=some (.tbl (ps++more))
section
variable {fs fs' ex ex':List Addr}{H H1 H2:Hp}{h h1 h2 h':Heap}{a x e:Addr}{o:HO}
def Un.any (u:Un fs ex H H1 h h1) (q:h.get? b=some ob)(n:H b=none)(c:b∉ex):∃f,h1.get? b=some { ob with slots:=f }:=by
 by_cases d:b∈fs
 ·exact u.slot b ob q n d c
 exact⟨ob.slots,u.keep b ob q n d c⟩
def Un.kept (k:∀b u,h.get? b=some u->h'.get? b=some u):Un fs ex H H h h':=
 ⟨λb c q _ _ _=>k b c q,λb c q _ _ _=>⟨c.slots,k b c q⟩,λ_ _ _ n _=>n,λb c q _=>⟨c,k b c q⟩,λ_ _ q=>q,λ_ _ _ q=>q,λ_ ps q=>⟨#[],by rw[q];simp⟩⟩
def Un.refl:Un fs ex H H h h:=Un.kept λ_ _ q=>q
theorem Un.laid (k:∀b u,h.get? b=some u->h'.get? b=some u)(d:h.objs.size<=a)(c:H a=none):Un fs ex H (Y H a o) h h' where
 keep:=λb u q _ _ _=>k b u q
 slot:=λb u q _ _ _=>⟨u.slots,k b u q⟩
 free:=λb u q n _=>by rw[Af (Bk (CJ (A0 q) d))];exact n
 there:=λb u q _=>⟨u,k b u q⟩
 tups:=λb xs q=>by rw[Af (Au q c)];exact q
 frzs:=λb u xs q=>by rw[Af (Au q c)];exact q
 tbls:=λb ps q=>⟨#[],by rw[Af (Au q c),q];simp⟩
def Un.write (d:Mr (H x))(l:e=x\/H e=some (.own x))(k:∀b u,b≠e->h.get? b=some u->h'.get? b=some u)(f:∃u,h'.get? e=some u):Un fs ex H (Y H x o) h h':=by
 have j:∀b,H b=none->b≠x:=λb n z=>by subst z;rw[n]at d;exact d
 have i:∀b,H b=none->b≠e:=λb n z=>by
  subst z;rcases l with r | r
  ·exact j b n r
  rw[n]at r;cases r
 have g:∀b u,H b=some u->¬Mr (some u)->b≠x:=λb u q nm z=>by subst z;rw[q]at d;exact nm d
 refine⟨λb u q n _ _=>k b u (i b n) q,λb u q n _ _=>⟨u.slots,k b u (i b n) q⟩,λb u q n _=>by rw[Af (j b n)];exact n,λb u q _=>?_,λb xs q=>by rw[Af (g b _ q λz=>z)];exact q,λb u xs q=>by rw[Af (g b _ q λz=>z)];exact q,λb ps q=>⟨#[],by rw[Af (g b _ q λz=>z),q];simp⟩⟩;by_cases c:b=e
 ·subst c;exact f
 exact⟨u,k b u c q⟩
end
def Pj (h:Heap)(H:Hp):List Addr:=(List.range h.objs.size).filter λa=>(H a).isSome
def FP (h:Heap)(H:Hp):Heap:=PySem.W.hideAll h (Pj h H)
def oD (h:Heap)(H:Hp):(FP h H).objs.size=h.objs.size:=PySem.W.hideAll_size _ _
def oH (e:h.get? b=some o)(n:H b=none):(FP h H).get? b=some o:=
 Ov _ e λa=>by have q:=(mem_filter.mp a).2;rw[n]at q;simp at q
def iF (e:(FP h H).get? b=some o):h.get? b=some o/\H b=none:=by
 have a:=PySem.W.of_hideAll (Pj h H) e;refine⟨a,?_⟩;cases q:H b with
 | none=>rfl
 | some x=>have z:(FP h H).get? b=none:=PySem.W.hideAll_none (Pj h H) (mem_filter.mpr ⟨Do.mpr (A0 a),by simp[q]⟩);rw[z]at e;cases e
end L2
namespace L2
open PySem PySem.Spec PyProof.Rows
structure Mod (K:W.Frag)(mg:Str->Option Value)(base:Heap):Prop where
 kin:K.In base
 glob:base.Ns mainGlobals mg
 blt:∃mb,base.Ns builtinsNs mb/\∀x:Str,x ≠ "__name__" -> mb x=bootBuiltins x
 nolimit:base.NoLimit
structure Cx where
 prog:Program
 w:World
 K:W.Frag
 mg:Str->Option Value
 base:Heap
 A:Around
 N:List Str
 s₀:Shared
 H₀:Hp
 env:Env
 outer:List Env
 stack:List Env
 ex:List Addr
 fn:Str->Bool
 calm:Bool
 pn:List (Addr×Obj)
 xe:Value->Shared->Prop
def Cp (l:List Env):List Addr:=l.filterMap (·.frame)
abbrev Cx.fs (X:Cx):List Addr:=Cp X.outer
def SV (sc:Scope)(x:Str):Prop:=sc.names.lookup x=some .local\/sc.names.lookup x=some .cell\/sc.names.lookup x=some .free
def Kp (sc:Scope)(x:Str):Prop:=sc.names.lookup x=some .local\/sc.names.lookup x=some .cell
def tQ (env:Env)(h:Heap)(m:Str->Option Value)(x:Str)(u:Value):Prop:=
 (env.kindOf x=some .local/\m x=some u)\/((env.kindOf x=some .cell\/env.kindOf x=some .free)/\∃c,env.cells.lookup x=some c/\h.IsCell c (some u))
structure Cx.Ok (X:Cx):Prop where
 mod:Mod X.K X.mg X.base
 kind:X.env.scope.kind=.function
 glob:X.env.globals=mainGlobals
 blt:X.env.builtins=builtinsNs
 above:X.s₀.heap.objs.size<=X.env.locals
 inj:∀x y c,X.env.cells.lookup x=some c->X.env.cells.lookup y=some c->x=y
 has:∀x,(X.env.kindOf x=some .cell\/X.env.kindOf x=some .free)->∃c,X.env.cells.lookup x=some c
 cab:∀x c,X.fn x=true->X.env.cells.lookup x=some c->X.s₀.heap.objs.size<=c
 hd:X.calm=true->X.A.handled=none
 frames:X.A.frames=some X.stack
 stk:X.stack=X.outer\/(X.stack=X.env::X.outer/\X.env.frame=some X.env.locals)
 exf:∀b∈X.ex,b≠X.env.locals/\∀x c,X.env.cells.lookup x=some c->c≠b
 bs:∀b o,X.base.get? b=some o->X.s₀.heap.get? b=some o/\X.H₀ b=none
 bsz:X.base.objs.size<=X.s₀.heap.objs.size
 noex:∀b o,X.base.get? b=some o->b∉X.ex
 exfs:∀b∈X.ex,b∉X.fs
 funs:X.s₀.heap.FunFrames X.base X.outer
 frf:∀b∈X.fs,X.H₀ b=none
structure Inv (X:Cx)(dv:List (Addr×Obj))(σ:List (Option V))(H:Hp)(s:Shared):Prop where
 ok:X.Ok
 os:s.os=X.s₀.os
 bare:AllBare s.gens
 base:Un X.fs X.ex X.H₀ H X.s₀.heap s.heap
 loc:∃m,s.heap.Ns X.env.locals m/\∀(i:Nat) (x:Str) (v:V),X.N[i]? = some x->σ[i]? = some (some v)->SV X.env.scope x->∃u,RelV v u/\tQ X.env s.heap m x u
 cell:∀x c,X.env.cells.lookup x=some c->∃v,s.heap.IsCell c v
 free:H X.env.locals=none
 freeC:∀x c,X.env.cells.lookup x=some c->H c=none
 pin:∀p∈X.pn++dv,s.heap.get? p.1=some p.2/\H p.1=none/\p.1≠X.env.locals/\p.1∉X.fs/\∀v,p.2.data≠.cell v
 hok:HOk X.prog X.w H s.heap
 len:σ.length=X.N.length
section
variable {X:Cx}{dv:List (Addr×Obj)}{σ:List (Option V)}{H H':Hp}{s:Shared}{h':Heap}
def Cx.Ok.nofr (ok:X.Ok) (e:X.base.get? b=some o):b∉X.fs:=λa=>by have:=(ok.funs.mem a).1;rw[e]at this;cases this
def Inv.bs (I:Inv X dv σ H s):∀b o,X.base.get? b=some o->s.heap.get? b=some o/\H b=none:=λb o e=>⟨I.base.keep b o (I.ok.bs b o e).1 (I.ok.bs b o e).2 (I.ok.nofr e) (I.ok.noex b o e),I.base.free b o (I.ok.bs b o e).1 (I.ok.bs b o e).2 (I.ok.noex b o e)⟩
def Inv.bk (I:Inv X dv σ H s):∀b o,X.base.get? b=some o->s.heap.get? b=some o:=λb o e=>(I.bs b o e).1
def Inv.mod (I:Inv X dv σ H s):Mod X.K X.mg X.base:=I.ok.mod
def Inv.kIn (I:Inv X dv σ H s):X.K.In s.heap:=I.ok.mod.kin.keeps I.bk
def Inv.lt (I:Inv X dv σ H s):X.env.locals<s.heap.objs.size:=let ⟨_,hn,_⟩:=I.loc;hn.lt
def Inv.sz (I:Inv X dv σ H s):X.s₀.heap.objs.size<=s.heap.objs.size:=Er I.ok.above (Ib I.lt)
def Inv.nofs (I:Inv X dv σ H s) (h:s.heap.objs.size<=a):a∉X.fs:=λc=>by obtain⟨_,o,b,_⟩:=I.ok.funs.mem c;exact absurd (CJ (A0 b) (Er I.sz h)) (DY _)
def Inv.cne (I:Inv X dv σ H s):∀x c,X.env.cells.lookup x=some c->c≠X.env.locals:=λx c e z=>by obtain⟨v,o,d,f⟩:=I.cell x c e;obtain⟨m,⟨g,es,ep,b,a,_⟩,_⟩:=I.loc;rw[z,b]at d;cases d;rw[a]at f;cases f
def Inv.funs (I:Inv X dv σ H s):s.heap.FunFrames X.base X.outer:=by
 have all:∀(l:List Env),(∀b∈Cp l,b∈X.fs)->X.s₀.heap.FunFrames X.base l->s.heap.FunFrames X.base l:=by
  intro l;induction l with
  | nil=>intro _ _;trivial
  | cons env r ih=>intro f n;obtain⟨m,⟨L,o,d,g,j,h⟩,i⟩:=n;have c:L∈X.fs:=f L (by unfold Cp;rw[Kb,d];exact A9);obtain⟨p,e⟩:=I.base.slot L o j (I.ok.frf L c) c λz=>I.ok.exfs L z c;exact⟨m,⟨L,_,d,g,e,h⟩,ih (λb a=>f b (by unfold Cp;rw[Kb,d];exact AY _ a)) i⟩
 exact all X.outer (λ_ a=>a) I.ok.funs
def Inv.stack (I:Inv X dv σ H s):s.heap.FunFrames X.base X.stack:=by
 rcases I.ok.stk with e | ⟨e,hf⟩
 ·rw[e];exact I.funs
 rw[e];obtain⟨m,a,_⟩:=I.loc;refine .cons (by rw[I.ok.kind];decide) hf a ?_ I.funs;exact Heap.get?_none_of_le (Er I.ok.bsz I.ok.above)
def Inv.stkSub (I:Inv X dv σ H s):∀b∈Cp X.stack,b∈X.env.locals::X.fs:=λb a=>by
 rcases I.ok.stk with e | ⟨e,hf⟩
 ·rw[e]at a;exact AY _ a
 rw[e]at a;unfold Cp at a;rw[Kb,hf]at a;exact a
def Inv.stkFree (I:Inv X dv σ H s):∀b∈Cp X.stack,H b=none:=λb a=>by
 rcases Az.mp (I.stkSub b a)with e | a
 ·rw[e];exact I.free
 obtain⟨_,o,c,_⟩:=I.ok.funs.mem a;exact I.base.free b o c (I.ok.frf b a) λz=>I.ok.exfs b z a
def Inv.step {g':Array GenState}{t':Nat}{d':Drawn}{ch:List Addr}(I:Inv X dv σ H s)
  (f:∀b∈ch,(b∈X.ex\/X.s₀.heap.objs.size<=b)/\b≠X.env.locals/\(∀x c,X.env.cells.lookup x=some c->c≠b)/\∀p∈X.pn++dv,p.1≠b)
  (keep:∀b o,b≠X.env.locals->b∉X.fs->b∉ch->s.heap.get? b=some o->H b=none->h'.get? b=some o)
  (y:∀b o,b≠X.env.locals->b∈X.fs->b∉ch->s.heap.get? b=some o->H b=none->∃P,h'.get? b=some { o with slots:=P })(free:∀b o,b∉ch->s.heap.get? b=some o->H b=none->H' b=none)
  (there:∀b o,b∉ch->s.heap.get? b=some o->∃F,h'.get? b=some F)
  (C:∀b xs,H b=some (.tup xs)->H' b=some (.tup xs))(G:∀b o u,H b=some (.frz o u)->H' b=some (.frz o u))(K:∀b ps,H b=some (.tbl ps)->∃more,H' b=some (.tbl (ps++more)))
  (ns:∀m,s.heap.Ns X.env.locals m->h'.Ns X.env.locals m)(N:HOk X.prog X.w H' h')(hg:AllBare g') :
  Inv X dv σ H' { s with heap:=h',gens:=g',drawn:=d',toks:=t' }:=by
 have E:∀b o,X.s₀.heap.get? b=some o->b≠X.env.locals:=λb o e=>Bk (CJ (A0 e) I.ok.above)
 have j:∀b o,X.s₀.heap.get? b=some o->b∉X.ex->b∉ch:=λb o e a A=>by
  rcases(f b A).1 with z | z
  ·exact a z
  exact absurd (CJ (A0 e) z) (DY _)
 have h:∀x c,X.env.cells.lookup x=some c->∀v,s.heap.IsCell c v->h'.IsCell c v:=λx c e v ⟨o,B,L⟩=>by
  have g:c∉ch:=λz=>(f c z).2.2.1 x c e U;by_cases T:c∈X.fs
  ·obtain⟨P,q⟩:=y c o (I.cne x c e) T g B (I.freeC x c e);exact⟨_,q,L⟩
  exact⟨o,keep c o (I.cne x c e) T g B (I.freeC x c e),L⟩
 refine⟨I.ok,I.os,hg,⟨λb o e n A a=>?_,λb o e n A a=>?_,λb o e n a=>?_,λb o e a=>?_,λb xs e=>C b xs (I.base.tups b xs e),λb o xs e=>G b o xs (I.base.frzs b o xs e),λb ps e=>?_⟩,?_,λx c e=>?_,?_,λx c e=>?_,λp S=>?_,N,I.len⟩
 ·exact keep b o (E b o e) A (j b o e a) (I.base.keep b o e n A a) (I.base.free b o e n a)
 ·obtain⟨P,w⟩:=I.base.slot b o e n A a;obtain⟨M,D⟩:=y b _ (E b o e) A (j b o e a) w (I.base.free b o e n a);exact⟨M,D⟩
 ·obtain⟨F,w⟩:=I.base.there b o e a;exact free b F (j b o e a) w (I.base.free b o e n a)
 ·obtain⟨F,w⟩:=I.base.there b o e a;exact there b F (j b o e a) w
 ·obtain⟨m1,w⟩:=I.base.tbls b ps e;obtain⟨m2,D⟩:=K b _ w;exact⟨m1++m2,by rw[D,Array.append_assoc]⟩
 ·obtain⟨m,hn,hl⟩:=I.loc;refine⟨m,ns m hn,λi x v w D W=>?_⟩;obtain⟨u,r,l⟩:=hl i x v w D W;refine⟨u,r,?_⟩;rcases l with l | ⟨k,c,e,z⟩
  ·exact .inl l
  exact .inr ⟨k,c,e,h x c e _ z⟩
 ·obtain⟨v,z⟩:=I.cell x c e;exact⟨v,h x c e v z⟩
 ·obtain⟨m,⟨o,_,_,B,_⟩,_⟩:=I.loc;exact free _ o (λz=>(f _ z).2.1 U) B I.free
 ·obtain⟨v,o,B,L⟩:=I.cell x c e;exact free c o (λz=>(f c z).2.2.1 x c e U) B (I.freeC x c e)
 obtain⟨e,n,Q,R,d⟩:=I.pin p S
 have g:p.1∉ch:=λz=>(f p.1 z).2.2.2 p S U
 exact⟨keep p.1 p.2 Q R g e n,free p.1 p.2 g e n,Q,R,d⟩
def Inv.un (I:Inv X dv σ H s)(u:Un X.fs [] H H' s.heap h')(d:HOk X.prog X.w H' h'):Inv X dv σ H' { s with heap:=h',toks:=t' }:=by obtain⟨m,⟨o,es,ep,h,r⟩,_⟩:=id I.loc;obtain⟨q,i⟩:=u.any h I.free Θ;exact I.step (ch:=[]) (λ_ z=>nomatch z) (λb o _ c _ e n=>u.keep b o e n c Θ) (λb o _ c _ e n=>u.slot b o e n c Θ) (λb o _ e n=>u.free b o e n Θ) (λb o _ e=>u.there b o e Θ) u.tups u.frzs u.tbls (λv j=>by obtain⟨p,f,g,a,l⟩:=j;rw[h]at a;cases a;exact⟨_,f,g,i,l⟩) d I.bare
def Inv.call (I:Inv X dv σ H s)(u:Un (Cp X.stack) ch H H' s.heap h')(h:HOk X.prog X.w H' h')(v:AllBare g')
  (d:∀b∈ch,(b∈X.ex\/X.s₀.heap.objs.size<=b)/\b≠X.env.locals/\(∀x c,X.env.cells.lookup x=some c->c≠b)/\∀p∈X.pn++dv,p.1≠b) :
  Inv X dv σ H' { s with heap:=h',gens:=g',drawn:=d',toks:=t' }:=by
 obtain⟨m,⟨o,es,ep,l,r⟩,_⟩:=id I.loc
 obtain⟨B,g⟩:=u.any l I.free λz=>(d _ z).2.1 U
 exact I.step d (λb o g q a e n=>u.keep b o e n (λz=>(Az.mp (I.stkSub b z)).elim g q) a) (λb o _ _ a e n=>u.any e n a) (λb o a e n=>u.free b o e n a) (λb o a e=>u.there b o e a) u.tups u.frzs u.tbls (λC w=>by obtain⟨A,i,j,f,y⟩:=w;rw[l]at f;cases f;exact⟨_,i,j,g,y⟩) h v
def Inv.turned (I:Inv X dv σ H s)(k:∀b o,b≠it->s.heap.get? b=some o->h'.get? b=some o)(h:H it=none)(f:it≠X.env.locals)
  (l:it∈X.ex\/X.s₀.heap.objs.size<=it)(j:∀x c,X.env.cells.lookup x=some c->c≠it)(y:∀p∈X.pn++dv,p.1≠it):Inv X dv σ H { s with heap:=h',toks:=t' }:=by
 have d:∀b u,H b=some u->b≠it:=λb u e z=>by rw[z,h]at e;cases e
 refine I.step (g':=s.gens) (d':=s.drawn) (ch:=[it]) (λb g=>?_) (λb o _ _ a e _=>k b o (λz=>a (by simp[z])) e) (λb o _ _ a e _=>⟨o.slots,k b o (λz=>a (by simp[z])) e⟩) (λ_ _ _ _ n=>n)
  (λb o a e=>⟨o,k b o (λz=>a (by simp[z])) e⟩) (λ_ _ e=>e) (λ_ _ _ e=>e) (λb ps e=>⟨#[],by rw[e];simp⟩) (λm i=>?_) (λb u e=>?_) I.bare
 ·have e:b=it:=by simpa using g
  subst e;exact⟨l,f,j,y⟩
 ·obtain⟨o,es,ep,w,r⟩:=i;exact⟨o,es,ep,k _ o (ET f) w,r⟩
 refine(I.hok b u e).stay (λc v a q=>k c v ?_ q) (λ_ q=>q) λ_ _ q=>q
 rcases a with z | z
 ·rw[z];exact d b u e
 exact d c _ z
def Inv.tok (I:Inv X dv σ H s)(t:Nat):Inv X dv σ H { s with toks:=t }:=I.un Un.refl I.hok
def Inv.kept (I:Inv X dv σ H s)(k:∀b u,s.heap.get? b=some u->h'.get? b=some u):Inv X dv σ H { s with heap:=h',toks:=t' }:=I.un (Un.kept k) (I.hok.kept k)
def Inv.laid (I:Inv X dv σ H s)(k:∀b u,s.heap.get? b=some u->h'.get? b=some u)(c:s.heap.objs.size<=a)(new:ObjOk X.prog X.w (Y H a o) h' a o) :
  Inv X dv σ (Y H a o) { s with heap:=h',toks:=t' }:=I.un (Un.laid k c (I.hok.fresh c)) (I.hok.laid k c new)
def Inv.write (I:Inv X dv σ H s)(c:Mr (H x))(d:e=x\/H e=some (.own x))(k:∀b u,b≠e->s.heap.get? b=some u->h'.get? b=some u)(a:∃u,h'.get? e=some u)
  (new:ObjOk X.prog X.w (Y H x o) h' x o):Inv X dv σ (Y H x o) { s with heap:=h',toks:=t' }:=I.un (Un.write c d k a) (I.hok.write c d k a new)
def Inv.weak (I:Inv X dv σ H s)(d:σ'.length=σ.length)(w:∀(i:Nat) v,σ'[i]? = some (some v)->σ[i]? = some (some v)):Inv X dv σ' H s:=
 ⟨I.ok,I.os,I.bare,I.base,let ⟨m,hn,hl'⟩:=I.loc;⟨m,hn,λi x v b a c=>hl' i x v b (w i v a) c⟩,I.cell,I.free,I.freeC,I.pin,I.hok,d.trans I.len⟩
def Inv.pins_of (I:Inv X dv σ H s)(h:∀p∈pins',s.heap.get? p.1=some p.2/\H p.1=none/\p.1≠X.env.locals/\p.1∉X.fs/\∀v,p.2.data≠.cell v):Inv X pins' σ H s:=
 ⟨I.ok,I.os,I.bare,I.base,I.loc,I.cell,I.free,I.freeC,λp a=>(BF.mp a).elim (λz=>I.pin p (Hc _ z)) (h p),I.hok,I.len⟩
def Q6 {N:List Str}(e:N.Nodup){i j:Nat}{x:Str}(a:N[i]? = some x)(b:N[j]? = some x):i=j:=by obtain⟨f,c⟩:=Ay.mp a;obtain⟨g,d⟩:=Ay.mp b;exact(F3 e).mp (c.trans d.symm)
def T4 (I:Inv X dv σ H s)(hN:X.N.Nodup)(S:X.N[i]? = some x)(B:Kp X.env.scope x)(r:RelV v u)
  (h:∀s',Inv X dv (σ.set i (some v)) H s'->(∃a,Heap.SameBut a s.heap s'.heap/\(a=X.env.locals\/X.env.cells.lookup x=some a))->Q () s')(hf:X.fn x=true\/X.env.scope.names.lookup x=some .local:=by first | exact .inl U | exact .inr U | assumption):wpAny M A (storeName X.env x u) Q E s:=by
 obtain⟨m,hn,hl⟩:=id I.loc
 have T:(X.env.scope.kind == .class || (X.env.scope.kind == .module && X.env.locals != X.env.globals))=false:=by rw[I.ok.kind];rfl
 have F:i<σ.length:=by rw[I.len];exact(Ay.mp S).1
 have cne:=I.cne
 have g:∀{a:Addr}{h':Heap},(∃o,s.heap.get? a=some o/\H a=none)->Heap.SameBut a s.heap h'->HOk X.prog X.w H h':=λ{a h'} ha f b ob e=>by
  obtain⟨_,_,C⟩:=ha;refine(I.hok b ob e).stay (λc w' w q=>(f.2 c ?_).trans q) (λ_ q=>q) λ_ _ q=>q;rintro rfl;rcases w with rfl | w
  ·rw[C]at e;cases e
  rw[C]at w;cases w
 rcases B with G | G
 ·refine wpAny_storeName_local G hn (λh' a1 f=>?_) T;obtain⟨oL,_,_,a2,_⟩:=id hn;refine h _ ⟨I.ok,I.os,I.bare,⟨λb o e n K B=>?_,λb o e n K B=>?_,I.base.free,λb o e B=>?_,I.base.tups,I.base.frzs,I.base.tbls⟩,⟨_,a1,λj y v' l D e3=>?_⟩,λy c e=>?_,I.free,I.freeC,λp hp=>?_,g ⟨oL,a2,I.free⟩ f,by simpa using I.len⟩ ⟨_,f,.inl U⟩
  ·exact(f.2 b (Bk (CJ (A0 e) I.ok.above))).trans (I.base.keep b o e n K B)
  ·obtain⟨sl,l⟩:=I.base.slot b o e n K B;exact⟨sl,(f.2 b (Bk (CJ (A0 e) I.ok.above))).trans l⟩
  ·obtain⟨o',l⟩:=I.base.there b o e B;exact⟨o',(f.2 b (Bk (CJ (A0 e) I.ok.above))).trans l⟩
  ·by_cases N:j=i
   ·subst N;rw[S]at l;cases l;rw[JS F]at D;cases D;exact⟨u,r,.inl ⟨G,Θ⟩⟩
   rw[Ki (ET N)]at D;obtain⟨u',r',q⟩:=hl j y v' l D e3;refine⟨u',r',?_⟩;rcases q with⟨k,e⟩ | ⟨k,c,e,z⟩
   ·refine .inl ⟨k,?_⟩;have:y≠x:=λe=>N (Q6 hN l (e ▸ S));simp[this,e]
   exact .inr ⟨k,c,e,z.sameBut f (cne y c e)⟩
  ·obtain⟨w',z⟩:=I.cell y c e;exact⟨w',z.sameBut f (cne y c e)⟩
  obtain⟨e,n,ne,nf,d⟩:=I.pin p hp;exact⟨(f.2 p.1 ne).trans e,n,ne,nf,d⟩
 have L:X.fn x=true:=by
  rcases hf with z | z
  ·exact z
  rw[z]at G;cases G
 obtain⟨c,w⟩:=I.ok.has x (.inl G)
 obtain⟨w',z⟩:=I.cell x c w
 refine wpAny_storeName_cell I.ok.kind G w z (λh' R f=>?_)
 obtain⟨oc,a0,W⟩:=id z
 refine h { s with heap:=h' } ⟨I.ok,I.os,I.bare,⟨λb o e n K B=>?_,λb o e n K B=>?_,I.base.free,λb o e B=>?_,I.base.tups,I.base.frzs,I.base.tbls⟩,⟨m,hn.sameBut f (ET (cne x c w)),λj y v' l D e3=>?_⟩,λy c' e=>?_,I.free,I.freeC,λp hp=>?_,g ⟨oc,a0,I.freeC x c w⟩ f,by simpa using I.len⟩ ⟨c,f,.inr w⟩
 ·exact(f.2 b (Bk (CJ (A0 e) (I.ok.cab x c L w)))).trans (I.base.keep b o e n K B)
 ·obtain⟨sl,l⟩:=I.base.slot b o e n K B;exact⟨sl,(f.2 b (Bk (CJ (A0 e) (I.ok.cab x c L w)))).trans l⟩
 ·obtain⟨o',l⟩:=I.base.there b o e B;exact⟨o',(f.2 b (Bk (CJ (A0 e) (I.ok.cab x c L w)))).trans l⟩
 ·by_cases N:j=i
  ·subst N;rw[S]at l;cases l;rw[JS F]at D;cases D;exact⟨u,r,.inr ⟨.inl G,c,w,R⟩⟩
  rw[Ki (ET N)]at D;obtain⟨u',r',q⟩:=hl j y v' l D e3;refine⟨u',r',?_⟩;rcases q with q | ⟨k,c',e,z'⟩
  ·exact .inl q
  refine .inr ⟨k,c',e,z'.sameBut f ?_⟩;rintro rfl;exact N (Q6 hN l (I.ok.inj _ _ _ e w ▸ S))
 ·by_cases P:c'=c
  ·subst P;exact⟨_,R⟩
  obtain⟨w2,z2⟩:=I.cell y c' e;exact⟨w2,z2.sameBut f P⟩
 obtain⟨e,n,ne,nf,d⟩:=I.pin p hp
 refine⟨(f.2 p.1 ?_).trans e,n,ne,nf,d⟩
 intro q
 rw[q,a0]at e
 exact d w' (by rw[<- (BG e)];exact W)
def Pp (I:Inv X dv σ H s)(b:X.N.Nodup)(a:X.N[i]? = some x)(d:Kp X.env.scope x)(r:RelV v u)
  (h:∀s',Inv X dv (σ.set i (some v)) H s'->Q () s')(e:X.fn x=true\/X.env.scope.names.lookup x=some .local:=by first | exact .inl U | exact .inr U | assumption):wpAny M A (storeName X.env x u) Q E s:=
 T4 I b a d r (λs' c _=>h s' c) e
def Inv.call' (I:Inv X dv σ H s)(g:s'.os=s.os)(u:Un (Cp X.stack) ch H H' s.heap s'.heap)(d:HOk X.prog X.w H' s'.heap)(f:AllBare s'.gens)
  (a:∀b∈ch,(b∈X.ex\/X.s₀.heap.objs.size<=b)/\b≠X.env.locals/\(∀x c,X.env.cells.lookup x=some c->c≠b)/\∀p∈X.pn++dv,p.1≠b):Inv X dv σ H' s':=by
 obtain⟨h',g',d',t',h⟩:=s'
 have e:=g
 subst e
 exact I.call u d f a
end
abbrev XK:=Value->Option Addr->Hp->Prop
abbrev St:=List (Option V)
abbrev VK:=V->Hp->Prop
abbrev TE:=St->Hp->VK->Prop
abbrev TT:=St->Hp->(Bool->Hp->Prop)->Prop
abbrev TA:=St->Hp->(List V->Hp->Prop)->Prop
structure Ga where
 nx:St->Hp->Prop
 rt:VK
 bk:St->Hp->Prop:=λ_ _=>False
 ct:St->Hp->Prop:=λ_ _=>False
abbrev TS:=Ga->St->Hp->Prop
def EP (X:Cx)(dv:List (Addr×Obj))(σ:St)(Q:VK)(u:Value)(s':Shared):Prop:=∃v H',Inv X dv σ H' s'/\RelV v u/\Q v H'
def TP (X:Cx)(dv:List (Addr×Obj))(σ:St)(Q:Bool->Hp->Prop)(b:Bool)(s':Shared):Prop:=∃H',Inv X dv σ H' s'/\Q b H'
def AP (X:Cx)(dv:List (Addr×Obj))(σ:St)(Q:List V->Hp->Prop)(us:List Value)(s':Shared):Prop:=∃vs H',Inv X dv σ H' s'/\Vals vs us/\Q vs H'
def SP (X:Cx)(dv:List (Addr×Obj))(D:Ga)(f:Flow)(s':Shared):Prop:=
 match f with
 | .next=>∃σ' H',Inv X dv σ' H' s'/\D.nx σ' H'
 | .brk=>∃σ' H',Inv X dv σ' H' s'/\D.bk σ' H'
 | .cont=>∃σ' H',Inv X dv σ' H' s'/\D.ct σ' H'
 | .ret u=>∃v σ' H',Inv X dv σ' H' s'/\RelV v u/\D.rt v H'
def PE (X:Cx)(e:Expr)(t:TE):Prop:=
 ∀(dv:List (Addr×Obj)) (s:Shared) (σ:St) (H:Hp) (Q:VK),Inv X dv σ H s->t σ H Q->wpAny (model X.prog X.w) X.A (eval e X.env) (EP X dv σ Q) X.xe s
def PT (X:Cx)(e:Expr)(t:TT):Prop:=
 ∀(dv:List (Addr×Obj)) (s:Shared) (σ:St) (H:Hp) (Q:Bool->Hp->Prop),Inv X dv σ H s->t σ H Q->wpAny (model X.prog X.w) X.A (isTrue e X.env (eval e X.env)) (TP X dv σ Q) X.xe s
def PW (X:Cx)(e:Expr)(t:TT):Prop:=
 ∀(FE:Sem Value) (dv:List (Addr×Obj)) (s:Shared) (σ:St) (H:Hp) (Q:Bool->Hp->Prop),Inv X dv σ H s->t σ H Q->wpAny (model X.prog X.w) X.A (isTrue e X.env FE) (TP X dv σ Q) X.xe s
def PW.pt {t:TT}(h:PW X e t):PT X e t:=h _
def PA (X:Cx)(es:List Expr)(t:TA):Prop:=
 ∀(pos:Pos) (dv:List (Addr×Obj)) (s:Shared) (σ:St) (H:Hp) (Q:List V->Hp->Prop),Inv X dv σ H s->t σ H Q->wpAny (model X.prog X.w) X.A (spliced (backTo pos (starEach es X.env))) (AP X dv σ Q) X.xe s
def PS (X:Cx)(st:Stmt)(t:TS):Prop:=
 ∀(dv:List (Addr×Obj)) (s:Shared) (σ:St) (H:Hp) (D:Ga),Inv X dv σ H s->t D σ H->wpAny (model X.prog X.w) X.A (exec st X.env) (SP X dv D) X.xe s
def PSs (X:Cx)(st:List Stmt)(t:TS):Prop:=
 ∀(dv:List (Addr×Obj)) (s:Shared) (σ:St) (H:Hp) (D:Ga),Inv X dv σ H s->t D σ H->wpAny (model X.prog X.w) X.A (execs st X.env) (SP X dv D) X.xe s
def thn {c:Type}{t:Sem c}{Q b:c->Shared->Prop}{M:Model}{A:Around}{E:Value->Shared->Prop}{s:Shared}(h:wpAny M A t Q E s)(d:∀a s,Q a s->b a s):wpAny M A t b E s:=CZ h d λ_ _ x=>x
section
variable {X:Cx}
inductive IC (i:Nat)(σ:St)(H:Hp)(Q:VK):Prop
 | mk (v:_) (c0:σ[i]? = some (some v)) (c1:Q v H):IC i σ H Q
def tC (v:V):TE:=λ_ H Q=>Q v H
def bY (w:X.N[i]? = some x)(p:SV X.env.scope x)(f:(x == ("__debug__" : Str))=false:=by decide)(g:(x == ("__classdict__" : Str))=false:=by decide):PE X (.Name x pos) (IC i):=by
 rintro d s o H Q I⟨v,e,h⟩;obtain⟨m,n,y⟩:=I.loc;obtain⟨u,r,l⟩:=y i x v w e p;have fin:EP X d o Q u s:=⟨v,H,I,r,h⟩;rcases l with⟨b,q⟩ | ⟨b,c,j,a⟩
 ·exact wpAny_Name (wpAny_loadName_local I.ok.kind b n q fin) f
 rcases b with b | b
 ·exact wpAny_Name (wpAny_loadName_cell I.ok.kind b j a fin) f
 exact wpAny_Name (wpAny_loadName_free I.ok.kind b j a fin g) f
def Ae {i j pos}:PE X (.Constant (.int i) j pos) (tC (.int i)):=λ_ _ _ H _ I h=>wpAny_Constant_int ⟨.int i,H,I.tok _,⟨_,U⟩,h⟩
def B8 {b j pos}:PE X (.Constant (.bool b) j pos) (tC (.bl b)):=λ_ _ _ H _ I h=>Constant_bool ⟨.bl b,H,I,U,h⟩
def Dc {j pos}:PE X (.Constant .none j pos) (tC .non):=λ_ _ _ H _ I h=>Constant_none ⟨.non,H,I,U,h⟩
def Aw {x j pos}:PE X (.Constant (.str x) j pos) (tC (.str x)):=λ_ _ _ H _ I h=>Calls.Constant_str ⟨.str x,H,I.tok _,⟨_,U⟩,h⟩
def Gl (X:Cx)(x:Str):Prop:=X.env.kindOf x=some .globalImplicit
def JB (I:Inv X dv σ H s)(a:Gl X x)(c:X.mg x=some u)(h:Q u s)
  (b:(x == ("__debug__" : Str))=false:=by decide):wpAny (model X.prog X.w) X.A (eval (.Name x pos) X.env) Q E s:=
 Calls.Name_function_global I.ok.kind a (Calls.loadGlobal_global (I.ok.glob▸I.mod.glob.keeps I.bk) c h) b
def JC {x:Str} (I:Inv X dv σ H s)(b:Gl X x)(f:X.mg x=none)(e:bootBuiltins x=some u)(h:Q u s)
  (c:x ≠ "__name__" := by decide)(d:(x == ("__debug__" : Str))=false:=by decide):wpAny (model X.prog X.w) X.A (eval (.Name x pos) X.env) Q E s:=by
 obtain⟨i,a,g⟩:=I.mod.blt
 exact Calls.Name_function_global I.ok.kind b (Calls.loadGlobal_builtin (I.ok.glob▸I.mod.glob.keeps I.bk) f (I.ok.blt▸a.keeps I.bk) ((g x c).trans e) h) d
def B7 (a:Gl X x)(c:X.mg x=some u)(r:RelV v u)(b:(x == ("__debug__" : Str))=false:=by decide):PE X (.Name x pos) (tC v):=
 λ_ _ _ H _ I h=>JB I a c ⟨v,H,I,r,h⟩ b
def cG {x:Str} (a:Gl X x)(e:X.mg x=none)(d:bootBuiltins x=some u)(r:RelV v u)(b:x ≠ "__name__" := by decide)(c:(x == ("__debug__" : Str))=false:=by decide):PE X (.Name x pos) (tC v):=
 λ_ _ _ H _ I h=>JC I a e d ⟨v,H,I,r,h⟩ b c
variable {a b:Expr}{ta tb:TE}{pos:Pos}
def PC (X:Cx)(op:CmpOp)(a b:Expr)(t:TE):Prop:=
 ∀(dv:List (Addr×Obj)) (s:Shared) (σ:St) (H:Hp) (Q:VK),Inv X dv σ H s->t σ H Q ->
  wpAny (model X.prog X.w) X.A (eval a X.env) (λv s₁=>wpAny (model X.prog X.w) X.A (eval b X.env) (λu s₂=>wpAny (model X.prog X.w) X.A (compareOp op v u) (EP X dv σ Q) X.xe s₂) X.xe s₁) X.xe s
inductive VF (Q:Bool->Hp->Prop)(x:V)(H1:Hp):Prop
 | mk (c:_) (c0:x=.bl c) (c1:Q c H1):VF Q x H1
def tB (t:TE):TT:=λσ H Q=>t σ H λx H1=>VF Q x H1
def Hr {t:TE}(h:PC X op a b t)(f:behindInMarks op b=false:=by first | exact nobehind _ Ξ Ξ | rfl):PT X (.Compare a [op] [b] pos) (tB t):=by intro e s j H Q I n;refine wpAny_isTrue_Compare1 (thn (h e s j H _ I n) λv r f=>thn f λu s2 m=>thn m λc s3 g=>?_) f;obtain⟨x,p,i,l,o⟩:=g;obtain⟨d,rfl,q⟩:=o;cases l;exact FV ⟨p,i,q⟩
def Ey {t:TE}(h:PE X e t)(o:∀FE,isTrue e X.env FE=(do let v <- FE;standAt e.pos;holding [v] (truthy v)):=by intro _;rfl):PT X e (tB t):=by intro c s i H Q I l;refine isTrue_plain (thn (h c s i H _ I l) λv p f=>?_) (o _);obtain⟨x,n,g,j,m⟩:=f;obtain⟨d,rfl,q⟩:=m;cases j;exact FV ⟨n,g,q⟩
variable {tA tB':TT}{rest:List Expr}
def YO (t u:TT):TT:=λσ H Q=>t σ H λc H1=>if c=true then u σ H1 Q else Q false H1
def Yp (t u:TT):TT:=λσ H Q=>t σ H λc H1=>if c=true then Q true H1 else u σ H1 Q
def Yr (t:TT):TT:=λσ H Q=>t σ H λc H1=>Q (!c) H1
def UN (f:PT X a tA):PW X (.BoolOp .And [a] pos) tA:=by
 intro j d s g H Q I h;refine isTrue_and (thn (f d s g H Q I h) λc i e=>?_);cases c with
 | true=>exact isTrue_and_nil e
 | false=>exact e
def Fg (f:PT X a tA):PW X (.BoolOp .Or [a] pos) tA:=by
 intro j d s g H Q I h;refine isTrue_or (thn (f d s g H Q I h) λc i e=>?_);cases c with
 | false=>exact isTrue_or_nil e
 | true=>exact e
def UO (n:PT X a tA)(m:PW X (.BoolOp .And (b::rest) pos) tB'):PW X (.BoolOp .And (a::b::rest) pos) (YO tA tB'):=by
 intro o d s j H Q I h;refine isTrue_and (thn (n d s j H _ I h) λc l e=>?_);obtain⟨g,i,f⟩:=e;cases c with
 | true=>exact m o d l j g Q i f
 | false=>exact⟨g,i,f⟩
def Ex (n:PT X a tA)(m:PW X (.BoolOp .Or (b::rest) pos) tB'):PW X (.BoolOp .Or (a::b::rest) pos) (Yp tA tB'):=by
 intro o d s j H Q I h;refine isTrue_or (thn (n d s j H _ I h) λc l e=>?_);obtain⟨g,i,f⟩:=e;cases c with
 | true=>exact⟨g,i,f⟩
 | false=>exact m o d l j g Q i f
def DV (f:PT X a tA):PT X (.UnaryOp .Not a pos) (Yr tA):=by intro d s g H Q I h;exact isTrue_not (f d s g H (λc e=>Q (!c) e) I h)
def YN (ta tb:TE):TE:=λσ H Q=>ta σ H λx H1=>∃c,x=.bl c/\if c=true then tb σ H1 Q else Q (.bl false) H1
def Yq (ta:TE):TE:=λσ H Q=>ta σ H λx H1=>∃c,x=.bl c/\Q (.bl (!c)) H1
def NQ {op}{t:TE}(h:PE X a t):PE X (.BoolOp op [a] pos) t:=λc s e H Q I d=>BoolOp_one (h c s e H Q I d)
def NR (o:PE X a ta)(m:PE X (.BoolOp .And (b::rest) pos) tb):PE X (.BoolOp .And (a::b::rest) pos) (YN ta tb):=by
 intro d s i H Q I h;refine BoolOp_and (thn (o d s i H _ I h) λv l f=>?_);obtain⟨x,j,g,n,e⟩:=f;obtain⟨c,rfl,e⟩:=e;cases n;apply FV;cases c with
 | true=>exact m d l i j Q g e
 | false=>exact⟨.bl false,j,g,U,e⟩
def UZ (m:PE X a ta):PE X (.UnaryOp .Not a pos) (Yq ta):=by intro d s i H Q I h;refine UnaryOp_ (thn (m d s i H _ I h) λv n f=>?_);obtain⟨x,l,g,j,e⟩:=f;obtain⟨c,rfl,e⟩:=e;cases j;exact not_of (FV ⟨.bl (!c),l,g,U,e⟩)
def YB (t:TT)(ta tb:TE):TE:=λσ H Q=>t σ H λc H1=>if c=true then ta σ H1 Q else tb σ H1 Q
def Jf (p:PT X c tA)(o:PE X a ta)(n:PE X b tb):PE X (.IfExp c a b pos) (YB tA ta tb):=by
 intro e s g H Q I h;refine wpAny_IfExp (thn (p e s g H _ I h) λd j f=>?_);obtain⟨l,m,i⟩:=f;cases d with
 | true=>exact o e j g l Q m i
 | false=>exact n e j g l Q m i
end
def SqL (K:W.Frag)(H:Hp)(a:Addr)(xs:List V):Prop:=
 Rd H a (.lst xs) \/
  ∃(o:Obj) (its:Array Value) (n:Nat),K.lookup a=some o/\o.cls=.type "list" /\ o.dict=none/\o.data=.seq its n/\its.size<=sizeLine/\Vals xs its.toList
def SqT (K:W.Frag)(H:Hp)(a:Addr)(xs:List V):Prop:=
 Rd H a (.tup xs) \/
  ∃(o:Obj) (its:Array Value) (n:Nat),K.lookup a=some o/\o.cls=.type "tuple" /\ o.data=.seq its n/\its.size<=sizeLine/\Vals xs its.toList
def DS:Value->Option V
 | .none=>some .non
 | .bool b=>some (.bl b)
 | .int i _=>some (.int i)
 | .str x _=>some (.str x)
 | .bytes b _=>some (.byt b)
 | .float b _=>some (.flt b)
 | .ref a=>some (.ref a)
 | .type n=>some (.ty n)
 | _=>none
def RelV.abs (r:RelV x u):DS u=some x:=by
 cases x with
 | non=>cases r;rfl
 | bl _=>cases r;rfl
 | int _=>obtain⟨t,rfl⟩:=r;rfl
 | str _=>obtain⟨t,rfl⟩:=r;rfl
 | byt _=>obtain⟨t,rfl⟩:=r;rfl
 | flt _=>obtain⟨t,rfl⟩:=r;rfl
 | ref _=>cases r;rfl
 | ty _=>cases r;rfl
def RelV.inj (r:RelV x u)(q:RelV y u):x=y:=BG (r.abs.symm.trans q.abs)
def Vals.inj:∀{xs ys:List V}{us:List Value},Vals xs us->Vals ys us->xs=ys:=by
 intro x y u a b;induction a generalizing y with
 | nil=>cases b;rfl
 | cons r t i=>cases b with|cons q s=>rw[r.inj q,i s]
section
variable {X:Cx}{dv:List (Addr×Obj)}{σ:St}{H:Hp}{s:Shared}{a:Addr}{xs ys:List V}
def SqL.of {K:W.Frag}(h:H a=some (.lst xs)):SqL K H a xs:=.inl (.inl h)
def SqT.of {K:W.Frag}(h:H a=some (.tup xs)):SqT K H a xs:=.inl (.inl h)
def Inv.list (I:Inv X dv σ H s)(h:SqL X.K H a xs):∃b:List Value,Vals xs b/\PlainL s.heap a b.toArray/\xs.length<=sizeLine:=by
 rcases h with h | ⟨o,b,n,hk,hc,hd,hs,hz,r⟩
 ·obtain⟨z,b,n,r,e⟩:=h.ok I.hok;exact⟨b,r,⟨_,n,e,U,U,U⟩,z⟩
 refine⟨b.toList,r,⟨o,n,I.kIn a o hk,hc,hd,by simpa using hs⟩,?_⟩;have e:=r.length;simp[DF]at e;lia
def Inv.tuple (I:Inv X dv σ H s)(h:SqT X.K H a xs):∃b:List Value,Vals xs b/\IsTup s.heap a b.toArray/\xs.length<=sizeLine:=by
 rcases h with h | ⟨o,b,n,hk,hc,hs,hz,r⟩
 ·obtain⟨z,b,r,p⟩:=h.ok I.hok;exact⟨b,r,p,z⟩
 refine⟨b.toList,r,⟨o,I.kIn a o hk,hc,n,by simpa using hs⟩,?_⟩;have e:=r.length;simp[DF]at e;lia
def Inv.list_inj (I:Inv X dv σ H s)(h:SqL X.K H a xs)(h':SqL X.K H a ys):xs=ys:=by
 obtain⟨b,r,⟨o,n,e,_,_,d⟩,_⟩:=I.list h;obtain⟨its',f,⟨i,g,c,_,_,d'⟩,_⟩:=I.list h';rw[e]at c;cases c;rw[d]at d';injection d' with d1 _;have:b=its':=by simpa using BQ Array.toList d1
 subst this;exact r.inj f
def Inv.tuple_inj (I:Inv X dv σ H s)(h:SqT X.K H a xs)(h':SqT X.K H a ys):xs=ys:=by
 obtain⟨b,r,⟨o,e,_,n,d⟩,_⟩:=I.tuple h;obtain⟨its',f,⟨i,c,_,g,d'⟩,_⟩:=I.tuple h';rw[e]at c;cases c;rw[d]at d';injection d' with d1 _;have:b=its':=by simpa using BQ Array.toList d1
 subst this;exact r.inj f
end
abbrev Cx.wish (X:Cx)(E:Value->Shared->Prop):Cx:={ X with xe:=E }
abbrev Cx.nox (X:Cx):Cx:=X.wish λ_ _=>False
def Cx.Ok.wish {X:Cx}(ok:X.Ok)(E:Value->Shared->Prop):(X.wish E).Ok:=
 ⟨ok.mod,ok.kind,ok.glob,ok.blt,ok.above,ok.inj,ok.has,ok.cab,ok.hd,ok.frames,ok.stk,ok.exf,ok.bs,ok.bsz,ok.noex,ok.exfs,ok.funs,ok.frf⟩
def Cx.Ok.unwish {X:Cx}{E:Value->Shared->Prop}(ok:(X.wish E).Ok):X.Ok:=
 ⟨ok.mod,ok.kind,ok.glob,ok.blt,ok.above,ok.inj,ok.has,ok.cab,ok.hd,ok.frames,ok.stk,ok.exf,ok.bs,ok.bsz,ok.noex,ok.exfs,ok.funs,ok.frf⟩
section
variable {X:Cx}{dv:List (Addr×Obj)}{σ:St}{H:Hp}{s:Shared}{E:Value->Shared->Prop}
def Inv.wish (I:Inv X dv σ H s)(E:Value->Shared->Prop):Inv (X.wish E) dv σ H s:=⟨I.ok.wish E,I.os,I.bare,I.base,I.loc,I.cell,I.free,I.freeC,I.pin,I.hok,I.len⟩
def Inv.unwish (I:Inv (X.wish E) dv σ H s):Inv X dv σ H s:=⟨I.ok.unwish,I.os,I.bare,I.base,I.loc,I.cell,I.free,I.freeC,I.pin,I.hok,I.len⟩
def SP.unwish (h:SP (X.wish E) dv D f s'):SP X dv D f s':=by
 cases f with
 | next=>obtain⟨a,H',I,q⟩:=h;exact⟨a,H',I.unwish,q⟩
 | brk=>obtain⟨a,H',I,q⟩:=h;exact⟨a,H',I.unwish,q⟩
 | cont=>obtain⟨a,H',I,q⟩:=h;exact⟨a,H',I.unwish,q⟩
 | ret u=>obtain⟨v,a,H',I,r,q⟩:=h;exact⟨v,a,H',I.unwish,r,q⟩
def PSs.nox {st:List Stmt}{t:TS}(h:PSs X.nox st t):PSs X st t:=λdv s σ H D I a=>CZ (h dv s σ H D (I.wish _) a) (λ_ _ q=>q.unwish) λ_ _ z=>False.elim z
end
section
variable {X:Cx}{st:Stmt}{rest:List Stmt}{t u:TS}{e:Expr}{te:TE}{pos:Pos}
def Kv:TS:=λD σ H=>D.nx σ H
def TN (t u:TS):TS:=λD σ H=>t { D with nx:=u D } σ H
def AK:PSs X [] Kv:=λ_ _ a H _ I h=>OE ⟨a,H,I,h⟩
def Ah (c:PS X st t)(j:PSs X rest u):PSs X (st::rest) (TN t u):=by
 intro a s i H D I h;refine wpAny_execs_cons (thn (c a s i H { D with nx:=u D } I h) λf d q=>?_);cases f with
 | next=>obtain⟨b,H',g,q⟩:=q;exact j a d b H' D g q
 | ret v=>exact q
 | brk=>exact q
 | cont=>exact q
def Am (b:PS X st t):PSs X [st] t:=by
 intro a s c H D I h;refine wpAny_execs_cons (thn (b a s c H D I h) λf d q=>?_);cases f with
 | next=>exact OE q
 | ret v=>exact q
 | brk=>exact q
 | cont=>exact q
def Inv.quiet (I:Inv X dv σ H s):interactive X.env=false:=by simp[interactive,I.ok.kind]
def YE (te:TE):TS:=λD σ H=>te σ H λ_ H1=>D.nx σ H1
def BY (i:PE X e te)(j:swapsWith e none pos.line X.env=pure false:=by rfl):PS X (.Expr e pos) (YE te):=by intro a s c H D I h;exact wpAny_Expr_any (thn (i a s c H _ I h) λv l b=>by obtain⟨x,f,g,m,d⟩:=b;exact⟨c,f,g,d⟩) I.quiet j
def Pm (te:TE):TS:=λD σ H=>te σ H D.rt
def AC (i:PE X e te):PS X (.Return (some e) pos) (Pm te):=by intro a s c H D I h;exact wpAny_Return_some (thn (i a s c H _ I h) λv l b=>by obtain⟨x,f,g,j,d⟩:=b;exact⟨x,c,f,g,j,d⟩)
def YA (c:TT)(t u:TS):TS:=λD σ H=>c σ H λb H1=>if b=true then t D σ H1 else u D σ H1
def AL (q:PT X c tc)(p:PSs X a t)(o:PSs X b u):PS X (.If c a b pos) (YA tc t u):=by
 intro f s i H D I h;refine wpAny_If (thn (q f s i H _ I h) λd l g=>?_);obtain⟨m,n,j⟩:=g;cases d with
 | true=>exact p f l i m D n j
 | false=>exact o f l i m D n j
def TR:TS:=λ_ _ _=>False
def QM:PS X st TR:=λ_ _ _ _ _ _ h=>h.elim
def Cu :PSs X sts TR:=λ_ _ _ _ _ _ h=>h.elim
end
abbrev TG:=V->St->Hp->(St->Hp->Prop)->Prop
abbrev Kk:=List V->St->Hp->(St->Hp->Prop)->Prop
def PG (X:Cx)(target:Expr)(t:TG):Prop:=
 ∀(dv:List (Addr×Obj)) (s:Shared) (σ:St) (H:Hp) (v:V) (u:Value) (Q:St->Hp->Prop),Inv X dv σ H s->RelV v u->t v σ H Q ->
  wpAny (model X.prog X.w) X.A (assign target X.env u) (λ_ s'=>∃σ' H',Inv X dv σ' H' s'/\Q σ' H') X.xe s
def Pa (X:Cx)(ts:List Expr)(t:Kk):Prop:=
 ∀(dv:List (Addr×Obj)) (s:Shared) (σ:St) (H:Hp) (vs:List V) (us:List Value) (Q:St->Hp->Prop),Inv X dv σ H s->Vals vs us->t vs σ H Q ->
  wpAny (model X.prog X.w) X.A (assignInOrder ((assignEach ts X.env).map (·.2)) us) (λ_ s'=>∃σ' H',Inv X dv σ' H' s'/\Q σ' H') X.xe s
section
variable {X:Cx}{pos:Pos}
def E4 (i:Nat):TG:=λv σ H Q=>Q (σ.set i (some v)) H
def bX (c:X.N.Nodup)(b:X.N[i]? = some x)(e:Kp X.env.scope x)(f:X.fn x=true\/X.env.scope.names.lookup x=some .local:=by first | exact .inl U | exact .inr U | assumption):PG X (.Name x pos) (E4 i):=by intro a s g H v u Q I r h;exact wpAny_assign_Name (Pp I c b e r (λs' d=>⟨_,H,d,h⟩) f)
def Rj:Kk:=λvs σ H Q=>vs=[]/\Q σ H
inductive JH (t:TG)(u:Kk)(vs:List V)(σ:St)(H:Hp)(Q:St->Hp->Prop):Prop
 | mk (v:_) (r:_) (c0:vs=v::r) (c1:t v σ H λσ' H'=>u r σ' H' Q):JH t u vs σ H Q
def Ht:Pa X [] Rj:=by rintro a s b H vs us Q I r⟨e,h⟩;subst e;cases r;exact assignInOrder_nil ⟨b,H,I,h⟩
def Dw {t:TG} (m:PG X e t)(j:Pa X es u)
  (o:(assignEach (e::es) X.env).map (·.2)=assign e X.env::(assignEach es X.env).map (·.2):=by rfl):Pa X (e::es) (JH t u):=by
 intro a s i H vs us Q I r h
 obtain⟨v,p,d,h⟩:=h
 subst d
 cases r with
 | cons r rr=>rw[o];refine assignInOrder_cons (thn (m a s i H _ _ _ I r h) λ_ f b=>?_);obtain⟨c,n,g,l⟩:=b;exact j a f c n _ _ Q g rr l
inductive JG (K:W.Frag)(n:Nat)(t:Kk)(v:V)(σ:St)(H:Hp)(Q:St->Hp->Prop):Prop
 | mk (a:_) (xs:_) (c0:v=.ref a) (c1:SqT K H a xs) (c2:xs.length=n) (c3:t xs σ H Q):JG K n t v σ H Q
def Hu {k:Nat}{t:Kk} (w:X.calm=true)(h:Pa X es t)
  (m:(assignEach es X.env).length=n:=by rfl)(d:(assignEach es X.env).findIdx? (·.1)=none:=by rfl):PG X (.Tuple es k pos) (JG X.K n t):=by
 intro c s p H v u Q I r f
 obtain⟨a,xs,j,i,y,f⟩:=f
 subst j
 cases r
 obtain⟨l,g,q,z⟩:=I.tuple i
 refine assign_Tuple_tuple (I.ok.hd w) q (by simp[m,<- y,g.length]) d λh' x=>?_
 exact h c _ p H xs _ Q (I.kept (t':=s.toks) λb o e=>x b o (Bk (A0 e)) e) (by simpa using g) f
def Po (te:TE)(g:TG):TS:=λD σ H=>te σ H λx H1=>g x σ H1 D.nx
def bB (p:PE X e te)(i:PG X tg g)(r:swapsWithSole [tg] e pos.line X.env=pure false:=by rfl)(l:swappedStores [tg] e X.env=pure none:=by rfl)
  (n:(assignEach [tg] X.env).map (·.2)=[assign tg X.env]:=by rfl):PS X (.Assign [tg] e pos) (Po te g):=by
 intro a s c H D I h
 refine wpAny_Assign_stores (thn (p a s c H _ I h) λv d b=>?_) r l
 obtain⟨x,o,f,j,m⟩:=b
 rw[n]
 exact thn (i a d c o x v _ f j m) λ_ s2 q=>q
def Gq (n:X.N.Nodup)(c:X.N[i]? = some x)(o:Kp X.env.scope x)(p:PE X e te)(q:swapsWith e (some (.Name x pos')) pos.line X.env=pure false:=by rfl)(r:X.fn x=true\/X.env.scope.names.lookup x=some .local:=by first | exact .inl U | exact .inr U | assumption) :
  PS X (.Assign [.Name x pos'] e pos) (Po te (E4 i)):=by
 intro a s f H D I h
 refine wpAny_Assign_Name (thn (p a s f H _ I h) λv u b=>?_) q
 obtain⟨y,m,d,g,j⟩:=b
 exact Pp d n c o g (λs2 l=>⟨_,m,l,j⟩) r
end
section
variable {X:Cx}{pos:Pos}
def Yj (c:TT)(tb:TS):TS:=λD σ H=>∃W:Nat->St->Hp->Prop,(∃m,W m σ H)/\∀m σ H,W m σ H ->
 c σ H λb H1=>if b=true then ∃N:St->Hp->Prop,(∀σ' H',N σ' H'->∃m',m'<m/\W m' σ' H')/\tb { D with nx:=N,ct:=N,bk:=D.nx } σ H1 else D.nx σ H1
def aY (A:PassesOwn (model X.prog X.w) X.A X.env X.xe)(M:PT X c tc)(B:PSs X body tb):PS X (.While c body [] pos) (Yj tc tb):=by
 rintro a s F H D I⟨W,⟨E,L⟩,g⟩;refine wpAny_While (codeAny_whileLoop (λn s'=>∃h H',Inv X a h H' s'/\W n h H') ?_ E ⟨F,H,I,L⟩);rintro n G ⟨e,w,C,K⟩;refine Ii A (thn (M a G e w _ C (g n e w K)) λb s2 p=>?_);obtain⟨y,z,j⟩:=p;cases b with
 | true=>
  obtain⟨N,x,j⟩:=j;rw[Ar rfl];refine Ii A (thn (B a s2 e y _ z j) λf s3 l=>?_);cases f with
  | next=>obtain⟨d,i,r,u⟩:=l;obtain⟨q,o,m⟩:=x d i u;exact⟨q,o,d,i,r,m⟩
  | cont=>obtain⟨d,i,r,u⟩:=l;obtain⟨q,o,m⟩:=x d i u;exact⟨q,o,d,i,r,m⟩
  | brk=>exact l
  | ret v=>exact l
 | false=>rw[Ak BO];exact OE ⟨e,y,z,j⟩
end
structure It where
 go:Nat->Hp->Prop
 yld:Nat->Hp->V->Hp->Prop
 stop:Nat->Hp->Prop
def FpOk (X:Cx)(dv:List (Addr×Obj))(H:Hp)(b:Addr):Prop:=
 H b=none/\b≠X.env.locals/\b∉X.fs/\(b∈X.ex\/X.s₀.heap.objs.size<=b)/\(∀x c,X.env.cells.lookup x=some c->c≠b)/\∀p∈X.pn++dv,p.1≠b
def Inv.fpOk (I:Inv X dv σ H s)(a:s.heap.objs.size<=b)(f:H' b=none):FpOk X dv H' b:=by
 refine⟨f,Fc (CJ I.lt a),I.nofs a,.inr (Er I.sz a),λx c e z=>?_,λp d z=>?_⟩
 ·obtain⟨v,q⟩:=I.cell x c e;exact absurd (CJ q.lt (z▸a)) (DY _)
 exact absurd (CJ (A0 (I.pin p d).1) (z▸a)) (DY _)
structure F8 (P:Program)(w:World)(K:W.Frag)(tg:Expr)(J:It)(fp:List Addr)(it:Addr)(tn:Nat->Heap->Prop):Prop where
 mem:it∈fp
 obj:∀i h,tn i h->∀b∈fp,∃o,h.get? b=some o/\∀v,o.data≠.cell v
 keep:∀i h h',tn i h->(∀b∈fp,∀o,h.get? b=some o->h'.get? b=some o)->tn i h'
 item:∀(X:Cx),X.prog=P->X.w=w->X.K=K->X.calm=true->∀(i:Nat) (dv:List (Addr×Obj)) (s:Shared) (σ:St) (H:Hp) (E:Value->Shared->Prop),Inv X dv σ H s->(∀b∈fp,FpOk X dv H b)->tn i s.heap->J.go i H ->
  wpAny (model P w) X.A (pyNext (.ref it)) (λr s1=>∃u,r=some u /\
   wpAny (model P w) X.A (letOwnedTupleGo tg (.ref it) u) (λ_ s2=>∃x H',Inv X dv σ H' s2/\RelV x u/\J.yld i H x H'/\tn (i+1) s2.heap/\∀b∈fp,H' b=none) E s1) E s
 done:∀(X:Cx),X.prog=P->X.w=w->X.K=K->X.calm=true->∀(i:Nat) (dv:List (Addr×Obj)) (s:Shared) (σ:St) (H:Hp) (E:Value->Shared->Prop),Inv X dv σ H s->(∀b∈fp,FpOk X dv H b)->tn i s.heap->J.stop i H ->
  wpAny (model P w) X.A (pyNext (.ref it)) (λr s1=>r=none/\Inv X dv σ H s1) E s
 self:∀(A:Around) (i:Nat) (s:Shared) (Q:Value->Shared->Prop) (E:Value->Shared->Prop),tn i s.heap->Q (.ref it) s->wpAny (model P w) A (pyIter (.ref it)) Q E s
abbrev TI:=St->Hp->(It->Hp->Prop)->Prop
def Xz (X:Cx)(dv:List (Addr×Obj))(σ:St)(tg:Expr)(R:It->Hp->Prop)(itv:Value)(s2:Shared):Prop:=
 ∃(it:Addr) (fp:List Addr) (tn:Nat->Heap->Prop) (J:It) (H':Hp),itv=.ref it/\Inv X dv σ H' s2/\F8 X.prog X.w X.K tg J fp it tn/\tn 0 s2.heap/\(∀b∈fp,FpOk X dv H' b)/\R J H'
def PI (X:Cx)(tg iter:Expr)(wi:TI):Prop:=
 ∀(dv:List (Addr×Obj)) (s:Shared) (σ:St) (H:Hp) (R:It->Hp->Prop),Inv X dv σ H s->wi σ H R ->
  wpAny (model X.prog X.w) X.A (eval iter X.env) (λv s1=>wpAny (model X.prog X.w) X.A (pyIter v) (Xz X dv σ tg R) X.xe s1) X.xe s
def LJ (e:s.heap.get? it=some o)(d:o.cls=.type n)(c:o.data=.fields vs)
  (b:["enumerate", "zip", "dict_itemiterator", "dict_reverseitemiterator", "odict_iterator", "itertools.zip_longest", "itertools.pairwise"].contains n=false)(a:Q () s):wpAny M A (letOwnedTupleGo tg (.ref it) u) Q E s:=by
 cases tg <;> first
  | exact Aj a
  | (cases u <;> first
    | exact Aj a
    | (refine Ac (wpAny_load e ?_)
       rw[d,c]
       show wpAny M A (if (["enumerate", "zip", "dict_itemiterator", "dict_reverseitemiterator", "odict_iterator", "itertools.zip_longest", "itertools.pairwise"].contains n && vs[0]? == some (rawInt _))=true then _ else _) Q E s
       rw[Ak (by intro h;rw[b,Bool.false_and]at h;cases h)]
       exact Aj a))
def Mt (K:W.Frag)(a:Addr):It:=
 ⟨λi H=>∃xs x,SqL K H a xs/\xs[i]? = some x,λi H x H'=>H'=H/\∀xs,SqL K H a xs->xs[i]? = some x,λi H=>∃xs,SqL K H a xs/\xs.length<=i⟩
def Iq (lo:Int)(n:Nat):It:=⟨λi _=>i<n,λi H x H'=>H'=H/\x=.int (lo+i),λi _=>n<=i⟩
theorem Yc {P:Program}{w:World}{K:W.Frag}{T:Expr}(a it:Addr):F8 P w K T (Mt K a) [it] it (λi h=>h.IsListIter it a i) where
 mem:=by simp
 obj:=λi h st b f=>by
  have e:b=it:=by simpa using f
  subst e;obtain⟨o,e,c,d⟩:=st;exact⟨o,e,λv z=>by rw[d]at z;cases z⟩
 keep:=λi h h' st k=>st.at λo e=>k it Θ o e
 item:=by intro X B C q F i j s L H E I l st r;subst B C q;obtain⟨xs,x,m,D⟩:=r;obtain⟨n,A,p,S⟩:=I.list m;obtain⟨u,N,Q⟩:=A.get D;obtain⟨y,f1,f2,f3,f4,f5⟩:=l it Θ;refine wpAny_pyNext_list_item st p.isList (by simpa using N) λh' g G=>?_;obtain⟨o,e,c,d⟩:=id g;exact⟨u,U,LJ e c d Ξ ⟨x,H,I.turned (t':=s.toks) (λb o f e=>(G.2 b f).trans e) y f1 f3 f4 f5,Q,⟨U,λys M=>by rw[I.list_inj M m];exact D⟩,g,λb f=>(l b f).1⟩⟩
 done:=by intro X B C q F i j s L H E I l st r;subst B C q;obtain⟨xs,m,D⟩:=r;obtain⟨n,A,p,S⟩:=I.list m;obtain⟨y,f1,f2,f3,f4,f5⟩:=l it Θ;have hl:=A.length;exact wpAny_pyNext_list_end (I.ok.hd F) st p.isList (by simp;lia) λh' R=>⟨U,I.turned (λb o f e=>R b o f e) y f1 f3 f4 f5⟩
 self:=λ_ _ _ _ _ st h=>wpAny_pyIter_listiter st h
theorem Yb {P:Program}{w:World}{K:W.Frag}{C:Expr}(it:Addr)(lo:Int)(n:Nat):F8 P w K C (Iq lo n) [it] it (λi h=>IsRangeIter h it (lo+(i:Nat)*1) ((n:Int)-(i:Nat)) 1) where
 mem:=by simp
 obj:=λi h st b c=>by
  have e:b=it:=by simpa using c
  subst e;exact⟨_,st,λv z=>by have x:Data.fields _=Data.cell v:=z;cases x⟩
 keep:=λi h h' st k=>k it Θ _ st
 item:=by intro X m p g q i a s r H E I f st j;subst m p g;obtain⟨l,f1,f2,f3,f4,f5⟩:=f it Θ;have W:=Walks.range (prog:=X.prog) (w:=X.w) (I.ok.hd q) it lo 1 n;refine W.item i s _ _ j st λv h' tk y d A=>?_;obtain⟨t,rfl⟩:=y;have u:Inv X a r H { s with heap:=h',toks:=tk }:=I.turned (λb o c e=>A b o (by simpa using c) e) l f1 f3 f4 f5;refine⟨_,U,LJ (s:={ s with heap:=h',toks:=tk }) (n := "range_iterator") d U U Ξ ⟨.int (lo+i),H,u,⟨t,?_⟩,⟨U,U⟩,d,λb c=>(f b c).1⟩⟩;rw[Int.mul_one]
 done:=by intro X m p g q i a s r H E I f st j;subst m p g;obtain⟨l,f1,f2,f3,f4,f5⟩:=f it Θ;exact wpAny_pyNext_range_end (I.ok.hd q) st (by have:n<=i:=j;lia) λh' B=>⟨U,I.turned (t':=s.toks) (λb o c e=>B b o c e) l f1 f3 f4 f5⟩
 self:=λ_ _ _ _ _ st h=>wpAny_pyIter_rangeiter st h
section
variable {X:Cx}{tg:Expr}
def nX (K:W.Frag)(tl:TE):TI:=λσ H R=>tl σ H λx H1=>∃a,x=.ref a/\(∃xs,SqL K H1 a xs)/\R (Mt K a) H1
def BS (w:PE X l tl):PI X tg l (nX X.K tl):=by
 intro c s m H R I h;refine thn (w c s m H _ I h) ?_;rintro v f⟨x,u,d,n,r⟩;obtain⟨a,e,⟨xs,g⟩,q⟩:=r;subst e;cases n;obtain⟨i,z,p,y⟩:=d.list g;apply Me p.isList;refine⟨f.heap.objs.size,[f.heap.objs.size],_,_,u,U,d.kept λb o e=>AV _ e,Yc a _,⟨_,Bs _ U,U,U⟩,λb j=>?_,q⟩;have e:b=f.heap.objs.size:=by simpa using j
 subst e;exact d.fpOk (An _) (d.hok.fresh (An _))
def UG {lo:Int}{t:Tok}{tk:Nat}(I:Inv X dv σ H s)(f:-(2^62)<=lo)(i:lo<2^62)(g:-(2^62)<=hi)(j:hi<2^62)
  (q:R (Iq lo (hi-lo).toNat) H):wpAny (model X.prog X.w) X.A (pyIter (.ref s.heap.objs.size)) (Xz X dv σ tg R) E { s with heap:=s.heap.push { cls:=.type "range",data:=.fields #[.int lo t,.int hi u,.int 1 v] },toks:=tk }:=by
 refine wpAny_pyIter_range (IsRange.new ..) (small_one f i g j) ?_
 have a:Inv X dv σ H { s with heap:=s.heap.push { cls:=.type "range",data:=.fields #[.int lo t,.int hi u,.int 1 v] },toks:=tk }:=I.kept λb o e=>AV _ e
 refine⟨(s.heap.push { cls:=.type "range",data:=.fields #[.int lo t,.int hi u,.int 1 v] }).objs.size,[(s.heap.push { cls:=.type "range",data:=.fields #[.int lo t,.int hi u,.int 1 v] }).objs.size],_,_,H,U,a.kept (t':=tk) λb o e=>AV _ e,Yb _ lo (hi-lo).toNat,?_,λb h=>?_,q⟩
 ·have c:lo+((0:Nat):Int)*1=lo:=by simp
  have d:(((hi-lo).toNat:Nat):Int)-((0:Nat):Int)=Builtin.Range.rangeSize lo hi 1:=by rw[rangeSize_one];split <;> lia
  show IsRangeIter _ _ (lo+((0:Nat):Int)*1) ((((hi-lo).toNat:Nat):Int)-((0:Nat):Int)) 1;rw[c,d];exact Bs _ U
 have e:b=(s.heap.push { cls:=.type "range",data:=.fields #[.int lo t,.int hi u,.int 1 v] }).objs.size:=by simpa using h
 subst e
 exact a.fpOk (An _) (a.hok.fresh (An _))
def nW (ta:TA):TI:=λσ H R=>ta σ H λvs H1=>∃j:Int,vs=[.int j]/\-(2^62)<=j/\j<2^62/\R (Iq 0 j.toNat) H1
def nT (ta:TA):TI:=λσ H R=>ta σ H λvs H1=>∃i j:Int,vs=[.int i,.int j]/\(-(2^62)<=i/\i<2^62/\-(2^62)<=j/\j<2^62)/\R (Iq i (j-i).toNat) H1
def EB (g:Gl X "range")(m:X.mg "range" = none)(o:PA X [a] ta)(u:starEach [a] X.env=[(false,eval a X.env)]:=by rfl):PI X tg (.Call (.Name "range" p) [a] [] pos) (nW ta):=by
 intro b s l H R I h;refine Call_ (JC I g m boot_range (O3 (thn (o pos b s l H _ I h) λus v d=>?_) u U));obtain⟨vs,w,f,n,c⟩:=d;obtain⟨j,e,c,i,q⟩:=c;subst e;cases n with
 | cons r rr=>cases rr;obtain⟨t,rfl⟩:=r;exact call_range_1 (UG f Ψ Ψ c i (by simpa using q))
def bW (m:Gl X "range")(u:X.mg "range" = none)(x:PA X [a,b] ta)(z:starEach [a,b] X.env=[(false,eval a X.env),(false,eval b X.env)]:=by rfl)(c:starEach [b] X.env=[(false,eval b X.env)]:=by rfl) :
  PI X tg (.Call (.Name "range" p) [a,b] [] pos) (nT ta):=by
 intro d s o H R I h
 refine Call_ (JC I m u boot_range (O3 (thn (x pos d s o H _ I h) λus A g=>?_) (by rw[z,c]) (by rw[c];rfl)))
 obtain⟨vs,B,l,v,f⟩:=g
 obtain⟨i,j,e,⟨f,n,w,y⟩,q⟩:=f
 subst e
 cases v with
 | cons r rr=>
  cases rr with
  | cons r' rr=>cases rr;obtain⟨t,rfl⟩:=r;obtain⟨t',rfl⟩:=r';exact call_range_2 (UG l f n w y q)
def YC (wi:TI)(g:TG)(tb:TS):TS:=λD σ H=>wi σ H λJ H1=>∃W:Nat->Nat->St->Hp->Prop,(∃m,W 0 m σ H1)/\∀i m σ H,W i m σ H ->
 (J.stop i H/\D.nx σ H)\/(J.go i H/\∃N:St->Hp->Prop,(∀σ' H',N σ' H'->∃m',m'<m/\W (i+1) m' σ' H')/\∀x H',J.yld i H x H'->g x σ H' λσ2 H2=>tb { D with nx:=N,ct:=N,bk:=D.nx } σ2 H2)
def K5 (fp:List Addr)(h:Heap):List (Addr×Obj):=fp.filterMap λb=>(h.get? b).map λo=>(b,o)
def N4 (a:b∈fp)(e:h.get? b=some o):(b,o)∈K5 fp h:=mem_filterMap.mpr ⟨b,a,by rw[e];rfl⟩
def iE (c:p∈K5 fp h):p.1∈fp/\h.get? p.1=some p.2:=by
 obtain⟨b,a,e⟩:=mem_filterMap.mp c;cases q:h.get? b with
 | none=>rw[q]at e;cases e
 | some o=>rw[q]at e;have d:=BG e;subst d;exact⟨a,q⟩
def Inv.pinned (I:Inv X dv σ H s)(i:∀b∈fp,FpOk X dv H b)(f:∀b∈fp,∃o,s.heap.get? b=some o/\∀v,o.data≠.cell v):Inv X (dv++K5 fp s.heap) σ H s:=
 I.pins_of λp h=>(BF.mp h).elim (λz=>I.pin p (En _ z)) λz=>by obtain⟨a,e⟩:=iE z;obtain⟨g,f1,f2,_⟩:=i p.1 a;obtain⟨o,c,d⟩:=f p.1 a;rw[e]at c;cases c;exact⟨e,g,f1,f2,d⟩
def Inv.unpinned (I:Inv X (dv++pl) σ H s):Inv X dv σ H s:=I.pins_of λp a=>I.pin p (En _ (Hc _ a))
def Cg (Q:PassesOwn (model X.prog X.w) X.A X.env X.xe)(hc:X.calm=true)(hi:PI X tg iter wi)(hg:PG X tg g)(p:PSs X body tb)
  (hs:∀x,foldedSetIterable iter X.env x=pure x:=by intro _;rfl):PS X (.For tg iter body [] pos) (YC wi g tb):=by
 intro j s σ H D I h
 refine wpAny_For (thn (hi j s σ H _ I h) λv s1 h1=>thn h1 λa2 s2 h2=>?_) hs
 obtain⟨it,F,tn,a,H2,e,I2,T,S,f2,W,⟨m0,w0⟩,K⟩:=h2
 subst e
 have y:∀{H':Hp},(∀b∈F,H' b=none)->∀b∈F,FpOk X j H' b:=λhn b p=>⟨hn b p,(f2 b p).2⟩
 refine codeAny_forLoop_any (λn s'=>∃i w H',Inv X j w H' s'/\tn i s'.heap/\(∀b∈F,H' b=none)/\W i n w H') ?_ m0 ⟨0,σ,H2,I2,S,λb p=>(f2 b p).1,w0⟩
 rintro n s3 ⟨i,B,R,I3,M,L,w3⟩
 rcases K i n B R w3 with⟨G,qn⟩ | ⟨go,N,hN,step⟩
 ·refine Ii Q (thn (T.done X U U U hc i j s3 B R X.xe I3 (y L) M G) λr s4 l=>?_);obtain⟨hr,I4⟩:=l;subst hr;exact OE ⟨B,R,I4,qn⟩
 refine Ii Q (thn (T.item X U U U hc i j s3 B R X.xe I3 (y L) M go) λr s4 l=>?_)
 obtain⟨u,hr,h4⟩:=l
 subst hr
 refine Ii Q (thn h4 λ_ s5 l=>?_)
 obtain⟨x,H5,I5,r5,y5,E,a1⟩:=l
 refine Ii Q (thn (hg _ s5 B H5 x u _ (I5.pinned (y a1) (T.obj _ _ E)) r5 (step x H5 y5)) λ_ s6 l=>?_)
 obtain⟨a0,H6,I6,q6⟩:=l
 refine Ii Q (thn (p _ s6 a0 H6 _ I6 q6) λf s7 C=>?_)
 have z:∀{c:St}{q:Hp},Inv X (j++K5 F s5.heap) c q s7->N c q->∃m,m<n/\∃i w H',Inv X j w H' s7/\tn i s7.heap/\(∀b∈F,H' b=none)/\W i m w H':=λ{c q} A P=>by obtain⟨m',hm,w7⟩:=hN c q P;refine⟨m',hm,i+1,c,q,A.unpinned,T.keep _ _ _ E λb p o e=>(A.pin (b,o) (En _ (En _ (N4 p e)))).1,λb p=>?_,w7⟩;obtain⟨o,e,d⟩:=T.obj _ _ E b p;exact(A.pin (b,o) (En _ (En _ (N4 p e)))).2.1
 cases f with
 | next=>obtain⟨c,q,A,P⟩:=C;exact z A P
 | cont=>obtain⟨c,q,A,P⟩:=C;exact z A P
 | brk=>obtain⟨c,q,A,C⟩:=C;exact⟨c,q,A.unpinned,C⟩
 | ret v=>obtain⟨x7,c,q,A,r7,C⟩:=C;exact⟨x7,c,q,A.unpinned,r7,C⟩
end
def DM {K:W.Frag}{a:Addr}{xs:List V}{g:TG}{l:TS}{D:Ga}{b:St}{H:Hp}(c:Nat->St->Hp->Prop)(h0:c 0 b H)(u:∀i b H,i<=xs.length->c i b H->SqL K H a xs)
  (v:∀i x b H,xs[i]? = some x->c i b H->g x b H λf j=>l { D with nx:=c (i+1),ct:=c (i+1),bk:=D.nx } f j)(s:∀b H,c xs.length b H->D.nx b H) :
  ∃W:Nat->Nat->St->Hp->Prop,(∃m,W 0 m b H)/\∀i m b H,W i m b H ->
   ((Mt K a).stop i H/\D.nx b H)\/((Mt K a).go i H/\∃N:St->Hp->Prop,(∀d H',N d H'->∃n,n<m/\W (i+1) n d H')/\∀x H',(Mt K a).yld i H x H'->g x b H' λf j=>l { D with nx:=N,ct:=N,bk:=D.nx } f j):=by
 refine⟨λi m b H=>m=xs.length-i/\i<=xs.length/\c i b H,⟨xs.length,Θ,Bn _,h0⟩,?_⟩
 rintro i m b H ⟨rfl,r,p⟩
 have q:=u i b H r p
 by_cases h:i<xs.length
 ·refine .inr ⟨⟨xs,xs[i],q,by simp[h]⟩,c (i+1),λd H' o=>⟨xs.length-(i+1),Ψ,U,h,o⟩,λx H' y=>?_⟩;obtain⟨e,y⟩:=y;subst e;exact v i x b _ (y xs q) p
 have e:i=xs.length:=by lia
 subst e
 exact .inl ⟨⟨xs,q,An _⟩,s b H p⟩
def HX {lo:Int}{n:Nat}{g:TG}{j:TS}{D:Ga}{a:St}{H:Hp}(d:Nat->St->Hp->Prop)(h0:d 0 a H)
  (r:∀i a H,i<n->d i a H->g (.int (lo+i)) a H λc h=>j { D with nx:=d (i+1),ct:=d (i+1),bk:=D.nx } c h)(q:∀a H,d n a H->D.nx a H) :
  ∃W:Nat->Nat->St->Hp->Prop,(∃m,W 0 m a H)/\∀i m a H,W i m a H ->
   ((Iq lo n).stop i H/\D.nx a H)\/((Iq lo n).go i H/\∃N:St->Hp->Prop,(∀b H',N b H'->∃l,l<m/\W (i+1) l b H')/\∀x H',(Iq lo n).yld i H x H'->g x a H' λc h=>j { D with nx:=N,ct:=N,bk:=D.nx } c h):=by
 refine⟨λi m a H=>m=n-i/\i<=n/\d i a H,⟨n,Θ,Bn _,h0⟩,?_⟩
 rintro i m a H ⟨rfl,s,p⟩
 by_cases f:i<n
 ·refine .inr ⟨f,d (i+1),λb H' o=>⟨n-(i+1),Ψ,U,f,o⟩,λx H' y=>?_⟩;obtain⟨e,y⟩:=y;subst e y;exact r i a _ f p
 have e:i=n:=by lia
 subst e
 exact .inl ⟨An _,q a H p⟩
abbrev R2:=V->V->Hp->VK->Prop
def Bz (X:Cx)(f:Value->Value->Sem Value)(r:R2):Prop:=
 ∀(dv:List (Addr×Obj)) (s:Shared) (σ:St) (H:Hp) (x y:V) (v u:Value) (Q:VK),Inv X dv σ H s->RelV x v->RelV y u->r x y H Q ->
  wpAny (model X.prog X.w) X.A (f v u) (EP X dv σ Q) X.xe s
def SW (X:Cx)(f:Value->Sem Value)(r:V->Hp->VK->Prop):Prop:=
 ∀(dv:List (Addr×Obj)) (s:Shared) (σ:St) (H:Hp) (x:V) (v:Value) (Q:VK),Inv X dv σ H s->RelV x v->r x H Q ->
  wpAny (model X.prog X.w) X.A (f v) (EP X dv σ Q) X.xe s
def Cs (X:Cx)(f:Value)(r:List V->Hp->VK->Prop):Prop:=
 ∀(dv:List (Addr×Obj)) (s:Shared) (σ:St) (H:Hp) (xs:List V) (us:List Value) (Q:VK),Inv X dv σ H s->Vals xs us->r xs H Q ->
  wpAny (model X.prog X.w) X.A (call f us) (EP X dv σ Q) X.xe s
def MG (r:R2)(ta tb:TE):TE:=λσ H Q=>ta σ H λx H1=>tb σ H1 λy H2=>r x y H2 Q
def Yk (r:V->Hp->VK->Prop)(ta:TE):TE:=λσ H Q=>ta σ H λx H1=>r x H1 Q
inductive rI (C:Int->Int->Prop)(g:Int->Int->V)(x:V)(y:V)(H:Hp)(Q:VK):Prop
 | mk (i:_) (j:_) (c0:x=.int i) (c1:y=.int j) (c2:C i j) (c3:Q (g i j) H):rI C g x y H Q
inductive Gn (g:Int->Int->V)(x:V)(y:V)(H:Hp)(Q:VK):Prop
 | mk (i:_) (j:_) (c0:x=.int i) (c1:y=.int j) (c2:Q (g i j) H):Gn g x y H Q
def rU (g:Int->V):V->Hp->VK->Prop:=λx H Q=>∃i,x=.int i/\Q (g i) H
section
variable {X:Cx}{a b c:Expr}{ta tb tc:TE}{pos:Pos}
def RP (B:PE X a ta)(o:PE X b tb){d:List (Addr×Obj)}{s:Shared}{g:St}{H:Hp}{R:V->V->Hp->Prop}(I:Inv X d g H s)
  (h:ta g H λx m=>tb g m λy i=>R x y i){Q:Value->Shared->Prop}{f:Value->Value->Sem Value}
  (C:∀v u s2 x y i,Inv X d g i s2->RelV x v->RelV y u->R x y i->wpAny (model X.prog X.w) X.A (f v u) Q X.xe s2) :
  wpAny (model X.prog X.w) X.A (eval a X.env) (λv l=>wpAny (model X.prog X.w) X.A (eval b X.env) (λu j=>wpAny (model X.prog X.w) X.A (f v u) Q X.xe j) X.xe l) X.xe s:=by
 refine thn (B d s g H _ I h) λv n e=>?_
 obtain⟨x,m,p,w,z⟩:=e
 refine thn (o d n g m _ p z) λu s2 e=>?_
 obtain⟨y,i,A,r,q⟩:=e
 exact C v u s2 x y i A w r q
def As (l:Bz X (binaryOp op) r)(n:PE X a ta)(f:PE X b tb):PE X (.BinOp a op b pos) (MG r ta tb):=by intro d s g H Q I h;exact wpAny_BinOp (RP n f I h λv u s2 x y i m e j q=>l d s2 g i x y v u Q m e j q)
def NP (i:SW X (unaryOp op) r)(m:PE X a ta):PE X (.UnaryOp op a pos) (Yk r ta):=by intro d s f H Q I h;exact UnaryOp_ (thn (m d s f H _ I h) λv j e=>by obtain⟨x,l,n,o,g⟩:=e;exact i d j f l x v Q n o g)
def Lu {f:Value->Value->Sem Value}{C:Int->Int->Prop}{g:Int->Int->Int}
  (d:∀(i j:Int) (t u:Tok) (s:Shared) (Q:Value->Shared->Prop) (E:Value->Shared->Prop),C i j->Q (.int (g i j) s.toks) { s with toks:=s.toks+1 }->wpAny (model X.prog X.w) X.A (f (.int i t) (.int j u)) Q E s) :
  Bz X f (rI C λi j=>.int (g i j)):=by
 intro e s o H x y v u Q I l m h
 obtain⟨i,j,rfl,rfl,n,q⟩:=h
 obtain⟨t,rfl⟩:=l
 obtain⟨t',rfl⟩:=m
 exact d i j t t' s _ _ n ⟨.int (g i j),H,I.tok _,⟨_,U⟩,q⟩
def Va {f:Value->Value->Sem Value}{g:Int->Int->Int}
  (d:∀(i j:Int) (t u:Tok) (s:Shared) (Q:Value->Shared->Prop) (E:Value->Shared->Prop),Q (.int (g i j) s.toks) { s with toks:=s.toks+1 }->wpAny (model X.prog X.w) X.A (f (.int i t) (.int j u)) Q E s) :
  Bz X f (Gn λi j=>.int (g i j)):=by
 intro e s n H x y v u Q I l m h
 obtain⟨i,j,rfl,rfl,q⟩:=h
 obtain⟨t,rfl⟩:=l
 obtain⟨t',rfl⟩:=m
 exact d i j t t' s _ _ ⟨.int (g i j),H,I.tok _,⟨_,U⟩,q⟩
def Q4 {f:Value->Value->Sem Value}{g:Int->Int->Bool}
  (d:∀(i j:Int) (t u:Tok) (s:Shared) (Q:Value->Shared->Prop) (E:Value->Shared->Prop),Q (.bool (g i j)) s->wpAny (model X.prog X.w) X.A (f (.int i t) (.int j u)) Q E s) :
  Bz X f (Gn λi j=>.bl (g i j)):=by
 intro e s n H x y v u Q I l m h
 obtain⟨i,j,rfl,rfl,q⟩:=h
 obtain⟨t,rfl⟩:=l
 obtain⟨t',rfl⟩:=m
 exact d i j t t' s _ _ ⟨.bl (g i j),H,I,U,q⟩
def tU (i j:Int):Prop:=0<j/\j<1073741824
def XM (i j:Int):Prop:=0<=j/\j<=1000000/\i.natAbs<2^64
def CMul (i j:Int):Prop:=(-(2^64)<i/\i<2^64)\/(-(2^64)<j/\j<2^64)
def CMul.ok (h:CMul i j):IntMulOk i j:=by
 rcases h with⟨d,e⟩ | ⟨d,e⟩
 ·exact .of_left (intBits_le_64 d e)
 exact .of_right (intBits_le_64 d e)
def Bq:Bz X (binaryOp .Add) (Gn λi j=>.int (i+j)):=Va λ_ _ _ _ _ _ _ q=>add_int q
def GA:Bz X (binaryOp .Mult) (rI CMul λi j=>.int (i*j)):=Lu λ_ _ _ _ _ _ _ d q=>mul_int q d.ok
def Q2:Bz X (binaryOp .FloorDiv) (rI tU λi j=>.int (i / j)):=Lu λi j _ _ _ _ _ d q=>by have e:=d.1;have f:=d.2;exact floordiv_int Ψ (by rw[Int.fdiv_eq_ediv_of_nonneg i Ψ];exact q) (.inl (PyProof.noPylong_small Ψ))
def Eg:Bz X (binaryOp .Mod) (rI (λ_ j=>0<j) λi j=>.int (i % j)):=Lu λi j _ _ _ _ _ d q=>by have e:=d;exact mod_int' Ψ (by rw[Int.fmod_eq_emod_of_nonneg i Ψ];exact q)
def NX:Bz X (binaryOp .Pow) (rI XM λi j=>.int (i^j.toNat)):=Lu λ_ _ _ _ _ _ _ d q=>pow_int_small d.1 d.2.1 d.2.2 q
def cK:Bz X (binaryOp .LShift) (rI XM λi j=>.int (i*2^j.toNat)):=Lu λ_ _ _ _ _ _ _ d q=>lshift_int_small d.1 d.2.1 d.2.2 q
def U9:Bz X (binaryOp .BitOr) (Gn λi j=>.int (Builtin.bitOr i j)):=Va λ_ _ _ _ _ _ _ q=>or_int q
def X6 {f:Value->Sem Value}{g:Int->Int}
  (d:∀(i:Int) (t:Tok) (s:Shared) (Q:Value->Shared->Prop) (E:Value->Shared->Prop),Q (.int (g i) s.toks) { s with toks:=s.toks+1 }->wpAny (model X.prog X.w) X.A (f (.int i t)) Q E s) :
  SW X f (rU λi=>.int (g i)):=by
 intro e s l H x v Q I j h
 obtain⟨i,rfl,q⟩:=h
 obtain⟨t,rfl⟩:=j
 exact d i t s _ _ ⟨.int (g i),H,I.tok _,⟨_,U⟩,q⟩
def MD:SW X (unaryOp .USub) (rU λi=>.int (-i)):=X6 λ_ _ _ _ _ q=>neg_int q
end
def M8:V->V->Bool
 | .non,.non=>true | .non,.int _=>true | .int _,.non=>true | .non,.bl _=>true | .bl _,.non=>true | .non,.str _=>true | .str _,.non=>true
 | .int _,.int _=>true | .bl _,.bl _=>true | .str _,.str _=>true | .byt _,.byt _=>true
 | .int _,.str _=>true | .str _,.int _=>true | .bl _,.str _=>true | .str _,.bl _=>true
 | _,_=>false
def aK:R2:=λx y H Q=>M8 x y=true/\Q (.bl (decide (x=y))) H
def aA:R2:=λx y H Q=>M8 x y=true/\Q (.bl (!decide (x=y))) H
def Wv :decide (V.int i=V.int j)=(i == j):=by rw[Kd];simp
def Wy :decide (V.bl i=V.bl j)=(i == j):=by rw[Kd];simp
def Wt :decide (V.str i=V.str j)=(i == j):=by rw[Kd];simp
def Ww :decide (V.byt i=V.byt j)=(i.toList == j.toList):=by rw[Kd];cases i;cases j;simp
section
variable {X:Cx}{a b c:Expr}{ta tb tc:TE}{pos:Pos}
def BM {k:Bool}(I:Inv X dv σ H s)(q:Q (.bl k) H)(e:k=k'):EP X dv σ Q (.bool k') s:=by subst e;exact⟨.bl k,H,I,U,q⟩
def Bt:Bz X (compareOp .Eq) aK:=by
 rintro g s h H x y v u Q I f d⟨e,q⟩;cases x with
 | non=>
  cases f;cases y with
  | non=>cases d;exact PySem.EqNone.eq_none_none (BM I q Θ)
  | bl j=>cases d;exact PySem.EqNone.eq_none_bool (BM I q Θ)
  | int j=>obtain⟨t',rfl⟩:=d;exact PySem.EqNone.eq_none_int (BM I q Θ)
  | str j=>obtain⟨t',rfl⟩:=d;exact PySem.EqNone.eq_none_str (BM I q Θ)
  | _=>exact absurd e BO
 | bl i=>
  cases f;cases y with
  | non=>cases d;exact PySem.EqNone.eq_bool_none (BM I q Θ)
  | bl j=>cases d;exact eq_bool (BM I q Wy)
  | str j=>obtain⟨t',rfl⟩:=d;exact PySem.EqMixed.eq_bool_str (BM I q Θ)
  | _=>exact absurd e BO
 | int i=>
  obtain⟨t,rfl⟩:=f;cases y with
  | non=>cases d;exact PySem.EqNone.eq_int_none (BM I q Θ)
  | int j=>obtain⟨t',rfl⟩:=d;exact eq_int (BM I q Wv)
  | str j=>obtain⟨t',rfl⟩:=d;exact PySem.EqMixed.eq_int_str (BM I q Θ)
  | _=>exact absurd e BO
 | str i=>
  obtain⟨t,rfl⟩:=f;cases y with
  | non=>cases d;exact PySem.EqNone.eq_str_none (BM I q Θ)
  | bl j=>cases d;exact PySem.EqMixed.eq_str_bool (BM I q Θ)
  | int j=>obtain⟨t',rfl⟩:=d;exact PySem.EqMixed.eq_str_int (BM I q Θ)
  | str j=>obtain⟨t',rfl⟩:=d;exact eq_str (BM I q Wt)
  | _=>exact absurd e BO
 | byt i=>
  obtain⟨t,rfl⟩:=f;cases y with
  | byt j=>obtain⟨t',rfl⟩:=d;exact PySem.W.eq_bytes (BM I q Ww)
  | _=>exact absurd e BO
 | _=>cases y <;> exact absurd e BO
def Gz:Bz X (compareOp .NotEq) aA:=by
 rintro g s h H x y v u Q I f d⟨e,q⟩;cases x with
 | non=>
  cases f;cases y with
  | non=>cases d;exact PySem.EqNone.ne_none_none (BM I q Θ)
  | bl j=>cases d;exact PySem.EqNone.ne_none_bool (BM I q Θ)
  | int j=>obtain⟨t',rfl⟩:=d;exact PySem.EqNone.ne_none_int (BM I q Θ)
  | str j=>obtain⟨t',rfl⟩:=d;exact PySem.EqNone.ne_none_str (BM I q Θ)
  | _=>exact absurd e BO
 | bl i=>
  cases f;cases y with
  | non=>cases d;exact PySem.EqNone.ne_bool_none (BM I q Θ)
  | bl j=>cases d;exact ne_bool (BM I q (BQ not Wy))
  | str j=>obtain⟨t',rfl⟩:=d;exact PySem.EqMixed.ne_bool_str (BM I q Θ)
  | _=>exact absurd e BO
 | int i=>
  obtain⟨t,rfl⟩:=f;cases y with
  | non=>cases d;exact PySem.EqNone.ne_int_none (BM I q Θ)
  | int j=>obtain⟨t',rfl⟩:=d;exact ne_int (BM I q (BQ not Wv))
  | str j=>obtain⟨t',rfl⟩:=d;exact PySem.EqMixed.ne_int_str (BM I q Θ)
  | _=>exact absurd e BO
 | str i=>
  obtain⟨t,rfl⟩:=f;cases y with
  | non=>cases d;exact PySem.EqNone.ne_str_none (BM I q Θ)
  | bl j=>cases d;exact PySem.EqMixed.ne_str_bool (BM I q Θ)
  | int j=>obtain⟨t',rfl⟩:=d;exact PySem.EqMixed.ne_str_int (BM I q Θ)
  | str j=>obtain⟨t',rfl⟩:=d;exact ne_str (BM I q (BQ not Wt))
  | _=>exact absurd e BO
 | byt i=>
  obtain⟨t,rfl⟩:=f;cases y with
  | byt j=>obtain⟨t',rfl⟩:=d;exact PySem.W.ne_bytes (BM I q (BQ not Ww))
  | _=>exact absurd e BO
 | _=>cases y <;> exact absurd e BO
def GB:Bz X (compareOp .Lt) (Gn λi j=>.bl (decide (i<j))):=Q4 λ_ _ _ _ _ _ _ q=>lt_int q
def Eh:Bz X (compareOp .LtE) (Gn λi j=>.bl (decide (i<=j))):=Q4 λ_ _ _ _ _ _ _ q=>le_int q
def Fk:Bz X (compareOp .Gt) (Gn λi j=>.bl (decide (j<i))):=Q4 λ_ _ _ _ _ _ _ q=>gt_int q
def cP:Bz X (compareOp .In) (λx y H Q=>∃i j,x=.str i/\y=.str j/\Q (.bl (!(Builtin.Str.occurrences j i 0 j.length 1).isEmpty)) H):=by rintro d s g H x y v u Q I e f⟨i,j,rfl,rfl,q⟩;obtain⟨t,rfl⟩:=e;obtain⟨t',rfl⟩:=f;exact in_str (BM I q U)
def Q0:Bz X (compareOp .Is) (λx y H Q=>y=.non/\Q (.bl (decide (x=.non))) H):=by
 rintro e s g H x y v u Q I d f⟨rfl,q⟩;cases f;refine is_none_gen (BM I q ?_)
 cases x <;> first
  | (cases d;rfl)
  | (obtain⟨t,rfl⟩:=d;rfl)
def NY:Bz X (compareOp .IsNot) (λx y H Q=>y=.non/\Q (.bl (!decide (x=.non))) H):=by
 rintro e s g H x y v u Q I d f⟨rfl,q⟩;cases f;refine isnot_none_gen (BM I q ?_)
 cases x <;> first
  | (cases d;rfl)
  | (obtain⟨t,rfl⟩:=d;rfl)
def AE (b:Expr) (h:op≠.In:=by decide)(f:op≠.NotIn:=by decide):behindInMarks op b=false:=by
 have d:(op == CmpOp.In)=false:=by cases op <;> first | rfl | exact absurd U h
 have e:(op == CmpOp.NotIn)=false:=by cases op <;> first | rfl | exact absurd U f
 cases b <;> simp[behindInMarks,d,e]
def De (m:Bz X (compareOp op) r)(o:PE X a ta)(f:PE X b tb)(i:behindInMarks op b=false):PE X (.Compare a [op] [b] pos) (MG r ta tb):=by intro d s g H Q I h;exact wpAny_Compare1 (RP o f I h λv u s2 x y j n e l q=>m d s2 g j x y v u Q n e l q) i
inductive VG (Q:Bool->Hp->Prop)(x:V)(H':Hp):Prop
 | mk (k:_) (c0:x=.bl k) (c1:Q k H'):VG Q x H'
def TM (t:TE):TT:=λσ H Q=>t σ H λx H'=>VG Q x H'
def AM (A:Bz X (compareOp op) r)(E:PE X a ta)(i:PE X b tb)(n:behindInMarks op b=false):PT X (.Compare a [op] [b] pos) (TM (MG r ta tb)):=by intro d s f H Q I h;refine wpAny_isTrue_Compare1 (thn (E d s f H _ I h) λv s1 ⟨x,D,j,o,w⟩=>thn (i d s1 f D _ j w) λu s2 ⟨y,q,C,m,l⟩=>thn (A d s2 f q x y v u _ C o m l) λc s3 ⟨z,B,g,F,k,e,p⟩=>?_) n;subst e;cases F;exact FV ⟨B,g,p⟩
def TX (r r':R2)(ta tb tc:TE):TE:=λσ H Q=>ta σ H λx H1=>tb σ H1 λy H2=>r x y H2 λz H3=>∃k,z=.bl k /\
 (if k=true then tc σ H3 λw' H4=>r' y w' H4 Q else Q (.bl false) H3)
def cD (B:Bz X (compareOp op) r)(i:Bz X (compareOp op') r')(D:PE X a ta)(p:PE X b tb)(S:PE X c tc)
  (w:lastMarks [op,op'] [b,c]=false:=by with_unfolding_all rfl):PE X (.Compare a [op,op'] [b,c] pos) (TX r r' ta tb tc):=by
 intro f s g H Q I h
 refine Compare_chain (thn (D f s g H _ I h) λv s1 ⟨x,C,q,A,P⟩=>chain_link (thn (p f s1 g C _ q P) λu s2 ⟨y,N,R,m,L⟩=>thn (B f s2 g N x y v u _ R A m L) λd s3 ⟨z,o,l,W,k,e,n⟩=>?_)) w
 subst e
 cases W
 apply FV
 cases k with
 | false=>exact ite_ff ⟨.bl false,o,l,U,n⟩
 | true=>exact ite_tt (chain_last (thn (S f s3 g o _ l n) λG s4 j=>by obtain⟨F,M,K,T,E⟩:=j;exact i f s4 g M y F u G Q K m T E))
def Ja (D:Bz X (compareOp op) r)(i:Bz X (compareOp op') r')(G:PE X a ta)(p:PE X b tb)(hc:PE X c tc)
  (w:lastMarks [op,op'] [b,c]=false:=by with_unfolding_all rfl):PT X (.Compare a [op,op'] [b,c] pos) (TM (TX r r' ta tb tc)):=by
 intro f s g H Q I h
 refine isTrue_chain (thn (G f s g H _ I h) λv s1 ⟨x,F,q,A,q1⟩=>test_link (thn (p f s1 g F _ q q1) λu s2 ⟨y,H2,I2,m,S⟩=>thn (D f s2 g H2 x y v u _ I2 A m S) λd s3 ⟨z,o,l,r3,k,e,n⟩=>?_)) w
 subst e
 cases r3
 apply FV
 cases k with
 | false=>obtain⟨k',R,q'⟩:=n;cases R;exact ite_ff ⟨o,l,q'⟩
 | true=>refine ite_tt (test_last (thn (hc f s3 g o _ l n) λM s4 j=>?_));obtain⟨L,W,N,B,K⟩:=j;refine thn (i f s4 g W y L u M _ N m B K) ?_;rintro d' s5⟨z2,P,I5,E,k2,C,T⟩;subst C;cases E;exact FV ⟨P,I5,T⟩
def Lz:(sizeLine:Nat)<2^63:=by rw[AF];decide
inductive UK (x y:V)(H:Hp)(Q:VK):Prop
 | mk (i:_) (j:_) (c0:x=.str i) (c1:y=.str j) (c2:i.length+j.length<=sizeLine) (c3:Q (.str (i++j)) H):UK x y H Q
def CD:Bz X (binaryOp .Add) UK:=by rintro d s h H x y v u Q I e f⟨i,j,rfl,rfl,g,q⟩;obtain⟨t,rfl⟩:=e;obtain⟨t',rfl⟩:=f;exact add_str (λt' tk=>⟨.str (i++j),H,I.tok _,⟨_,U⟩,q⟩) g
def CM (r:Vals [x] us):∃u,us=[u]/\RelV x u:=by
 cases r with
 | cons r1 r2=>cases r2;exact⟨_,U,r1⟩
def Kt (r:Vals [x,y] us):∃u w',us=[u,w']/\RelV x u/\RelV y w':=by
 cases r with
 | cons r1 r2=>
  cases r2 with
  | cons r3 r4=>cases r4;exact⟨_,_,U,r1,r3⟩
def tR (K:W.Frag)(x:V)(H:Hp)(n:Nat):Prop:=
 match x with
 | .str y=>y.length<=sizeLine/\n=y.length
 | .byt y=>y.size<=sizeLine/\n=y.size
 | .ref p=>(∃xs,SqL K H p xs/\n=xs.length)\/∃xs,SqT K H p xs/\n=xs.length
 | _=>False
inductive UH (K:W.Frag)(xs:List V)(H:Hp)(Q:VK):Prop
 | mk (x:_) (n:_) (c0:xs=[x]) (c1:tR K x H n) (c2:Q (.int n) H):UH K xs H Q
def BI:Cs X (.builtin "len") (UH X.K):=by
 intro dv s σ H xs us Q I r h;obtain⟨x,n,rfl,e,q⟩:=h;obtain⟨u,rfl,rx⟩:=CM r;have hl:=Lz;have hs:sizeLine=16777216:=AF;cases x with
 | str y=>obtain⟨t,rfl⟩:=rx;obtain⟨hy,e'⟩:y.length<=sizeLine/\n=y.length:=e;subst e';exact len_str Ψ ⟨.int _,H,I.tok _,⟨_,U⟩,q⟩
 | byt y=>obtain⟨t,rfl⟩:=rx;obtain⟨hy,e'⟩:y.size<=sizeLine/\n=y.size:=e;subst e';exact PySem.W.len_bytes Ψ ⟨.int _,H,I.tok _,⟨_,U⟩,q⟩
 | ref p=>
  cases rx;have e':(∃xs,SqL X.K H p xs/\n=xs.length)\/∃xs,SqT X.K H p xs/\n=xs.length:=e;rcases e' with⟨xs,hx,e'⟩ | ⟨xs,hx,e'⟩
  ·subst e';obtain⟨its,r',pl,hz⟩:=I.list hx;have hlen:=r'.length;exact Calls.call_len_list pl.isList (by simp only[BJ];lia) ⟨.int xs.length,H,I.tok _,⟨_,by simp only[BJ];rw[hlen]⟩,q⟩
  subst e';obtain⟨its,r',pl,hz⟩:=I.tuple hx;have hlen:=r'.length;exact len_tuple pl (by simp only[BJ];lia) ⟨.int xs.length,H,I.tok _,⟨_,by simp only[BJ];rw[hlen]⟩,q⟩
 | _=>exact(show False from e).elim
end
structure ObjM (h:Heap)(x dx C:Addr)(mA:Str->Option Value):Prop where
 obj:h.get? x=some (PySem.W.instObj C dx)
 ns:h.Ns1 dx mA
 ne:dx≠x
def lI {h:Heap}{d:Addr}{c:Str->Option Value}(n:h.Ns1 d c):∃f,h.get? d=some f/\∀name,PySem.W.lookIn name f=some (c name):=by
 obtain⟨o,es,ep,l,g,p,_,i⟩:=n;refine⟨o,l,λname=>?_⟩;have e:=i name;unfold nsFind findBy at e;rw[<- Array.find?_toList]at e;unfold PySem.W.lookIn;rw[g];dsimp only;split
 ·rename_i y q;rw[q]at e;exact BQ some e
 rename_i q;rw[q]at e;have a:es.toList.any (·.refKey)=false:=by rw[any_eq_false];intro y j;obtain⟨z,t,b⟩:=p y (Array.mem_toList_iff.mp j);simp[DictEntry.refKey,b]
 have m:¬es.toList.any (·.refKey)=true:=by rw[a];exact BO
 rw[Ak m];exact BQ some e
def ObjM.look (I:ObjM h x dx C mA):∃a,PySem.W.InstAt h x (PySem.W.instObj C dx) C (some a)/\∀name,PySem.W.lookIn name a=some (mA name):=
 let ⟨a,ho,hl⟩:=lI I.ns
 ⟨a,⟨I.obj,U,U,ho⟩,hl⟩
section
variable {prog:Program}{w:World}{A:Around}{E:Value->Shared->Prop}{s:Shared}{K:W.Frag}{x dx C f:Addr}{mA:Str->Option Value}{name:Str}{v:Value}
def pJ (X:K.In s.heap)(I:ObjM s.heap x dx C mA)(d:PySem.W.plainGet K C name=true)(g:PySem.W.hasDictIn K C=true)
  (c:PySem.W.findIn K (.ref C) name=some none)(e:mA name=some v)(b:PySem.W.handedIn v=true)(h:Q v { s with toks:=s.toks+1 }) :
  wpAny (model prog w) A (getAttr (.ref x) name expr) Q E s:=by
 obtain⟨j,a,i⟩:=I.look
 exact PySem.W.get_value X a (Ss d).1 (PySem.W.findObj_own g c U (by rw[i,e])) b h
def pH (X:K.In s.heap)(I:ObjM s.heap x dx C mA)(b:PySem.W.plainGet K C name=true)
  (i:PySem.W.findIn K (.ref C) name=some (some (.ref f)))(g:PySem.W.isFn K (.ref f)=true)(d:mA name=none)(h:Q (.ref f,[.ref x]) s) :
  wpAny (model prog w) A (getMethod (.ref x) name pl) Q E s:=by
 obtain⟨e,a,c⟩:=I.look
 exact PySem.W.method_fn X a (Ss b).1 (Ss b).2 i (FC.mp g) (by show(PySem.W.lookIn name e).map (·.isSome)=some false;rw[c,d];rfl) h
def Zg (X:K.In s.heap)(I:ObjM s.heap x dx C mA)
  (u:PySem.W.findIn K (.ref C) "__setattr__" = some (some (.builtin "object.__setattr__")))(p:PySem.W.plainOver K C=true)(m:PySem.W.takerIn K C name=some none)(n:PySem.W.hasDictIn K C=true)
  (o:PySem.Within mA ns)(hsz:ns.length<=sizeLine)
  (h:∀h',ObjM h' x dx C (λy=>if y=name then some v else mA y)->Heap.SameBut dx s.heap h'->Q () { s with heap:=h',toks:=s.toks+2 }) :
  wpAny (model prog w) A (setAttr (.ref x) name v) Q E s:=by
 obtain⟨B,a,F⟩:=I.look
 refine PySem.W.set_plain X a u (PySem.W.osa_open X a p m λb=>?_)
 obtain⟨z,r,e⟩:=PySem.W.any_some n
 refine Ac (Aj (Ac (Ac (wpAny_loadPart I.obj (Ac (PySem.W.Looks.here (PySem.W.looks_clsIn X r) ?_))))))
 rw[e]
 refine Aj (Ac (Aj (Ac ?_)))
 refine wpAny_nsSet1 I.ns λh' d c=>?_
 obtain⟨D,l,q,i,j,g⟩:=d.count (PySem.Within.cons name v o)
 refine Ac (wpAny_lookBehind i (j▸pastItsLine_dict (Er g (by rw[Cy];lia))) ?_)
 exact Aj (h _ ⟨(c.2 _ (ET I.ne)).trans I.obj,d,I.ne⟩ c)
def lG (X:K.In s.heap)(c:PySem.W.makesIn K C=true)
  (b:PySem.W.findIn K (.ref C) "__init__" = some (some (.ref f)))(e:PySem.W.typeIn K (.ref f)=some (.type "function"))
  (h:codeAny (model prog w) (A.under (.builtin "type.__call__" ⟨.ref C::vs,kw⟩)) (.call (.ref f) ⟨.ref (s.heap.objs.size+1)::vs,kw⟩) (PySem.W.InitBack (s.heap.objs.size+1) R) { s with heap:=(s.heap.push PySem.W.emptyDict).push (PySem.W.instObj C s.heap.objs.size) }) :
  codeAny (model prog w) A (.call (.ref C) ⟨vs,kw⟩) R s:=by
 obtain⟨i,g,d,t,os⟩:=s
 exact PySem.W.make_core (PySem.W.makes_of X c) (PySem.W.looks_findIn X b) (λa=>PySem.W.bind_fn X a e) (.inl U) h
end
def putF (f:Str)(v:V):List (Str×V)->List (Str×V)
 | []=>[(f,v)]
 | (g,x)::r=>if g=f then(g,v)::r else(g,x)::putF f v r
theorem CF (f g:Str)(v:V):∀fs:List (Str×V),(putF f v fs).lookup g=if g=f then some v else fs.lookup g
 | []=>by
  show List.lookup g [(f,v)]=_;by_cases h:g=f
  ·have a:(g == f)=true:=FC.mpr h;simp only[List.lookup,a,Ar h]
  have a:(g == f)=false:=GV.mpr h;simp only[List.lookup,a,Ak h]
 | (k,x)::r=>by
  have c:=CF f g v r;rw[show putF f v ((k,x)::r)=(if k=f then(k,v)::r else(k,x)::putF f v r) from rfl];by_cases b:k=f
  ·rw[Ar b];by_cases h:g=k
   ·have a:(g == k)=true:=FC.mpr h;simp only[List.lookup,a,Ar (h.trans b)]
   have a:(g == k)=false:=GV.mpr h;simp only[List.lookup,a,Ak (λe:g=f=>h (e.trans b.symm))]
  rw[Ak b];by_cases h:g=k
  ·have a:(g == k)=true:=FC.mpr h;simp only[List.lookup,a,Ak (λe:g=f=>b (h.symm.trans e))]
  have a:(g == k)=false:=GV.mpr h;simp only[List.lookup,a];exact c
theorem Re (f:Str)(v:V):∀fs:List (Str×V),f∈(putF f v fs).map (·.1)/\∀g,g∈fs.map (·.1)->g∈(putF f v fs).map (·.1)
 | []=>⟨by simp[putF],λg h=>by simp at h⟩
 | (k,x)::r=>by
  obtain⟨c,b⟩:=Re f v r;rw[show putF f v ((k,x)::r)=(if k=f then(k,v)::r else(k,x)::putF f v r) from rfl];by_cases a:k=f
  ·rw[Ar a];subst a;exact⟨Θ,λg h=>by simpa using h⟩
  rw[Ak a];refine⟨?_,λg h=>?_⟩
  ·rw[Bg];exact AY _ c
  rw[Bg]at h ⊢;rcases(Az.mp h)with e | e
  ·exact Az.mpr (.inl e)
  exact AY _ (b g e)
theorem Vn (f:Str)(v:V):∀fs:List (Str×V),(putF f v fs).length<=fs.length+1
 | []=>by simp[putF]
 | (k,x)::r=>by
  have b:=Vn f v r;rw[show putF f v ((k,x)::r)=(if k=f then(k,v)::r else(k,x)::putF f v r) from rfl];by_cases a:k=f
  ·rw[Ar a,Cy,Cy];lia
  rw[Ak a,Cy,Cy];lia
def RelO.some_of (r:RelO (some v) o):∃u,o=some u/\RelV v u:=by
 cases o with
 | none=>exact(show False from r).elim
 | some u=>exact⟨u,U,r⟩
def RelO.none_of (r:RelO none o):o=none:=by
 cases o with
 | none=>rfl
 | some u=>exact(show False from r).elim
def oQ (r:RelV v u):PySem.W.handedIn u=true:=by
 cases v with
 | non=>cases r;rfl
 | bl b=>cases r;rfl
 | int i=>obtain⟨t,e⟩:=r;cases e;rfl
 | str x=>obtain⟨t,e⟩:=r;cases e;rfl
 | byt b=>obtain⟨t,e⟩:=r;cases e;rfl
 | flt b=>obtain⟨t,e⟩:=r;cases e;rfl
 | ref a=>cases r;rfl
 | ty n=>cases r;rfl
section
variable {P:Program}{w:World}{H H':Hp}{h h':Heap}{a C dx:Addr}{fs fs':List (Str×V)}
def LH (c:HOk P w H h)(e:H a=some (.ins C dx fs)):∃b,ObjM h a dx C b/\(∀f,RelO (fs.lookup f) (b f))/\PySem.Within b (fs.map (·.1))/\fs.length<=1000/\H dx=some (.own a):=by obtain⟨d,z,i,g,b,n,r,q⟩:=(c a _ e);exact⟨b,⟨g,n,i⟩,r,q,z,d⟩
end
structure Cls (K:W.Frag)(C:Addr):Prop where
 pg:PySem.W.plainGet K C Str.empty=true
 hd:PySem.W.hasDictIn K C=true
 po:PySem.W.plainOver K C=true
 sa:PySem.W.findIn K (.ref C) "__setattr__" = some (some (.builtin "object.__setattr__"))
def Cls.get {K:W.Frag}{C:Addr}(c:Cls K C)(f:Str):PySem.W.plainGet K C f=true:=c.pg
def NoAttr (K:W.Frag)(C:Addr)(f:Str):Prop:=PySem.W.findIn K (.ref C) f=some none
def NoAttr.taker {K:W.Frag}{C:Addr}{f:Str}(n:NoAttr K C f):PySem.W.takerIn K C f=some none:=by unfold PySem.W.takerIn;rw[show PySem.W.findIn K (.ref C) f=some none from n];rfl
structure Dv (K:W.Frag)(C:Addr)(m:Str)(f:Addr):Prop where
 at_:PySem.W.findIn K (.ref C) m=some (some (.ref f))
 fn:PySem.W.isFn K (.ref f)=true
 kp:PySem.W.keepIn K (.ref f)=true
section
variable {X:Cx}{dv:List (Addr×Obj)}{σ:St}{H:Hp}{s:Shared}{a C dx:Addr}{fs:List (Str×V)}{f:Str}{v:V}{A:Around}{E:Value->Shared->Prop}
def pG (I:Inv X dv σ H s)(e:H a=some (.ins C dx fs))(c:Cls X.K C)(n:NoAttr X.K C f)(l:fs.lookup f=some v)
  (h:∀u s',Inv X dv σ H s'->RelV v u->Q u s'):wpAny (model X.prog X.w) A (getAttr (.ref a) f b) Q E s:=by
 obtain⟨j,d,r,_,_,_⟩:=LH I.hok e
 obtain⟨u,i,g⟩:=RelO.some_of (by rw[<- l];exact r f)
 exact pJ I.kIn d (c.get f) c.hd n i (oQ g) (h u _ (I.tok _) g)
def VU (I:Inv X dv σ H s)(e:H a=some (.ins C dx fs))(c:Cls X.K C)(k:Dv X.K C m g)(l:fs.lookup m=none)
  (h:Q (.ref g,[.ref a]) s):wpAny (model X.prog X.w) A (getMethod (.ref a) m pl) Q E s:=by
 obtain⟨d,b,r,_,_,_⟩:=LH I.hok e
 exact pH I.kIn b (c.get m) k.at_ k.fn (RelO.none_of (by rw[<- l];exact r m)) h
def Ze (I:Inv X dv σ H s)(e:H a=some (.ins C dx fs))(c:Cls X.K C)(n:NoAttr X.K C f)(K:fs.length<1000)(F:RelV y u)
  (h:∀s',Inv X dv σ (Y H a (.ins C dx (putF f y fs))) s'->Q () s'):wpAny (model X.prog X.w) A (setAttr (.ref a) f u) Q E s:=by
 obtain⟨j,d,r,l,_,m⟩:=LH I.hok e
 have G:(fs.map (·.1)).length<=sizeLine:=by rw[Ai,AF];lia
 refine Zg I.kIn d c.sa c.po n.taker c.hd l G λh' i w=>h _ ?_
 have D:∃o,h'.get? dx=some o:=let ⟨o,_,_,e',_⟩:=i.ns;⟨o,e'⟩
 refine I.write (x:=a) (e:=dx) (by rw[e];exact G2) (.inr m) (λb q p z=>(w.2 b p).trans z) D ?_
 refine⟨by rw[Af d.ne];exact m,?_,d.ne,i.obj,_,i.ns,λg=>?_,λg B=>?_⟩
 ·have:=Vn f y fs;lia
 ·show RelO ((putF f y fs).lookup g) (if g=f then some u else j g);rw[CF];by_cases q:g=f
  ·rw[Ar q,Ar q];exact F
  rw[Ak q,Ak q];exact r g
 by_cases q:g=f
 ·rw[q];exact(Re f y fs).1
 refine(Re f y fs).2 g (l g λz=>B ?_)
 show(if g=f then some u else j g)=none
 rw[Ak q];exact z
def Inv.made (I:Inv X dv σ H s):Inv X dv σ (Y (Y H s.heap.objs.size (.own (s.heap.objs.size+1))) (s.heap.objs.size+1) (.ins C s.heap.objs.size []))
  { s with heap:=(s.heap.push PySem.W.emptyDict).push (PySem.W.instObj C s.heap.objs.size) }:=by
 have d:(s.heap.push PySem.W.emptyDict).get? s.heap.objs.size=some PySem.W.emptyDict:=Bs s.heap U
 have g:((s.heap.push PySem.W.emptyDict).push (PySem.W.instObj C s.heap.objs.size)).get? (s.heap.objs.size+1)=some (PySem.W.instObj C s.heap.objs.size):=by have:=Bs (s.heap.push PySem.W.emptyDict) (o:=PySem.W.instObj C s.heap.objs.size) U;rwa [G9]at this
 have h:(s.heap.push PySem.W.emptyDict).Ns s.heap.objs.size (λ_=>none):=⟨PySem.W.emptyDict,#[],_,d,U,(λe l=>absurd l Θ),λ_=>U⟩
 have i:=I.laid (a:=s.heap.objs.size) (o:=.own (s.heap.objs.size+1)) (h':=s.heap.push PySem.W.emptyDict) (t':=s.toks) (λb u q=>AV _ q) (An _) ⟨_,d⟩
 refine i.laid (a:=s.heap.objs.size+1) (o:=.ins C s.heap.objs.size []) (t':=s.toks) (λb u q=>AV _ q) (le_of_eq (G9 _ _)) ?_
 have c:s.heap.objs.size≠s.heap.objs.size+1:=Bk (G5 _)
 refine⟨by rw[Af c,Ag],Bn _,c,g,λ_=>none,(Heap.Ns1.of_empty h).at λo q=>AV _ q,λ_=>G2,λy j=>absurd U j⟩
def sR (c:attributeBase e f env (eval e env)=eval e env)
  (h:wpAny (model prog w) A (eval e env) (λo b=>wpAny (model prog w) A (getAttr o f true) Q E b) E s):wpAny (model prog w) A (eval (.Attribute e f pos) env) Q E s:=
 Attribute_any_ h (by rw[arm_eval_Attribute,c])
end
inductive VN (K:W.Frag)(f:Str)(Q:VK)(x:V)(H1:Hp):Prop
 | mk (a:_) (C:_) (dx:_) (fs:_) (v:_) (c0:x=.ref a) (c1:H1 a=some (.ins C dx fs)) (c2:Cls K C) (c3:NoAttr K C f) (c4:fs.lookup f=some v) (c5:Q v H1):VN K f Q x H1
def YD (K:W.Frag)(ta:TE)(f:Str):TE:=λσ H Q=>ta σ H λx H1=>VN K f Q x H1
def ZQ (K:W.Frag)(ta tv:TE)(f:Str):TS:=λD σ H=>tv σ H λy H1=>ta σ H1 λx H2=>∃a C dx fs,x=.ref a/\H2 a=some (.ins C dx fs)/\Cls K C/\NoAttr K C f/\fs.length<1000 /\
 D.nx σ (Y H2 a (.ins C dx (putF f y fs)))
section
variable {X:Cx}{o e value:Expr}{f:Str}{pos pos' tpos:Pos}{ta tv:TE}
def Fi (z:PE X e ta)(i:attributeBase e f X.env (eval e X.env)=eval e X.env):PE X (.Attribute e f pos) (YD X.K ta f):=by intro b s m H Q I h;refine sR i (thn (z b s m H _ I h) λu B d=>?_);obtain⟨x,y,j,g,a,C,E,fs,v,p,A,c,n,l,q⟩:=d;subst p;obtain rfl:u=Value.ref a:=g;exact pG j A c n l λD s2 w r=>⟨v,y,w,r,q⟩
def EY (E:PE X o ta)(v:PE X value tv)(G:swapsWith value (some (.Attribute o f pos')) pos.line X.env=pure false):PS X (.Assign [.Attribute o f pos'] value pos) (ZQ X.K ta tv f):=by intro b s d H D I h;refine plainObj_wpAny_Assign_Attribute (thn (v b s d H _ I h) λu j g=>?_) G;obtain⟨y,B,p,z,q⟩:=g;refine thn (E b j d B _ p q) ?_;rintro F s2⟨x,M,A,m,a,C,L,fs,w,K,c,n,l,r⟩;subst w;obtain rfl:F=Value.ref a:=m;exact Ze A K c n l z λs3 i=>⟨d,_,i,r⟩
end
structure Room (k:Nat)(A:Around):Prop where
 hd:A.handled=none
 dp:A.depth+3*k+5<recursionLimit
 un:A.units+16*k+200<cLine
def Room.mono {k:Nat} (r:Room k A)(h:j<=k):Room j A:=⟨r.hd,by have:=r.dp;lia,by have:=r.un;lia⟩
def Room.deeper {k:Nat} (r:Room (k+1) A)(env:Env):Room k (A.deeper env):=
 ⟨r.hd,by have:=r.dp;show A.depth+1+3*k+5<_;lia,by have:=r.un;show A.units+3+16*k+200<_;lia⟩
def lH {A:Around}{C:Addr}{us:List Value}{a:List (Str×Value)}:(A.under (.builtin "type.__call__" ⟨.ref C::us,a⟩)).depth=A.depth+1:=by first | rfl | simp[Around.under,Code.weight,Code.isCreation,Code.isGuard,Code.isCaller,Code.frames,Code.isFrame,guardIds]
def lE {A:Around}{C:Addr}{us:List Value}{a:List (Str×Value)}:(A.under (.builtin "type.__call__" ⟨.ref C::us,a⟩)).units=A.units+1:=by first | rfl | simp[Around.under,Code.cUnits,Code.frames,Code.isFrame]
def Room.make {k:Nat} (r:Room (k+1) A)(C:Addr)(us:List Value)(a:List (Str×Value)):Room k (A.under (.builtin "type.__call__" ⟨.ref C::us,a⟩)):=
 ⟨r.hd,by have:=r.dp;rw[lH];lia,by have:=r.un;rw[lE];lia⟩
def Room.depth {k:Nat} (r:Room k A):A.depth<recursionLimit:=by have:=r.dp;lia
def Room.units {k:Nat} (r:Room k A):A.units+64<cLine:=by have:=r.un;lia
def MH:TA:=λ_ H Q=>Q [] H
def TV (ta:TE)(tr:TA):TA:=λσ H Q=>ta σ H λx H1=>tr σ H1 λxs H2=>Q (x::xs) H2
section
variable {X:Cx}{e:Expr}{es:List Expr}{te:TE}{t:TA}{pos:Pos}
def Ab:PA X [] MH:=λ_ _ _ _ H Q I h=>Se ⟨[],H,I,.nil,h⟩
def Aa (q:PE X e te)(l:PA X es t)(r:starEach (e::es) X.env=(false,eval e X.env)::starEach es X.env:=by rfl):PA X (e::es) (TV te t):=by intro pos a s c H Q I h;rw[r];refine OP (thn (q a s c H _ I h) λu d b=>?_);obtain⟨x,p,f,j,n⟩:=b;exact thn (l pos a d c p _ f n) λus s2 b=>by obtain⟨xs,m,o,i,g⟩:=b;exact⟨x::xs,m,o,.cons j i,g⟩
def Yl (t:TA):TE:=λσ H Q=>t σ H λxs H1=>xs.length<=sizeLine/\∀p,H1 p=none->Q (.ref p) (Y H1 p (.tup xs))
def Yu (t:TA):TE:=λσ H Q=>t σ H λxs H1=>xs.length<=sizeLine/\∀p,H1 p=none->Q (.ref p) (Y H1 p (.lst xs))
def Bm {x1}(h:PA X es t):PE X (.Tuple es x1 pos) (Yl t):=by intro a s i H Q I g;refine wpAny_Tuple_spliced (thn (h pos a s i H _ I g) λus d c=>?_);obtain⟨xs,j,f,r,z,q⟩:=c;refine⟨by rw[<- r.length];exact z,?_⟩;refine⟨.ref d.heap.objs.size,Y j d.heap.objs.size (.tup xs),f.laid (λb u e=>AV _ e) (An _) ?_,U,q _ (f.hok.fresh (An _))⟩;exact⟨z,us,r,⟨_,Bs _ U,U,_,U⟩⟩
def AZ (h:PA X es t):PE X (.List es pos) (Yu t):=by intro a s i H Q I g;refine wpAny_List_spliced (thn (h pos a s i H _ I g) λus d c=>?_);obtain⟨xs,j,f,r,z,q⟩:=c;refine⟨by rw[<- r.length];exact z,?_⟩;refine⟨.ref d.heap.objs.size,Y j d.heap.objs.size (.lst xs),f.laid (λb u e=>AV _ e) (An _) ?_,U,q _ (f.hok.fresh (An _))⟩;exact⟨z,us,0,r,Bs _ U⟩
end
abbrev Sp:=List V->Hp->VK->XK->Prop
abbrev DT:=List Env->Hp->Shared->XK->Value->Shared->Prop
structure Env0 (P:Program)(w:World)(K:W.Frag)(mg:Str->Option Value)(base:Heap)(A:Around)(outer:List Env)(s:Shared)(H:Hp):Prop where
 frames:A.frames=some outer
 mod:Mod K mg base
 bs:∀b o,base.get? b=some o->s.heap.get? b=some o/\H b=none
 bsz:base.objs.size<=s.heap.objs.size
 funs:s.heap.FunFrames base outer
 frf:∀b∈Cp outer,H b=none
 hok:HOk P w H s.heap
 bare:AllBare s.gens
def CE (outer:List Env)(P:Program)(w:World)(H:Hp)(s:Shared)(Q:VK)(u:Value)(s':Shared):Prop:=
 ∃v H',s'.os=s.os/\AllBare s'.gens/\Un (Cp outer) [] H H' s.heap s'.heap/\HOk P w H' s'.heap/\RelV v u/\Q v H'
def CR (CX:DT)(outer:List Env)(P:Program)(w:World)(H:Hp)(s:Shared)(Q:VK)(E:XK)(r:Result)(s':Shared):Prop:=
 match r with
 | .ok (.ret u)=>CE outer P w H s Q u s'
 | .ok _=>False
 | .error e=>CX outer H s E e s'
structure FnOk (P:Program)(w:World)(K:W.Frag)(mg:Str->Option Value)(base:Heap)(CX:DT)(k:Nat)(f:Addr)(fd:FuncData)(ps:List Str)(sp:Sp):Prop where
 len:∀vs H Q E,sp vs H Q E->vs.length=ps.length
 run:∀(A:Around) (outer:List Env) (s:Shared) (H:Hp) (args:Args) (us:List Value) (vs:List V) (Q:VK) (E:XK),Room k A->Env0 P w K mg base A outer s H->BindsTo s fd args (ps.zip us)->Vals vs us->sp vs H Q E ->
  codeAny (model P w) A (.call (.ref f) args) (CR CX outer P w H s Q E) s
def FnOk.mono {P:Program}{w:World}{K:W.Frag}{mg:Str->Option Value}{base:Heap}{b:DT}{j k:Nat}{f:Addr}{a:FuncData}{ps:List Str}{sp:Sp}(F:FnOk P w K mg base b j f a ps sp)(h:j<=k) :
  FnOk P w K mg base b k f a ps sp:=⟨F.len,λA outer s H args us vs Q E c=>F.run A outer s H args us vs Q E (c.mono h)⟩
def FnOk.imp {P:Program}{w:World}{K:W.Frag}{mg:Str->Option Value}{base:Heap}{b:DT}{k:Nat}{f:Addr}{a:FuncData}{ps:List Str}{c sp':Sp}(F:FnOk P w K mg base b k f a ps c)
  (h:∀vs H Q E,sp' vs H Q E->c vs H Q E):FnOk P w K mg base b k f a ps sp':=
 ⟨λvs H Q E q=>F.len vs H Q E (h _ _ _ _ q),λA outer s H args us vs Q E g i d e j=>F.run A outer s H args us vs Q E g i d e (h _ _ _ _ j)⟩
def Env0.make {P:Program}{w:World}{K:W.Frag}{mg:Str->Option Value}{base:Heap}{A:Around}{outer:List Env}{s:Shared}{H:Hp}(e:Env0 P w K mg base A outer s H)(C:Addr)(us:List Value)(a:List (Str×Value)) :
  Env0 P w K mg base (A.under (.builtin "type.__call__" ⟨.ref C::us,a⟩)) outer s H:=⟨by first | exact e.frames | (simpa [Around.under,Code.envs,Code.isFrame,pushEnvs] using e.frames),e.mod,e.bs,e.bsz,e.funs,e.frf,e.hok,e.bare⟩
section
variable {X:Cx}{dv:List (Addr×Obj)}{σ:St}{H:Hp}{s s':Shared}
def Inv.env0 (I:Inv X dv σ H s):Env0 X.prog X.w X.K X.mg X.base X.A X.stack s H:=
 ⟨I.ok.frames,I.ok.mod,I.bs,Er I.ok.bsz I.sz,I.stack,I.stkFree,I.hok,I.bare⟩
def Inv.after (I:Inv X dv σ H s)(h:CE X.stack X.prog X.w H s Q u s'):EP X dv σ Q u s':=by obtain⟨v,H',os,a,un,e,r,q⟩:=h;obtain⟨f,g,d,t,c⟩:=s';obtain rfl:c=s.os:=os;exact⟨v,H',I.call un e a (λb z=>absurd z Θ),r,q⟩
end
def MI (sp:Sp)(dvs:List V)(E:XK)(t:TA):TE:=λσ H Q=>t σ H λvs H1=>sp (vs++dvs) H1 Q E
inductive VD (C:Addr)(m:Str)(x:V)(H1:Hp)(R:Prop):Prop
 | mk (a:_) (dx:_) (fs:_) (c0:x=.ref a) (c1:H1 a=some (.ins C dx fs)) (c2:fs.lookup m=none) (c3:R):VD C m x H1 R
def TU (C:Addr)(m:Str)(sp:Sp)(dvs:List V)(E:XK)(ta:TE)(t:TA):TE:=λσ H Q=>ta σ H λx H1=>VD C m x H1 (t σ H1 λvs H2=>sp (x::(vs++dvs)) H2 Q E)
def Yt (C:Addr)(sp:Sp)(dvs:List V)(E:XK)(t:TA):TE:=λσ H Q=>t σ H λvs H1=>∀x dx,H1 x=none->H1 dx=none->dx≠x ->
 sp (.ref x::(vs++dvs)) (Y (Y H1 dx (.own x)) x (.ins C dx [])) (λv H2=>v=.non/\Q (.ref x) H2) E
def Binds (K:W.Frag)(fd:FuncData)(ps:List Str)(ds:List Value):Prop:=
 ∀(s:Shared) (us:List Value),K.In s.heap->(us++ds).length=ps.length->BindsTo s fd ⟨us,[]⟩ (ps.zip (us++ds))
def Binds.all {K:W.Frag}{a:FuncData}{ps:List Str}(h:∀us:List Value,us.length=ps.length->bindArgs a ⟨us,[]⟩=pure (ps.zip us)):Binds K a ps []:=λs us _ b=>by rw[Cc]at b ⊢;exact .of_eq (h us b)
def EU (CX:DT)(X:Cx)(E:XK):Prop:=∀(dv:List (Addr×Obj)) (σ:St) (H:Hp) (s:Shared) (e:Value) (s':Shared),Inv X dv σ H s->CX X.stack H s E e s'->X.xe e s'
section
variable {X:Cx}{CX:DT}{k:Nat}{f C:Addr}{fd:FuncData}{ps:List Str}{sp:Sp}{dvs:List V}{ds:List Value}{E:XK}{x m:Str}{p pos apos:Pos}{e o:Expr}{es:List Expr}{ta:TE}{t:TA}
def ND (F:FnOk X.prog X.w X.K X.mg X.base CX k f fd ps sp)(i:Room k X.A)(c:Binds X.K fd ps ds)(d:Vals dvs ds)(g:EU CX X E)
  (I:Inv X dv σ H s)(r:Vals vs us)(h:sp (vs++dvs) H Q E):wpAny (model X.prog X.w) X.A (call (.ref f) us) (EP X dv σ Q) X.xe s:=by
 have b:=r.append d
 have j:(us++ds).length=ps.length:=by rw[<- b.length];exact F.len _ _ _ _ h
 refine JY (F5 (F.run X.A X.stack s H ⟨us,[]⟩ (us++ds) (vs++dvs) Q E i I.env0 (c s us I.kIn j) b h) λr s' a=>?_)
 cases r with
 | error e=>exact g dv σ H s e s' I a
 | ok fl=>
  cases fl with
  | ret u=>exact I.after a
  | next=>exact False.elim a
  | brk=>exact False.elim a
  | cont=>exact False.elim a
def Bc (F:FnOk X.prog X.w X.K X.mg X.base CX k f fd ps sp)(v:Room k X.A)(j:Gl X x)(u:X.mg x=some (.ref f))(w:PySem.W.keepIn X.K (.ref f)=true)(i:Binds X.K fd ps ds)(n:Vals dvs ds)(z:EU CX X E)
  (y:PA X (e::es) t)(d:(x == ("__debug__" : Str))=false:=by decide)(A:starEach (e::es) X.env=(false,eval e X.env)::starEach es X.env:=by rfl)(c:(backTo pos (starEach es X.env)).any (·.1)=false:=by rfl) :
  PE X (.Call (.Name x p) (e::es) [] pos) (MI sp dvs E t):=by
 intro a s l H Q I h
 refine Mf (JB I j u ?_ d)
 refine Sn I.ok.mod.kin w (thn (y pos a s l H _ I h) λus B b=>?_) A c
 obtain⟨vs,D,g,r,q⟩:=b
 refine⟨g.kIn,?_⟩
 exact ND F v i n z g r q
def cE (F:FnOk X.prog X.w X.K X.mg X.base CX k f fd ps sp)(n:Room k X.A)(g:Gl X x)(l:X.mg x=some (.ref f))(d:PySem.W.keepIn X.K (.ref f)=true)(c:Binds X.K fd ps ds)(i:Vals dvs ds)(j:EU CX X E)
  (a:(x == ("__debug__" : Str))=false:=by decide):PE X (.Call (.Name x p) [] [] pos) (MI sp dvs E MH):=by
 intro b s q H Q I h
 refine Mf (JB I g l ?_ a)
 exact PySem.W.callWith_K0 I.kIn d (ND F n c i j I .nil h)
def Je (G:PE X o ta)(c:Cls X.K C)(v:Dv X.K C m f)(F:FnOk X.prog X.w X.K X.mg X.base CX k f fd ps sp)(R:Room k X.A)(z:Binds X.K fd ps ds)(A:Vals dvs ds)(S:EU CX X E)(D:PA X (e::es) t)
  (g:starEach (e::es) X.env=(false,eval e X.env)::starEach es X.env:=by rfl)(i:(backTo pos (starEach es X.env)).any (·.1)=false:=by rfl)
  (P:eval (.Call (.Attribute o m apos) (e::es) [] pos) X.env=(do
   let ov <- eval o X.env;standAt apos.atName;let (f,first) <- holding [ov] (getMethod ov m pl);callWith pos f first (backTo pos (starEach (e::es) X.env)) (backToKw pos (keywordEach [] X.env))):=by rfl) :
  PE X (.Call (.Attribute o m apos) (e::es) [] pos) (TU C m sp dvs E ta t):=by
 intro b s n H Q I h
 refine PySem.W.methodCall_KW (thn (G b s n H _ I h) λu L d=>?_) P
 obtain⟨x,B,j,y,a,T,fs,N,K,l,q⟩:=d
 subst N
 obtain rfl:u=Value.ref a:=y
 apply VU j K c v l
 refine Sn I.ok.mod.kin v.kp (thn (D pos b L n B _ j q) λus s2 d=>?_) g i
 obtain⟨vs,W,w,r,M⟩:=d
 refine⟨w.kIn,?_⟩
 exact ND (vs:=.ref a::vs) F R z A S w (.cons U r) M
def Hv (B:PE X o ta)(c:Cls X.K C)(i:Dv X.K C m f)(F:FnOk X.prog X.w X.K X.mg X.base CX k f fd ps sp)(z:Room k X.A)(n:Binds X.K fd ps ds)(v:Vals dvs ds)(A:EU CX X E)
  (y:eval (.Call (.Attribute o m apos) [] [] pos) X.env=(do
   let ov <- eval o X.env;standAt apos.atName;let (f,first) <- holding [ov] (getMethod ov m pl);callWith pos f first (backTo pos (starEach [] X.env)) (backToKw pos (keywordEach [] X.env))):=by rfl) :
  PE X (.Call (.Attribute o m apos) [] [] pos) (TU C m sp dvs E ta MH):=by
 intro b s r H Q I h
 refine PySem.W.methodCall_KW (thn (B b s r H _ I h) λu G g=>?_) y
 obtain⟨x,L,d,j,a,K,fs,w,D,l,q⟩:=g
 subst w
 obtain rfl:u=Value.ref a:=j
 apply VU d D c i l
 exact PySem.W.callWith_K0 d.kIn i.kp (ND (vs:=[.ref a]) F z n v A d (.cons U .nil) q)
structure Mk (K:W.Frag)(C f:Addr):Prop where
 makes:PySem.W.makesIn K C=true
 init:PySem.W.findIn K (.ref C) "__init__" = some (some (.ref f))
 fn:PySem.W.isFn K (.ref f)=true
 kp:PySem.W.keepIn K (.ref C)=true
def ZU (M:Mk X.K C f)(F:FnOk X.prog X.w X.K X.mg X.base CX k f fd ps sp)(z:Room (k+1) X.A)(j:Binds X.K fd ps ds)(l:Vals dvs ds)
  (A:EU CX X E)(I:Inv X dv σ H s)(r:Vals vs us)
  (h:∀x b,H x=none->H b=none->b≠x->sp (.ref x::(vs++dvs)) (Y (Y H b (.own x)) x (.ins C b [])) (λv y=>v=.non/\Q (.ref x) y) E) :
  wpAny (model X.prog X.w) X.A (call (.ref C) us) (EP X dv σ Q) X.xe s:=by
 have d:=h (s.heap.objs.size+1) s.heap.objs.size (I.hok.fresh (Fb _)) (I.hok.fresh (An _)) (Bk (G5 _))
 have c:=Inv.made (C:=C) I
 have g:Vals (V.ref (s.heap.objs.size+1)::(vs++dvs)) (Value.ref (s.heap.objs.size+1)::(us++ds)):=.cons U (r.append l)
 have B:(Value.ref (s.heap.objs.size+1)::us++ds).length=ps.length:=by have e:=g.length;rw[F.len _ _ _ _ d]at e;exact e.symm
 refine JY (lG I.kIn M.makes M.init (FC.mp M.fn) (F5 (F.run _ X.stack _ _ ⟨Value.ref (s.heap.objs.size+1)::us,[]⟩ (Value.ref (s.heap.objs.size+1)::(us++ds)) _ _ E (z.make C us []) (c.env0.make C us []) (j _ (Value.ref (s.heap.objs.size+1)::us) c.kIn B) g d) λr s' a=>?_))
 cases r with
 | error e=>exact A dv σ _ _ e s' c a
 | ok fl=>
  cases fl with
  | ret u=>obtain⟨v,H',q,n,i,w⟩:=c.after a;subst i;exact⟨n,⟨V.ref (s.heap.objs.size+1),H',q,U,w⟩⟩
  | next=>exact False.elim a
  | brk=>exact False.elim a
  | cont=>exact False.elim a
def Hw (M:Mk X.K C f)(F:FnOk X.prog X.w X.K X.mg X.base CX k f fd ps sp)(v:Room (k+1) X.A)(j:Gl X x)(u:X.mg x=some (.ref C))(i:Binds X.K fd ps ds)(n:Vals dvs ds)(y:EU CX X E)
  (w:PA X (e::es) t)(d:(x == ("__debug__" : Str))=false:=by decide)(z:starEach (e::es) X.env=(false,eval e X.env)::starEach es X.env:=by rfl)(c:(backTo pos (starEach es X.env)).any (·.1)=false:=by rfl) :
  PE X (.Call (.Name x p) (e::es) [] pos) (Yt C sp dvs E t):=by
 intro a s l H Q I h
 refine Mf (JB I j u ?_ d)
 refine Sn I.ok.mod.kin M.kp (thn (w pos a s l H _ I h) λus A b=>?_) z c
 obtain⟨vs,B,g,r,q⟩:=b
 refine⟨g.kIn,?_⟩
 exact ZU M F v i n y g r q
end
structure AI (N P:List Str)(sc:Scope):Prop where
 kind:sc.kind=.function
 co:sc.isCoroutine=false
 gen:sc.isGenerator=false
 nd:N.Nodup
 pre:N.take P.length=P
 par:∀x∈P,sc.names.lookup x=some .local\/sc.names.lookup x=some .cell
 nofree:∀y∈sc.names,y.2≠.free
theorem W3 {a:Str->Option NameKind}{x:Str}:∀{binds:List (Str×Value)}{m:Str->Option Value},(∀v,(x,v)∉binds)->bindL a binds m x=m x
 | [],_,_=>rfl
 | (n,v)::r,m,h=>by
  unfold bindL;rw[W3 λw b=>h w (AY _ b)];split
  ·have:x≠n:=by rintro rfl;exact h v A9
   simp[this]
  rfl
theorem W7 {a:Str->Option NameKind}{x:Str}:∀{binds:List (Str×Value)}{m:Str->Option Value},(∀v,(x,v)∉binds)->bindC a binds m x=m x
 | [],_,_=>rfl
 | (n,v)::r,m,h=>by
  unfold bindC;rw[W7 λw b=>h w (AY _ b)];split
  ·rfl
  have:x≠n:=by rintro rfl;exact h v A9
  simp[this]
theorem W4 {a:Str->Option NameKind}{x:Str}{v:Value}:∀{P:List Str}{vs:List Value}{i:Nat}{m:Str->Option Value},P.Nodup->P[i]? = some x->vs[i]? = some v->a x=some .local ->
  bindL a (P.zip vs) m x=some v
 | [],_,_,_,_,h,_,_=>by simp at h
 | _::_,[],_,_,_,_,h,_=>by simp at h
 | p::P,w::vs,0,m,nd,h1,h2,hk=>by simp at h1 h2;subst h1;subst h2;show bindL a ((p,w)::P.zip vs) m p=_;unfold bindL;rw[W3 λv b=>(B6.mp nd).1 (L0 b).1,Ar hk];simp
 | p::P,w::vs,i+1,m,nd,h1,h2,hk=>by show bindL a ((p,w)::P.zip vs) m x=_;unfold bindL;exact W4 (i:=i) (B6.mp nd).2 (by simpa using h1) (by simpa using h2) hk
theorem W8 {a:Str->Option NameKind}{x:Str}{v:Value}:∀{P:List Str}{vs:List Value}{i:Nat}{m:Str->Option Value},P.Nodup->P[i]? = some x->vs[i]? = some v->a x≠some .local ->
  bindC a (P.zip vs) m x=some v
 | [],_,_,_,_,h,_,_=>by simp at h
 | _::_,[],_,_,_,_,h,_=>by simp at h
 | p::P,w::vs,0,m,nd,h1,h2,hk=>by simp at h1 h2;subst h1;subst h2;show bindC a ((p,w)::P.zip vs) m p=_;unfold bindC;rw[W7 λv b=>(B6.mp nd).1 (L0 b).1,Ak hk];simp
 | p::P,w::vs,i+1,m,nd,h1,h2,hk=>by show bindC a ((p,w)::P.zip vs) m x=_;unfold bindC;exact W8 (i:=i) (B6.mp nd).2 (by simpa using h1) (by simpa using h2) hk
def start (N:List Str)(vs:List V):St:=vs.map some++replicate (N.length-vs.length) none
def DO (CX:DT)(P:Program)(w:World)(K:W.Frag)(mg:Str->Option Value)(base:Heap)(N:List Str)(qual:Str)(scope:Scope)(f:Addr)(cd:Value)(A:Around)(outer:List Env)(s:Shared)(H:Hp)(E:XK):Cx where
 prog:=P
 w:=w
 K:=K
 mg:=mg
 base:=base
 A:=A.deeper (envOfC qual scope s.heap.objs.size f cd)
 N:=N
 s₀:=s
 H₀:=H
 env:=envOfC qual scope s.heap.objs.size f cd
 outer:=outer
 stack:=envOfC qual scope s.heap.objs.size f cd::outer
 ex:=[]
 calm:=true
 fn:=λ_=>true
 pn:=[]
 xe:=λe s'=>wpAny (model P w) (A.deeper (envOfC qual scope s.heap.objs.size f cd)) (leaving (envOfC qual scope s.heap.objs.size f cd) e) (λ_ s''=>CX outer H s E e s'') (λe' s''=>CX outer H s E e' s'') s'
def WS {sc:Scope}{n:Nat}{x:Str}(h:sc.names.lookup x=some .cell):∃c,(cellsFrom n sc.names []).lookup x=some c:=by exact isSome_iff_exists.mp (PySem.W.cellsFrom_some sc.names n [] (.inl h))
def nI {L:DT}{P:Program}{w:World}{K:W.Frag}{mg:Str->Option Value}{base:Heap}{N ps:List Str}{g:Str}{d:Scope}{f:Addr}{F:Value}{A:Around}{outer:List Env}{s s1:Shared}{H:Hp}{E:XK}{us:List Value}{vs:List V}
  (S:AI N ps d)(M:A.handled=none)(l:Env0 P w K mg base A outer s H)(hl:vs.length=ps.length)(r:Vals vs us)
  (x:InCallC s s.heap.objs.size (bindL (envOfC g d s.heap.objs.size f F).kindOf (ps.zip us) λ_=>none) (cellsFrom (s.heap.objs.size+1) d.names []) (bindC (envOfC g d s.heap.objs.size f F).kindOf (ps.zip us) λ_=>none) s1) :
  Inv (DO L P w K mg base N g d f F A outer s H E) [] (start N vs) H s1:=by
 have T:ps.length<=N.length:=by have:=BQ List.length S.pre;rw[Bh]at this;lia
 obtain⟨D,tk,rfl,I⟩:=x.done
 have m:∀b:Addr,b∉(DO L P w K mg base N g d f F A outer s H E).ex:=λb z=>absurd (show b∈([]:List Addr) from z) Θ
 refine⟨⟨l.mod,S.kind,U,U,An _,λy z c D j=>?_,λy o=>?_,λy c _ h=>?_,λ_=>M,Around.frames_deeper l.frames,.inr ⟨U,U⟩,λb z=>absurd z (m b),l.bs,l.bsz,λb _ _=>m b,λb z=>absurd z (m b),l.funs,l.frf⟩,U,l.bare,Un.kept I,⟨_,x.toInCall.ns,λi y v D j X=>?_⟩,λy c h=>⟨_,x.cell y c h⟩,l.hok.fresh (An _),λy c h=>?_,λp B=>absurd (show p∈([]:List (Addr×Obj)) from B) Θ,l.hok.kept I,?_⟩
 ·exact name_of_addr x.apart (Mg D) (Mg j)
 ·have o:d.names.lookup y=some .cell\/d.names.lookup y=some .free:=o;rcases o with o | o
  ·exact WS o
  exact absurd U (S.nofree _ (Mg o))
 ·exact Ib (x.above y c (Mg h))
 ·have C:i<vs.length:=by
   unfold start at j;by_cases C:i<vs.length
   ·exact C
   rw[ER (by simpa using C)]at j;rw[OO]at j;split at j <;> cases j
  have Q:vs[i]? = some v:=by
   unfold start at j;rw[Da (by simpa using C),AQ]at j;cases e:vs[i]? with
   | none=>rw[e]at j;cases j
   | some a=>rw[e]at j;cases j;rfl
  obtain⟨u,G,R⟩:=r.get Q;have B:ps[i]? = some y:=by rw[<- S.pre,getElem?_take_of_lt Ψ];exact D
  have ndP:ps.Nodup:=by rw[<- S.pre];exact S.nd.sublist (F4 _ _)
  refine⟨u,R,?_⟩;rcases S.par y (Br B)with k | k
  ·exact .inl ⟨k,W4 ndP B G k⟩
  obtain⟨c,e⟩:=WS (n:=s.heap.objs.size+1) k;refine .inr ⟨.inl k,c,e,?_⟩;have q:=x.cell y c e;rw[W8 ndP B G (by show d.names.lookup y≠_;rw[k];decide)]at q;exact q
 ·exact l.hok.fresh (Ib (x.above y c (Mg h)))
 unfold start
 show _=N.length
 rw[AG,Ai,Fz]
 lia
def V1 {C:DT}{P:Program}{w:World}{K:W.Frag}{mg:Str->Option Value}{base:Heap}{k:Nat}{f:Addr}{name d:Str}{g:Arguments}{h:List Stmt}{c:Scope}{X kV z T cdv ct oc:Value}{R od:Option Addr}
  {G:Array (Option Value)}{N ps:List Str}{sp:Sp}(lk:K.lookup f=some ⟨oc,od,.func (PySem.W.fnOf name d g h c X kV z T R cdv ct),G⟩)(F:PySem.W.codeIn K cdv d=true)(S:AI N ps c)
  (len:∀vs H Q E,sp vs H Q E->vs.length=ps.length)
  (j:∀(A:Around) (outer:List Env) (s:Shared) (H:Hp) (vs:List V) (Q:VK) (E:XK),Room k (A.deeper (envOfC d c s.heap.objs.size f cdv))->sp vs H Q E -> ∃t,PSs (DO C P w K mg base N d c f cdv A outer s H E) h t/\t { nx:=λ_ H'=>Q .non H',rt:=Q } (start N vs) H) :
  FnOk P w K mg base C (k+1) f (PySem.W.fnOf name d g h c X kV z T R cdv ct) ps sp:=by
 refine⟨len,λA outer s H args us vs Q E M p hb r B=>?_⟩
 have hl:=len _ _ _ _ B
 have KX:K.In s.heap:=p.mod.kin.keeps λb o e=>(p.bs b o e).1
 have D:s.heap.NoLimit:=p.mod.nolimit.keeps λb o e=>(p.bs b o e).1
 have l:∀y∈ps.zip us,c.names.lookup y.1=some .local\/(c.names.lookup y.1=some .cell/\((cellsFrom (s.heap.objs.size+1) c.names []).lookup y.1).isSome=true):=λ⟨n,v⟩ hy=>by
  rcases S.par n (L0 hy).1 with q | q
  ·exact .inl q
  exact .inr ⟨q,PySem.W.cellsFrom_some _ _ _ (.inl q)⟩
 refine codeAny_call_function M.depth (KX _ _ lk) U S.co S.gen U (PySem.W.codeRec_of KX F) (hb _ _ _ _ ?_)
 refine wpAny_newFunctionEnv_cells S.kind l λenv he s1 x=>?_
 subst he
 refine⟨D.keeps x.toInCall.keep,codeAny_func ?_⟩
 obtain⟨t,ht,hq⟩:=j A outer s H vs Q E (M.deeper _) B
 have I:Inv (DO C P w K mg base N d c f cdv A outer s H E) [] (start N vs) H s1:=nI S M.hd p hl r x
 refine CZ (ht [] s1 (start N vs) H _ I hq) (λfl s' m=>?_) λe s' m=>m
 have fin:∀{i:St}{H':Hp}{v:V}{u:Value},Inv (DO C P w K mg base N d c f cdv A outer s H E) [] i H' s'->RelV v u->Q v H'->CE outer P w H s Q u s':=
  λ{i H' v u} a L q=>⟨v,H',a.os,a.bare,a.base,a.hok,L,q⟩
 cases fl with
 | ret u=>obtain⟨v,i,H',a,L,q⟩:=m;exact fin a L q
 | next=>obtain⟨i,H',a,q⟩:=m;exact fin (v:=V.non) (u:=Value.none) a U q
 | brk=>obtain⟨_,_,_,q⟩:=m;exact False.elim q
 | cont=>obtain⟨_,_,_,q⟩:=m;exact False.elim q
section
variable {X:Cx}{x:Str}{p pos:Pos}{e:Expr}{es:List Expr}{t:TA}{id T:String}{r:List V->Hp->VK->Prop}
def TY (r:List V->Hp->VK->Prop)(t:TA):TE:=λσ H Q=>t σ H λvs H1=>r vs H1 Q
def AX (w:Cs X (.builtin id) r)(j:Gl X x)(n:X.mg x=none)(m:bootBuiltins x=some (.builtin id))(v:PA X (e::es) t)(l:x ≠ "__name__" := by decide)(d:(x == ("__debug__" : Str))=false:=by decide)
  (y:starEach (e::es) X.env=(false,eval e X.env)::starEach es X.env:=by rfl)(c:(backTo pos (starEach es X.env)).any (·.1)=false:=by rfl):PE X (.Call (.Name x p) (e::es) [] pos) (TY r t):=by
 intro a s f H Q I h
 refine Mf (JC I j n m ?_ l d)
 exact PyProof.Rows.callWith_builtin1 (thn (v pos a s f H _ I h) λus g b=>by obtain⟨vs,u,i,o,q⟩:=b;exact w a g f u vs us Q i o q) y c
def BK (w:Cs X (.type T) r)(j:Gl X x)(n:X.mg x=none)(m:bootBuiltins x=some (.type T))(v:PA X (e::es) t)(l:x ≠ "__name__" := by decide)(d:(x == ("__debug__" : Str))=false:=by decide)
  (y:starEach (e::es) X.env=(false,eval e X.env)::starEach es X.env:=by rfl)(c:(backTo pos (starEach es X.env)).any (·.1)=false:=by rfl):PE X (.Call (.Name x p) (e::es) [] pos) (TY r t):=by
 intro a s f H Q I h
 refine Mf (JC I j n m ?_ l d)
 exact O3 (thn (v pos a s f H _ I h) λus g b=>by obtain⟨vs,u,i,o,q⟩:=b;exact w a g f u vs us Q i o q) y c
end
end L2
namespace HT
open PySem PyProof.Rows
section
open PySem.SeqAt
open PySem.AutoSeq1 (wpAny_loadPart')
open PySem.MeetsSeq PySem.MeetsSeq2 PySem.MeetsSeq3
end
section
variable {prog:Program}{w:World}{A:Around}{E:Value->Shared->Prop}{s:Shared}
def cat_tup {t:Addr} (v:IsTup s.heap t vs.toArray)(u:IsTup s.heap b ws.toArray)(o:vs≠[])
  (y:ws=[]->Q (.ref t) s)(x:ws≠[]->Q (.ref s.heap.objs.size) { s with heap:=s.heap.push { cls:=.type "tuple",data:=.seq (vs++ws).toArray } })
  (hsz:vs.length+ws.length<=sizeLine):wpAny (model prog w) A (binaryOp .Add (.ref t) (.ref b)) Q E s:=by
 obtain⟨⟨cls,dd,data,r⟩,i,q,n,m⟩:=id v
 obtain⟨⟨p,d,j,f⟩,a,g,l,c⟩:=id u
 simp only at q m g c
 subst q m g c
 have e:vs.toArray++ws.toArray=(vs++ws).toArray:=by simp
 by_cases h:ws=[]
 ·exact concat_meets ⟨_,i,U⟩ ⟨_,a,U⟩ noFill_tuple_add seq_tuple_add SE SH (SN _ _)
   (tuple_addW1 t b vs.toArray ws.toArray n l dd d r f (by simpa using o) (by simp[h])) ⟨i,a,y h⟩
 refine concat_meets ⟨_,i,U⟩ ⟨_,a,U⟩ noFill_tuple_add seq_tuple_add SE SH (SN _ _)
  (tuple_addW2 t b vs.toArray ws.toArray n l dd d r f (by simpa using o) (by simpa using h) (by rw[BJ,BJ];exact hsz)) ⟨i,a,?_⟩
 rw[e]
 exact x h
def sIx (n d:Nat):Option Int->Nat
 | none=>d
 | some v=>if v<0 then(v+(n:Int)).toNat else min v.toNat n
def sIx_none (n d:Nat):sIx n d none=d:=rfl
def sIx_nat (n d k:Nat):sIx n d (some (k:Int))=min k n:=by show(if (k:Int)<0 then((k:Int)+(n:Int)).toNat else min (k:Int).toNat n)=min k n;rw[Ak Ψ,C9]
def ZP (n d:Nat)(b:d<=n)(o:Option Int):sIx n d o<=n:=by
 cases o with
 | none=>exact b
 | some v=>
  show(if v<0 then(v+(n:Int)).toNat else min v.toNat n)<=n;by_cases a:v<0
  ·rw[Ar a];lia
  rw[Ak a];exact Nat.min_le_right _ _
def WQ (v:Int)(n d:Nat):(if v<0 then max (v+(n:Int)) 0 else min v (n:Int))=((sIx n d (some v):Nat):Int):=by
 show(if v<0 then max (v+(n:Int)) 0 else min v (n:Int))=(((if v<0 then(v+(n:Int)).toNat else min v.toNat n):Nat):Int);by_cases a:v<0
 ·simp only[Ar a];lia
 simp[Ak a];lia
def tG (lo a:Option Int)(n:Nat):Builtin.Slice.sliceAdjust lo a 1 (n:Int)=(((sIx n 0 lo:Nat):Int),((sIx n n a:Nat):Int)):=by
 have b:¬((1:Int)<0):=by lia
 unfold Builtin.Slice.sliceAdjust;simp only[b,Es];refine Prod.ext ?_ ?_
 ·cases lo with
  | none=>rfl
  | some v=>exact WQ v n 0
 cases a with
 | none=>rfl
 | some v=>exact WQ v n n
def bH (i j:Nat):Builtin.Slice.slicePlaces (i:Int) (j:Int) 1=j-i:=by
 unfold Builtin.Slice.slicePlaces;have a:(1:Int) > 0:=by lia
 simp[a,FA,Int.ediv_one];split <;> lia
def Ub (p:IsPart v o)(h:Q o s):wpAny (model prog w) A (Builtin.Slice.slicePartIndex v) Q E s:=by
 cases p with
 | none=>exact slicePart_none h
 | int i t=>exact slicePart_int h
def Y9 {f:Addr}{e d:Value}{lo b:Option Int}{n:Nat}{Q:Int×Int×Nat->Shared->Prop}(l:s.heap.IsSliceOf f e d .none)(i:IsPart e lo)(j:IsPart d b)
  (h:Q (((sIx n 0 lo:Nat):Int),1,sIx n n b-sIx n 0 lo) s):wpAny (model prog w) A (Builtin.Slice.sliceApplied (.ref f) (pure (n:Int))) Q E s:=by
 obtain⟨os,a,g,c⟩:=id l
 unfold Builtin.Slice.sliceApplied Builtin.Slice.sliceFields
 refine Ac (Ac (Ic a c (x:=e) U (Ac (Ic a c (x:=d) U (Ac (Ic a c (x:=.none) U (Aj ?_)))))))
 refine Ac (slicePart_none ?_)
 show wpAny _ _ (if ((1:Int) == 0)=true then _ else _) _ _ s
 rw[Ak Ξ]
 refine Ac (Ub i (Ac (Ub j (Ac (Aj ?_)))))
 show wpAny _ _ (match Builtin.Slice.sliceAdjust lo b 1 (n:Int)with | (lo,b)=>pure (lo,(1:Int),Builtin.Slice.slicePlaces lo b 1)) _ _ s
 rw[tG lo b n]
 show wpAny _ _ (pure (((sIx n 0 lo:Nat):Int),(1:Int),Builtin.Slice.slicePlaces ((sIx n 0 lo:Nat):Int) ((sIx n n b:Nat):Int) 1)) _ _ s
 rw[bH]
 exact Aj h
def bS (xs:Array Value)(i k:Nat):((List.range k).filterMap λ(m:Nat)=>xs[((i:Int)+(m:Int)*1).toNat]?).toArray=((xs.toList.drop i).take k).toArray:=by
 have e:(λ(m:Nat)=>xs[((i:Int)+(m:Int)*1).toNat]?)=λm=>xs[i+m]?:=by
  funext m;have:((i:Int)+(m:Int)*1).toNat=i+m:=by lia
  rw[this]
 rw[e];have:=pick_run xs i k;rw[List.filterMap_map]at this;have a:((λx=>xs[x]?) ∘ λx=>i+x)=λm=>xs[i+m]?:=rfl;rw[a]at this;rw[this]
def getItem_tuple_cut {t:Addr} {lo:Option Int} (b:IsTup s.heap t items)(g:s.heap.IsSliceOf sl vl vu .none)(i:IsPart vl lo)(j:IsPart vu hi)
  (l:¬(sIx items.size 0 lo=0/\sIx items.size items.size hi=items.size))
  (h:Q (.ref s.heap.objs.size) { s with heap:=s.heap.push { cls:=.type "tuple",data:=.seq ((items.toList.drop (sIx items.size 0 lo)).take (sIx items.size items.size hi-sIx items.size 0 lo)).toArray } })
  (hsz:items.size<=sizeLine):wpAny (model prog w) A (getItem (.ref t) (.ref sl)) Q E s:=by
 have a:sizeOk (.seq ((items.toList.drop (sIx items.size 0 lo)).take (sIx items.size items.size hi-sIx items.size 0 lo)).toArray):=by show((items.toList.drop (sIx items.size 0 lo)).take (sIx items.size items.size hi-sIx items.size 0 lo)).toArray.size<=sizeLine;rw[BJ,Bh,Dq,DF];lia
 have r:sIx items.size items.size hi<=items.size:=ZP _ _ (An _) hi
 obtain⟨os,c,f,n⟩:=id g
 have d:s.TypeIs (.ref sl) "slice" := ⟨os,c,f⟩
 unfold getItem
 try with_reducible refine Dj ?_
 first | refine Ac (Aj ?_) | skip
 refine Ac (wpAny_sequenceKey b.typeIs Ξ ?_)
 refine Ac (F0 (name:=Str.ofString "__getitem__") b.typeIs O4 (DC O4 b.typeIs entry_tuple_getitem ?_ (args_tuple_getitem _ _)))
 show wpAny _ _ (Builtin.Tuple.tupleItemsOf (.ref t) >>= _) _ _ s
 refine Ac (tupleItemsOf_ b ?_)
 refine Ac (J8 d ?_)
 rw[Ar Ξ]
 refine Ac (Y9 g i j ?_)
 have e:¬((((sIx items.size 0 lo:Nat):Int) == 0 && (1:Int) == 1 && (sIx items.size items.size hi-sIx items.size 0 lo) == items.size)=true):=by intro q;rw[BV,BV]at q;have p:((sIx items.size 0 lo:Nat):Int)=0:=JW q.1.1;have o:sIx items.size items.size hi-sIx items.size 0 lo=items.size:=JW q.2;exact l ⟨Ψ,Ψ⟩
 show wpAny _ _ (if (((sIx items.size 0 lo:Nat):Int) == 0 && (1:Int) == 1 && (sIx items.size items.size hi-sIx items.size 0 lo) == items.size)=true then _ else _) _ _ s
 rw[Ak e,bS]
 first
  | exact Ac (m:=Builtin.Tuple.tupleExact _) (DZ (Aj ⟨_,U,Aj h⟩) a)
  | exact Ac (m:=Builtin.Tuple.tupleExact _) (DZ (Ac (Aj (Aj ⟨_,U,Aj h⟩))) a)
  | exact Ac (Ac (m:=Builtin.Tuple.tupleExact _) (DZ (Aj (Aj ⟨_,U,Aj h⟩)) a))
  | exact Ac (Ac (m:=Builtin.Tuple.tupleExact _) (DZ (Aj ⟨_,U,Aj h⟩) a))
end
end HT
namespace L2
open PySem PySem.Spec PyProof.Rows
abbrev TO:=St->Hp->(Option Int->Hp->Prop)->Prop
def PO (X:Cx)(e:Option Expr)(t:TO):Prop:=
 ∀(dv:List (Addr×Obj)) (s:Shared) (σ:St) (H:Hp) (Q:Option Int->Hp->Prop),Inv X dv σ H s->t σ H Q ->
  wpAny (model X.prog X.w) X.A (evalPart e X.env) (λu s'=>∃o H',Inv X dv σ H' s'/\IsPart u o/\Q o H') X.xe s
def Ys:TO:=λ_ H Q=>Q none H
def Yo (t:TE):TO:=λσ H Q=>t σ H λx H1=>∃i,x=.int i/\Q (some i) H1
def nK :∀{us:List Value},Vals (ns.map V.int) us->IntsAre us ns:=by
 induction ns with
 | nil=>intro us r;rw[Eb]at r;cases r;exact .nil
 | cons n ns ih=>
  intro us r;rw[Bg]at r;cases r with
  | cons r1 r2=>obtain⟨t,e⟩:=r1;subst e;exact .cons n t (ih r2)
section
variable {X:Cx}{e:Expr}{te:TE}{lo hi:Option Expr}{tl th:TO}{pos p2:Pos}
def DH:PO X none Ys:=by intro a s b H Q I h;rw[evalPart_none];exact Aj ⟨none,H,I,.none,h⟩
def DG (h:PE X e te):PO X (some e) (Yo te):=by intro a s c H Q I f;rw[evalPart_some];refine thn (h a s c H _ I f) ?_;rintro u l⟨x,j,b,d,g⟩;obtain⟨i,rfl,q⟩:=g;obtain⟨t,rfl⟩:=d;exact⟨some i,j,b,.int i t,q⟩
def SY (X:Cx)(r:V->Option Int->Option Int->Hp->VK->Prop):Prop:=
 ∀(dv:List (Addr×Obj)) (s:Shared) (σ:St) (H:Hp) (x:V) (v vl vu:Value) (lo hi:Option Int) (sl:Addr) (Q:VK),Inv X dv σ H s->RelV x v->s.heap.IsSliceOf sl vl vu .none->IsPart vl lo->IsPart vu hi->r x lo hi H Q ->
  ∃T id,typeLookup (.type T) "__getitem__" = pure (some (.builtin id))/\s.TypeIs v T/\wpAny (model X.prog X.w) X.A (getItem v (.ref sl)) (EP X dv σ Q) X.xe s
def Yn (r:V->Option Int->Option Int->Hp->VK->Prop)(te:TE)(tl th:TO):TE:=λσ H Q=>te σ H λx H1=>tl σ H1 λl H2=>th σ H2 λu H3=>r x l u H3 Q
def DI (E:SY X r)(o:PE X e te)(N:PO X lo tl)(w:PO X hi th):PE X (.Subscript e (.Slice lo hi none p2) pos) (Yn r te tl th):=by intro a s d H Q I h;refine Subscript_ (thn (o a s d H _ I h) λv z c=>?_);obtain⟨x,n,i,m,K⟩:=c;refine wpAny_Slice (thn (N a z d n _ i K) λf s2 c=>?_);obtain⟨l,F,M,C,A⟩:=c;refine thn (w a s2 d F _ M A) ?_;rintro g s3⟨u,L,y,D,B⟩;rw[evalPart_none];apply Aj;obtain⟨T,P,p,G,j⟩:=E a { s3 with heap:=s3.heap.push { cls:=.type "slice",data:=.fields #[f,g,.none] } } d L x v f g l u s3.heap.objs.size Q (y.kept (t':=s3.toks) λb R q=>AV _ q) m (Heap.IsSliceOf.new ..) C D B;exact tail_any G p j (by with_unfolding_all rfl)
def BB (xs:List V)(lo hi:Option Int):List V:=(xs.drop (HT.sIx xs.length 0 lo)).take (HT.sIx xs.length xs.length hi-HT.sIx xs.length 0 lo)
def WI (xs:List V)(lo hi:Option Int):(BB xs lo hi).length<=xs.length:=by unfold BB;rw[Bh,Dq];lia
def Z6 (K:W.Frag):V->Option Int->Option Int->Hp->VK->Prop:=λx lo hi H Q=>∃a xs,x=.ref a/\SqT K H a xs /\
 ¬(HT.sIx xs.length 0 lo=0/\HT.sIx xs.length xs.length hi=xs.length)/\∀p,H p=none->Q (.ref p) (Y H p (.tup (BB xs lo hi)))
def Qq:SY X (Z6 X.K):=by
 rintro f s p H x v y w lo hi z Q I i o j l⟨a,xs,rfl,n,m,q⟩;cases i;obtain⟨d,r,g,h⟩:=I.tuple n;have c:d.toArray.size=xs.length:=by rw[BJ];exact r.length.symm
 refine⟨"tuple",_,O4.lookup,g.typeIs,?_⟩;refine HT.getItem_tuple_cut g o j l (c▸m) ?_ (c▸h);rw[c];refine⟨.ref s.heap.objs.size,_,I.laid (λb u q=>AV _ q) (An _) ?_,U,q _ (I.hok.fresh (An _))⟩;exact⟨Er (WI xs lo hi) h,_,(r.drop (HT.sIx xs.length 0 lo)).take (HT.sIx xs.length xs.length hi-HT.sIx xs.length 0 lo),IsTup.new _ _⟩
def aM (K:W.Frag):R2:=λx y H Q=>∃a b xs ys,x=.ref a/\y=.ref b/\SqT K H a xs/\SqT K H b ys/\xs≠[]/\xs.length+ys.length<=sizeLine /\
 (ys=[]->Q (.ref a) H)/\(ys≠[]->∀p,H p=none->Q (.ref p) (Y H p (.tup (xs++ys))))
def Vals.nil_iff (r:Vals xs us):us=[]↔xs=[]:=by
 cases r with
 | nil=>simp
 | cons _ _=>simp
def cT:Bz X (binaryOp .Add) (aM X.K):=by rintro f s B H x y v u Q I j n⟨a,b,xs,ys,rfl,rfl,r,l,A,h,p,m⟩;cases j;cases n;obtain⟨i,d,o,_⟩:=I.tuple r;obtain⟨g,c,p2,_⟩:=I.tuple l;refine HT.cat_tup o p2 (λz=>A (d.nil_iff.mp z)) (λz=>⟨.ref a,H,I,U,p (c.nil_iff.mp z)⟩) (λz=>?_) (by rw[<- d.length,<- c.length];exact h);refine⟨.ref s.heap.objs.size,_,I.laid (λb C q=>AV _ q) (An _) ?_,U,m (λw=>z (c.nil_iff.mpr w)) _ (I.hok.fresh (An _))⟩;exact⟨AG▸h,_,d.append c,IsTup.new _ _⟩
end
def GF (n:Nat)(i:Int):Option Nat:=if 0<=i then(if i<n then some i.toNat else none)else if -(n:Int)<=i then some (i+n).toNat else none
def atI {α:Type}(xs:List α)(i:Int):Option α:=(GF xs.length i).bind λj=>xs[j]?
def mY {n:Nat} (h:GF n i=some j):seqIndex? i n=some j/\j<n/\-(n:Int)<=i/\i<n:=by
 unfold GF at h;by_cases h0:0<=i
 ·rw[Ar h0]at h;by_cases a:i<n
  ·rw[Ar a]at h;have e:=BG h;exact⟨by rw[seqIndex_of h0 a,e],Ψ,Ψ,a⟩
  rw[Ak a]at h;cases h
 rw[Ak h0]at h;by_cases a:-(n:Int)<=i
 ·rw[Ar a]at h;exact⟨by rw[seqIndex_neg Ψ a,(BG h)],Ψ,a,Ψ⟩
 rw[Ak a]at h;cases h
def RS {a:Type}{xs:List a}{i:Int}{v:a}(h:atI xs i=some v):∃j,seqIndex? i xs.length=some j/\xs[j]? = some v/\j<xs.length/\-(xs.length:Int)<=i/\i<xs.length:=by
 unfold atI at h;cases e:GF xs.length i with
 | none=>rw[e]at h;cases h
 | some j=>rw[e]at h;obtain⟨b,d,c,f⟩:=mY e;exact⟨j,b,h,d,c,f⟩
def AB {a:Type}{xs:List a}{j:Nat}{v:a}(h:xs[j]? = some v):atI xs (j:Int)=some v:=by
 have b:=(Ay.mp h).1;have e:GF xs.length (j:Int)=some j:=by unfold GF;rw[Ar Ψ,Ar Ψ];simp
 unfold atI;rw[e];exact h
def sU {a:Type}(xs:List a)(v:a):atI (xs++[v]) (-1)=some v:=by
 have b:(xs++[v]).length=xs.length+1:=by simp
 have e:GF (xs++[v]).length (-1)=some xs.length:=by unfold GF;rw[b,Ak Ξ,Ar Ψ];congr 1;lia
 unfold atI;rw[e];simp
def tN (b:Expr):Prop:=∀o i,subscripted b false o i=operate [o,i] (getItem o i)
def Kq (X:Cx)(r:R2):Prop:=
 ∀(value slice:Expr) (dv:List (Addr×Obj)) (s:Shared) (σ:St) (H:Hp) (x y:V) (v u:Value) (Q:VK),Inv X dv σ H s->RelV x v->RelV y u->r x y H Q ->
  subscripted slice false v u=operate [v,u] (getItem v u)->wpAny (model X.prog X.w) X.A (subscriptTail value slice v u) (EP X dv σ Q) X.xe s
def F9 (X:Cx)(id:String)(r:V->List V->Hp->VK->Prop):Prop:=
 ∀(dv:List (Addr×Obj)) (s:Shared) (σ:St) (H:Hp) (x:V) (xs:List V) (v:Value) (us:List Value) (Q:VK),Inv X dv σ H s->RelV x v->Vals xs us->r x xs H Q ->
  wpAny (model X.prog X.w) X.A (call (.builtin id) (v::us)) (EP X dv σ Q) X.xe s
section
variable {X:Cx}{a b:Expr}{ta tb:TE}{pos:Pos}
def Av (i:Kq X r)(n:PE X a ta)(e:PE X b tb)(j:tN b):PE X (.Subscript a b pos) (MG r ta tb):=by intro c s f H Q I h;exact Subscript_ (RP n e I h λv u s2 x y g m d l q=>i a b c s2 f g x y v u Q m d l q (j _ _))
inductive QK (K:W.Frag)(x:V)(y:V)(H:Hp)(Q:VK):Prop
 | mk (p:_) (xs:_) (i:_) (v:_) (c0:x=.ref p) (c1:y=.int i) (c2:SqL K H p xs) (c3:atI xs i=some v) (c4:Q v H):QK K x y H Q
inductive QJ (K:W.Frag)(x:V)(y:V)(H:Hp)(Q:VK):Prop
 | mk (p:_) (xs:_) (i:_) (v:_) (c0:x=.ref p) (c1:y=.int i) (c2:SqT K H p xs) (c3:atI xs i=some v) (c4:Q v H):QJ K x y H Q
def aB:R2:=λx y H Q=>∃z i c,x=.str z/\y=.int i/\z.length<=sizeLine/\atI z.cps.toList i=some c/\Q (.str ⟨#[c]⟩) H
def Bb:Kq X (QK X.K):=by
 intro value slice dv s σ H x y v u Q I rx ry h hs;obtain⟨p,xs,i,z,rfl,rfl,hq,he,q⟩:=h;cases rx;obtain⟨t,rfl⟩:=ry;obtain⟨its,r,pl,hz⟩:=I.list hq;obtain⟨j,h1,h2,h3,h4,h5⟩:=RS he;obtain⟨w,ew,rw'⟩:=r.get h2;have hl:=r.length;have hn:=Lz;have fin:EP X dv σ Q w s:=⟨z,H,I,rw',q⟩;by_cases h0:0<=i
 ·have hj:i.toNat=j:=by rw[seqIndex_of h0 h5]at h1;exact BG h1
  exact item_listR pl.isList h0 Ψ (by rw[hj];simpa using ew) fin hs
 have hj:(i+(its.toArray.size:Int)).toNat=j:=by rw[seqIndex_neg Ψ h4]at h1;rw[BJ,<- hl];exact BG h1
 exact subscriptTail_builtinR (x:=w) pl.isList.typeIs slot_list_getitem.lookup
  (wpAny_getItem_list_neg (Q:=λr s'=>r=w/\EP X dv σ Q r s') pl.isList Ψ (by rw[BJ] <;> lia) Ψ (by rw[hj];simpa using ew) ⟨U,fin⟩) hs
def Bu:Kq X (QJ X.K):=by
 intro value slice dv s σ H x y v u Q I rx ry h hs;obtain⟨p,xs,i,z,rfl,rfl,hq,he,q⟩:=h;cases rx;obtain⟨t,rfl⟩:=ry;obtain⟨its,r,pl,hz⟩:=I.tuple hq;obtain⟨j,h1,h2,h3,h4,h5⟩:=RS he;obtain⟨w,ew,rw'⟩:=r.get h2;have hn:=Lz
 exact subscriptTail_builtinR pl.typeIs O4.lookup
  (getItem_tuple pl Ψ Ψ (by rw[BJ,<- r.length];exact h1) (by simpa using ew) ⟨U,⟨z,H,I,rw',q⟩⟩) hs
def JE:Kq X aB:=by
 intro value slice dv s σ H x y v u Q I rx ry h hs;obtain⟨z,i,c,rfl,rfl,hz,he,q⟩:=h;obtain⟨t,rfl⟩:=rx;obtain⟨t',rfl⟩:=ry;obtain⟨j,h1,h2,h3,h4,h5⟩:=RS he;have hl:z.cps.toList.length=z.length:=by simp[Str.length]
 rw[hl]at h1 h4 h5;have hn:=Lz;exact tail_any (LZ s z t) slot_str_getitem.lookup (getItem_str (by rw[(BR Ψ),BR Ψ,Bool.or_false]) (by rw[h1];simpa using h2) ⟨.str ⟨#[c]⟩,H,I.tok _,⟨_,U⟩,q⟩) hs
def Y7 (lo c:Option Int)(n:Nat):(sliceBounds lo c none n).1=((HT.sIx n 0 lo:Nat):Int)/\(sliceBounds lo c none n).2.1=((HT.sIx n n c:Nat):Int)/\(sliceBounds lo c none n).2.2=1:=by
 refine⟨?_,?_,U⟩
 ·cases lo with
  | none=>simp[sliceBounds,HT.sIx]
  | some i=>
   simp[sliceBounds,HT.sIx,Option.getD_none,show(1:Int) > 0 by decide,FA];by_cases h:i<0
   ·simp[h,FA] <;> lia
   simp[h,Es] <;> lia
 cases c with
 | none=>simp[sliceBounds,HT.sIx]
 | some i=>
  simp[sliceBounds,HT.sIx,Option.getD_none,show(1:Int) > 0 by decide,FA];by_cases h:i<0
  ·simp[h,FA] <;> lia
  simp[h,Es] <;> lia
def Y8 (c:List Value)(lo d:Option Int):slicePick c.toArray lo d none=((c.drop (HT.sIx c.length 0 lo)).take (HT.sIx c.length c.length d-HT.sIx c.length 0 lo)).toArray:=by obtain⟨e,f,g⟩:=Y7 lo d c.toArray.size;unfold slicePick;rw[e,f,g];simp only[sliceRange_one,pick_run,BJ] <;> rfl
def Z7 (K:W.Frag):V->Option Int->Option Int->Hp->VK->Prop:=λx lo hi H Q=>∃a xs,x=.ref a/\SqL K H a xs/\∀p,H p=none->Q (.ref p) (Y H p (.lst (BB xs lo hi)))
def Ew:SY X (Z7 X.K):=by rintro e s o H x v w u lo d y Q I h n i j⟨a,xs,rfl,m,q⟩;cases h;obtain⟨g,r,f,l⟩:=I.list m;have c:=r.length;refine⟨"list",_,slot_list_getitem.lookup,f.isList.typeIs,?_⟩;refine wpAny_getItem_list_slice f.isList n i j .none Θ ?_ (by rw[BJ] <;> lia);rw[Y8,<- c];refine⟨.ref s.heap.objs.size,_,I.laid (λb p q=>AV _ q) (An _) ?_,U,q _ (I.hok.fresh (An _))⟩;exact⟨Er (WI xs lo d) l,_,0,(r.drop (HT.sIx xs.length 0 lo)).take (HT.sIx xs.length xs.length d-HT.sIx xs.length 0 lo),Bs _ U⟩
def Ft:V->Bool
 | .non=>true
 | .bl _=>true
 | .int _=>true
 | .str _=>true
 | _=>false
def E5:V->V->Bool
 | .non,.non=>true
 | .bl a,.bl b=>a == b
 | .bl a,.int b=>(if a then 1 else 0) == b
 | .int a,.bl b=>a == (if b then 1 else 0)
 | .int a,.int b=>a == b
 | .str a,.str b=>a == b
 | _,_=>false
def qE (e:RelV y u)(c:RelV x v)(f:Ft y=true)(d:Ft x=true):SeqAt.EqAt A s u v (E5 y x):=by
 cases y with
 | non=>
  cases e;cases x with
  | non=>cases c;exact SeqAt.EqAt.same _
  | bl b=>cases c;exact SeqAt.EqAt.none_bool b
  | int b=>obtain⟨t,rfl⟩:=c;exact SeqAt.EqAt.none_int b t
  | str b=>obtain⟨t,rfl⟩:=c;exact SeqAt.EqAt.none_str b t
  | _=>exact absurd d BO
 | bl a=>
  cases e;cases x with
  | non=>cases c;exact SeqAt.EqAt.bool_none a
  | bl b=>cases c;exact SeqAt.EqAt.bool_bool a b
  | int b=>obtain⟨t,rfl⟩:=c;exact SeqAt.EqAt.bool_int a b t
  | str b=>obtain⟨t,rfl⟩:=c;exact SeqAt.EqAt.bool_str a b t
  | _=>exact absurd d BO
 | int a=>
  obtain⟨t',rfl⟩:=e;cases x with
  | non=>cases c;exact SeqAt.EqAt.int_none a t'
  | bl b=>cases c;exact SeqAt.EqAt.int_bool a t' b
  | int b=>obtain⟨t,rfl⟩:=c;exact SeqAt.EqAt.int_int a t' b t
  | str b=>obtain⟨t,rfl⟩:=c;exact SeqAt.EqAt.int_str a t' b t
  | _=>exact absurd d BO
 | str a=>
  obtain⟨t',rfl⟩:=e;cases x with
  | non=>cases c;exact SeqAt.EqAt.str_none a t'
  | bl b=>cases c;exact SeqAt.EqAt.str_bool a t' b
  | int b=>obtain⟨t,rfl⟩:=c;exact SeqAt.EqAt.str_int a t' b t
  | str b=>obtain⟨t,rfl⟩:=c;exact SeqAt.EqAt.str_str a t' b t
  | _=>exact absurd d BO
 | _=>exact absurd f BO
def E6 (x:V)(u:Value):Bool:=match u with
 | .none=>E5 .non x
 | .bool b=>E5 (.bl b) x
 | .int i _=>E5 (.int i) x
 | .str z _=>E5 (.str z) x
 | _=>false
def Rv (r:RelV y u)(f:Ft y=true):E6 x u=E5 y x:=by
 cases y with
 | non=>cases r;rfl
 | bl b=>cases r;rfl
 | int i=>obtain⟨t,rfl⟩:=r;rfl
 | str z=>obtain⟨t,rfl⟩:=r;rfl
 | _=>exact absurd f BO
def Xb :∀{xs:List V}{us:List Value},Vals xs us->xs.all Ft=true->us.any (E6 x)=xs.any λy=>E5 y x:=by
 intro y u h f;induction h with
 | nil=>rfl
 | cons r t i=>rw[Ou,BV]at f;rw[any_cons,any_cons,Rv r f.1,i f.2]
theorem N5 (d:RelV x v)(e:Ft x=true):∀{xs:List V}{us:List Value},Vals xs us->xs.all Ft=true->∀u∈us,SeqAt.EqAt A s u v (E6 x u)
 | _,_,.nil,_=>λu c=>by cases c
 | y::xs,u::us,.cons r t,f=>λg c=>by
  rw[Ou,BV]at f;rcases(Az.mp c)with rfl | c
  ·rw[Rv r f.1];exact qE r d f.1 e
  exact N5 d e t f.2 g c
def Fq (x:V)(xs:List V):Bool:=xs.any λy=>E5 y x
inductive QL (K:W.Frag)(neg:Bool)(x:V)(y:V)(H:Hp)(Q:VK):Prop
 | mk (p:_) (xs:_) (c0:y=.ref p) (c1:(SqL K H p xs\/SqT K H p xs)) (c2:Ft x=true) (c3:xs.all Ft=true) (c4:Q (.bl (if neg then !Fq x xs else Fq x xs)) H):QL K neg x y H Q
def Js:Bz X (compareOp .In) (QL X.K false):=by
 rintro i s m H x y v u Q I g j⟨p,xs,rfl,d,h,fs,q⟩;cases j;rcases d with d | d
 ·obtain⟨c,r,e,l⟩:=I.list d;refine SeqAt.in_listAt (E6 x) e.isList (λw f=>N5 g h r fs w (by simpa using f)) ⟨.bl _,H,I,U,?_⟩;rw[show c.toArray.any (E6 x)=c.any (E6 x) by simp,Xb r fs];exact q
 obtain⟨c,r,e,l⟩:=I.tuple d;refine SeqAt.in_tupleAt (E6 x) e (λw f=>N5 g h r fs w (by simpa using f)) ⟨.bl _,H,I,U,?_⟩;rw[show c.toArray.any (E6 x)=c.any (E6 x) by simp,Xb r fs];exact q
def DQ:Cs X (.type "list") (λxs H Q=>∃p ys,xs=[.ref p]/\(SqL X.K H p ys\/SqT X.K H p ys)/\∀l,H l=none->Q (.ref l) (Y H l (.lst ys))):=by
 intro i s C H xs us Q I r h;obtain⟨p,ys,rfl,m,q⟩:=h;obtain⟨u,rfl,B⟩:=CM r;cases B
 have fin:∀(c:List Value),Vals ys c->ys.length<=sizeLine->∀(h':Heap) (d:Nat),(∀b A,s.heap.get? b=some A->h'.get? b=some A) ->
   h'.get? s.heap.objs.size=some { cls:=.type "list",dict:=none,data:=.seq c.toArray d,slots:=#[] }->EP X i C Q (.ref s.heap.objs.size) { s with heap:=h' }:=λc f v h' d j e=>
  ⟨.ref s.heap.objs.size,_,I.laid (t':=s.toks) j (An _) (show ObjOk X.prog X.w _ h' _ (.lst ys) from ⟨v,c,d,f,e⟩),U,q _ (I.hok.fresh (An _))⟩
 rcases m with m | m
 ·obtain⟨c,f,y,v⟩:=I.list m;have g:=f.length;obtain⟨o,x,z,n,w⟩:=y.isList;exact call_list_seq p (.inl U) x z w (λh' d j e=>fin c f v h' d j e) (by simp only[BJ] <;> lia)
 obtain⟨c,f,y,v⟩:=I.tuple m;have g:=f.length;obtain⟨o,x,z,n,w⟩:=y;exact call_list_seq p (.inr U) x z w (λh' d j e=>fin c f v h' d j e) (by simp only[BJ] <;> lia)
def GM:Cs X (.type "tuple") (λxs H Q=>∃p ys,xs=[.ref p]/\((SqL X.K H p ys/\∀l,H l=none->Q (.ref l) (Y H l (.tup ys)))\/(SqT X.K H p ys/\Q (.ref p) H))):=by
 intro c s m H xs us Q I r h;obtain⟨p,ys,rfl,h⟩:=h;obtain⟨u,rfl,w⟩:=CM r;cases w;rcases h with⟨f,q⟩ | ⟨f,q⟩
 ·obtain⟨d,i,g,v⟩:=I.list f;have n:=i.length;refine call_tuple_list g.isList (λh' y=>?_) (by simp only[BJ] <;> lia);have j:Inv X c m H { s with heap:=h' }:=I.kept (t':=s.toks) y
  have x:Inv X c m (Y H h'.objs.size (.tup ys)) { s with heap:=h'.push { cls:=.type "tuple",data:=.seq d.toArray } }:=
   j.laid (t':=s.toks) (λb o e=>AV _ e) (An _) (show ObjOk X.prog X.w _ _ _ (.tup ys) from ⟨v,d,i,IsTup.new _ _⟩)
  exact⟨.ref h'.objs.size,_,x,U,q _ (j.hok.fresh (An _))⟩
 obtain⟨d,i,g,v⟩:=I.tuple f;exact call_tuple_same g ⟨.ref p,H,I,U,q⟩
def Ph (K:W.Frag)(T:String)(x:V)(H:Hp):Prop:=match x with
 | .str _=>T = "str"
 | .int _=>T = "int"
 | .ref p=>(T = "list" /\ ∃xs,SqL K H p xs)\/(T = "tuple" /\ ∃o,K.lookup p=some o/\o.cls=.type "tuple" /\ o.dict=none) \/
   (T = "dict" /\ ((∃kvs,H p=some (.dK kvs))\/∃kvs,H p=some (.dT kvs)))\/(T = "set" /\ ∃S n,H p=some (.set S n))
 | _=>False
def Tp (I:Inv X dv σ H s)(r:RelV x v)(g:Ph X.K T x H) :
  s.TypeIs v T/\∀a,v=.ref a->∃m,s.heap.get? a=some m/\m.dict=none:=by
 cases x with
 | str z=>obtain⟨t,rfl⟩:=r;cases g;exact⟨LZ s z t,λ_ e=>nomatch e⟩
 | int i=>obtain⟨t,rfl⟩:=r;cases g;exact⟨typeIs_int s i t,λ_ e=>nomatch e⟩
 | ref p=>
  cases r;rcases g with⟨rfl,xs,q⟩ | ⟨rfl,o,d,w,h⟩ | ⟨rfl,d⟩ | ⟨rfl,S,n,d⟩
  ·obtain⟨u,_,l,_⟩:=I.list q;refine⟨l.isList.typeIs,λa e=>?_⟩;cases e;obtain⟨o,n,e,c,h,_⟩:=l;exact⟨o,e,h⟩
  ·refine⟨⟨o,I.kIn p o d,w⟩,λa e=>?_⟩;cases e;exact⟨o,I.kIn _ o d,h⟩
  ·have z:∃o,s.heap.get? p=some o/\o.ExactDict:=by
    rcases d with⟨kvs,d⟩ | ⟨kvs,d⟩
    ·obtain⟨_,_,_,_,o,_,_,e,f,_⟩:=I.hok p _ d;exact⟨o,e,f⟩
    obtain⟨_,_,_,_,o,_,_,e,f,_⟩:=I.hok p _ d;exact⟨o,e,f⟩
   obtain⟨o,e,f⟩:=z;refine⟨⟨o,e,f.1⟩,λa j=>?_⟩;cases j;exact⟨o,e,f.2.1⟩
  obtain⟨o,_,_,_,e,f,_⟩:=I.hok p _ d;refine⟨⟨o,e,f.1⟩,λa j=>?_⟩;cases j;exact⟨o,e,f.2.1⟩
 | _=>exact False.elim g
def YM (K:W.Frag)(T:String)(r:V->List V->Hp->VK->Prop)(to:TE):TE:=λσ H Q=>to σ H λx H1=>Ph K T x H1/\r x [] H1 Q
def MJ (K:W.Frag)(T:String)(r:V->List V->Hp->VK->Prop)(to:TE)(t:TA):TE:=λσ H Q=>to σ H λx H1=>Ph K T x H1/\t σ H1 λxs H2=>r x xs H2 Q
variable {o e:Expr}{es:List Expr}{to:TE}{t:TA}{name:Str}{apos cpos:Pos}{T id:String}{r:V->List V->Hp->VK->Prop}
def QV (q:PlainAttrs T)(g:Slot T name id)(j:typeOf (.builtin id)=pure (.type "method_descriptor"))(u:F9 X id r)(A:PE X o to)
  (f:attributeBase o name X.env (eval o X.env)=eval o X.env:=by rfl)(d:(apos.endLine == cpos.line)=true:=by rfl):PE X (.Call (.Attribute o name apos) [] [] cpos) (YM X.K T r to):=by
 intro c s m H Q I h
 refine wpAny_Call_method0_late f d (thn (A c s m H _ I h) λv p i=>?_)
 obtain⟨x,C,l,n,y,z⟩:=i
 obtain⟨B,w⟩:=Tp l n y
 exact⟨T,id,q,g,j,B,w,Mj U (PySem.evalArgs_none (u c p m C x [] v [] Q l n .nil z))⟩
def CN (F:PlainAttrs T)(l:Slot T name id)(n:typeOf (.builtin id)=pure (.type "method_descriptor"))(w:F9 X id r)(A:PE X o to)(D:PA X (e::es) t)
  (i:attributeBase o name X.env (eval o X.env)=eval o X.env:=by rfl)
  (j:((backTo cpos (starEach (e::es) X.env)).all (λx=>!x.1) && (backToKw cpos (keywordEach [] X.env)).all (λx=>x.1.isSome) && decide ((e::es).length+([]:List Keyword).length+(if ([]:List Keyword).isEmpty then 0 else 1)<30))=true:=by rfl)
  (f:(apos.endLine == cpos.line)=true:=by rfl)(z:starEach (e::es) X.env=(false,eval e X.env)::starEach es X.env:=by rfl)(d:(backTo cpos (starEach es X.env)).any (·.1)=false:=by rfl) :
  PE X (.Call (.Attribute o name apos) (e::es) [] cpos) (MJ X.K T r to t):=by
 intro c s m H Q I h
 refine wpAny_Call_method_late i j f U (thn (A c s m H _ I h) λv E g=>?_)
 obtain⟨x,C,p,q,M,N⟩:=g
 obtain⟨B,y⟩:=Tp p q M
 refine⟨T,id,F,l,n,B,y,?_⟩
 have u:=D cpos c E m C _ p N
 rw[z]at u ⊢
 refine Mj (by show(false || (backTo cpos (starEach es X.env)).any (·.1))=false;rw[d] <;> rfl) (OT ?_)
 exact thn u λus s2 g=>by obtain⟨vs,L,P,K,G⟩:=g;exact w c s2 m L x vs v us Q P q K G
end
def S1 (X:Cx)(id:String)(r:V->List V->Hp->VK->Prop):Prop:=
 ∀(dv:List (Addr×Obj)) (s:Shared) (σ:St) (H:Hp) (x:V) (xs:List V) (v:Value) (us:List Value) (Q:VK),Inv X dv σ H s->RelV x v->Vals xs us->r x xs H Q ->
  wpAny (model X.prog X.w) X.A (call (.builtin id) (v::us)) (EP X dv σ Q) X.xe s
def Vals.one:∀{x:V}{us:List Value},Vals [x] us->∃u,us=[u]/\RelV x u:=by intro x u h;cases h with|cons r t=>cases t;exact⟨_,U,r⟩
theorem Vals.zero:∀{us:List Value},Vals [] us->us=[]
 | _,.nil=>rfl
def Vals.reverse (h:Vals xs us):Vals xs.reverse us.reverse:=by
 induction h with
 | nil=>exact .nil
 | cons r t ih=>rw[List.reverse_cons,List.reverse_cons];exact Vals.append ih (.cons r .nil)
section
variable {X:Cx}{dv:List (Addr×Obj)}{σ:St}{H:Hp}{s:Shared}{l b:Addr}{xs ys zs:List V}
def Inv.lset {a its':List Value}{n:Nat}{f:Array Value->Array Value}{t':Nat}(I:Inv X dv σ H s)(i:H l=some (.lst xs))
  (e:s.heap.get? l=some { cls:=.type "list",data:=.seq a.toArray n })(j:f a.toArray=its'.toArray)(h:Vals ys its')(d:ys.length<=sizeLine) :
  Inv X dv σ (Y H l (.lst ys)) { s with heap:=s.heap.update l (Obj.mapSeq f),toks:=t' }:=by
 have q:=PySem.IsL.update e f
 rw[j]at q
 refine I.write (i▸trivial) (.inl U) (λm u g c=>(SD s.heap (Obj.mapSeq f) (ET g)).trans c) ⟨_,q⟩ ?_
 exact⟨d,its',_,h,q⟩
def Inv.lnew (I:Inv X dv σ H s)(a:Vals ys its)(c:ys.length<=sizeLine) :
  Inv X dv σ (Y H s.heap.objs.size (.lst ys)) { s with heap:=s.heap.push { cls:=.type "list",data:=.seq its.toArray },toks:=t' }:=
 I.laid (λ_ _ q=>AV _ q) (An _) ⟨c,its,0,a,Bs _ U⟩
def Inv.fresh (I:Inv X dv σ H s):H s.heap.objs.size=none:=I.hok.fresh (An _)
def Inv.lstM (I:Inv X dv σ H s)(c:H l=some (.lst xs)):xs.length<=sizeLine/\∃(a:List Value) (n:Nat),Vals xs a/\xs.length=a.length/\s.heap.get? l=some { cls:=.type "list",data:=.seq a.toArray n }:=by obtain⟨z,a,n,r,e⟩:=I.hok l _ c;exact⟨z,a,n,r,r.length,e⟩
end
section
variable {X:Cx}
def aQ:V->List V->Hp->VK->Prop:=λx vs H Q=>∃l xs y,x=.ref l/\vs=[y]/\H l=some (.lst xs)/\xs.length<sizeLine/\Q .non (Y H l (.lst (xs++[y])))
def FL:S1 X "list.append" aQ:=by rintro b s h H x vs v us Q I d g⟨l,xs,y,rfl,rfl,c,i,q⟩;cases d;obtain⟨u,rfl,f⟩:=g.one;obtain⟨z,a,n,r,j,e⟩:=I.lstM c;refine G1 F1 ⟨_,e,U⟩ F.entry_list_append (F.args_list_append_2 _ _) (PySem.list_append l a.toArray n u (by rw[BJ];lia)) ⟨e,.non,_,I.lset (its':=a++[u]) c e Θ (r.append (.cons f .nil)) ?_,U,q⟩;rw[AG,OH];lia
def Z8:V->List V->Hp->VK->Prop:=λx vs H Q=>∃l xs,x=.ref l/\vs=[]/\H l=some (.lst xs)/\Q .non (Y H l (.lst xs.reverse))
def kW:S1 X "list.reverse" Z8:=by rintro c s h H x vs v us Q I f g⟨l,xs,rfl,rfl,d,q⟩;cases f;have b:=g.zero;subst b;obtain⟨z,a,n,r,i,e⟩:=I.lstM d;refine G1 F.slot_list_reverse ⟨_,e,U⟩ F.entry_list_reverse (F.args_list_reverse_1 _) (AutoSeq1.list_reverse_list_0 l a.toArray n (by rw[BJ];lia)) ⟨e,.non,_,I.lset (its':=a.reverse) d e Θ r.reverse ?_,U,q⟩;rw[List.length_reverse];lia
def aO:R2:=λx y H Q=>∃l b xs zs,x=.ref l/\y=.ref b/\H l=some (.lst xs)/\H b=some (.lst zs)/\xs.length+zs.length<=sizeLine/\∀p,H p=none->Q (.ref p) (Y H p (.lst (xs++zs)))
def CU:Bz X (binaryOp .Add) aO:=by
 rintro d s C H x y v u Q I f h⟨l,b,xs,D,rfl,rfl,m,o,E,q⟩;cases f;cases h;obtain⟨z,c,n,r,w,e⟩:=I.lstM m;obtain⟨A,a,B,g,j,i⟩:=I.lstM o;refine PySem.P.add_list e i ?_ (by rw[BJ,BJ];lia);have p:c.toArray++a.toArray=(c++a).toArray:=by simp
 rw[p];exact⟨.ref _,_,I.lnew (r.append g) (by rw[AG];lia),U,q _ I.fresh⟩
end
section
variable {κ:Type} [DecidableEq κ]
def Ax (kvs:List (κ×V))(k:κ):Option V:=(kvs.find? λkv=>decide (kv.1=k)).map (·.2)
def BW (kvs:List (κ×V))(k:κ)(v:V):List (κ×V):=
 if (kvs.any λkv=>decide (kv.1=k))=true then kvs.map (λkv=>if kv.1=k then(kv.1,v)else kv)else kvs++[(k,v)]
def Ct {k:κ}(e:p.1=k):Ax (p::r) k=some p.2:=by simp[Ax,F2,e]
def Bp {k:κ}(e:¬p.1=k):Ax (p::r) k=Ax r k:=by simp[Ax,F2,e]
theorem Gc (k:κ):∀kvs:List (κ×V),(kvs.any λa=>decide (a.1=k))=(Ax kvs k).isSome
 | []=>rfl
 | p::r=>by
  rw[any_cons];by_cases e:p.1=k
  ·simp[Ct e,AU e,Bool.true_or,Option.isSome_some]
  rw[Bp e,BR e,Bool.false_or];exact Gc k r
theorem Tf (k j:κ)(y:V):∀kvs:List (κ×V),Ax (kvs.map λa=>if a.1=k then(a.1,y)else a) j=(Ax kvs j).map λx=>if j=k then y else x
 | []=>rfl
 | p::r=>by
  have b:=Tf k j y r;rw[Bg];by_cases h:p.1=k
  ·rw[Ar h];by_cases e:p.1=j
   ·rw[Ct (p:=(p.1,y)) e,Ct e,map_some,Ar (e.symm.trans h)]
   rw[Bp (p:=(p.1,y)) e,Bp e,b]
  rw[Ak h];by_cases e:p.1=j
  ·rw[Ct (p:=p) e,Ct e,map_some,Ak (λz=>h (e.trans z))]
  rw[Bp (p:=p) e,Bp e,b]
theorem Te (k j:κ)(y:V):∀kvs:List (κ×V),Ax kvs k=none->Ax (kvs++[(k,y)]) j=if j=k then some y else Ax kvs j
 | [],_=>by
  by_cases e:k=j
  ·rw[Ar e.symm];exact Ct (p:=(k,y)) e
  rw[Ak (λz=>e z.symm)];exact Bp (p:=(k,y)) e
 | p::r,hn=>by
  rw[Il];have a:¬p.1=k:=λz=>by rw[Ct z]at hn;cases hn
  rw[Bp a]at hn;have b:=Te k j y r hn;by_cases e:p.1=j
  ·rw[Ct e,Ct e,Ak (λz=>a (e.trans z))]
  rw[Bp e,Bp e,b]
def Ed (kvs:List (κ×V))(k j:κ)(y:V):Ax (BW kvs k y) j=if j=k then some y else Ax kvs j:=by
 unfold BW;by_cases a:(kvs.any λc=>decide (c.1=k))=true
 ·rw[Ar a,Tf];rw[Gc]at a;by_cases e:j=k
  ·obtain⟨x,b⟩:=isSome_iff_exists.mp a;rw[Ar e,e,b,map_some,Ar rfl]
  rw[Ak e];cases Ax kvs j with
  | none=>rfl
  | some x=>rw[map_some,Ak e]
 rw[Ak a];apply Te k j y kvs;rw[Gc]at a;cases q:Ax kvs k with
 | none=>rfl
 | some x=>rw[q]at a;exact(a U).elim
def JA (kvs:List (κ×V))(k:κ)(v:V):(BW kvs k v).length<=kvs.length+1:=by
 unfold BW;split
 ·rw[Ai];lia
 rw[AG,Cy,length_nil];lia
def Ef {k:κ}(v:V)(h:Ax kvs k=none):BW kvs k v=kvs++[(k,v)]:=by unfold BW;rw[Gc,h];exact Ak Ξ
def RelO.isSome_eq (r:RelO o u):o.isSome=u.isSome:=by
 cases o with
 | none=>cases u with
  | none=>rfl
  | some _=>exact(show False from r).elim
 | some _=>cases u with
  | none=>exact(show False from r).elim
  | some _=>rfl
def RelO.getD (r:RelO o u)(rd:RelV d d'):RelV (o.getD d) (u.getD d'):=by
 cases o with
 | none=>cases u with
  | none=>exact rd
  | some _=>exact(show False from r).elim
 | some _=>cases u with
  | none=>exact(show False from r).elim
  | some _=>exact r
def KV.val (r:KV kvs vs)(k:κ):RelO (Ax kvs k) (valueAt vs k):=by
 induction r with
 | nil=>exact G2
 | @cons p q ps qs h t ih=>
  obtain⟨c,d⟩:=h;by_cases e:p.1=k
  ·have a:=c.symm.trans e;have b:valueAt (q::qs) k=some q.2:=by simp[valueAt,F2,a]
   rw[Ct e,b];exact d
  have a:¬q.1=k:=λz=>e (c.trans z);have b:valueAt (q::qs) k=valueAt qs k:=by simp[valueAt,F2,a]
  rw[Bp e,b];exact ih
def KV.any (r:KV kvs vs)(k:κ):(kvs.any λa=>decide (a.1=k))=vs.any λa=>decide (a.1=k):=by
 induction r with
 | nil=>rfl
 | cons h t ih=>rw[any_cons,any_cons,ih,h.1]
def KV.repl (r:KV kvs vs)(k:κ) (d:RelV y u) :
  KV (kvs.map λa=>if a.1=k then(a.1,y)else a) (vs.map λa=>if a.1=k then(a.1,u)else a):=by
 induction r with
 | nil=>exact .nil
 | @cons p q ps qs h t ih=>
  rw[Bg,Bg];refine .cons ?_ ih;obtain⟨b,c⟩:=h;by_cases e:p.1=k
  ·rw[Ar e,Ar (b.symm.trans e)];exact⟨b,d⟩
  rw[Ak e,Ak (λz=>e (b.trans z))];exact⟨b,c⟩
def KV.put (r:KV kvs vs)(k:κ) (a:RelV y u):KV (BW kvs k y) (stored vs k u):=by
 unfold BW stored;rw[r.any k];by_cases e:(vs.any λb=>decide (b.1=k))=true
 ·rw[Ar e,Ar e];exact r.repl k a
 rw[Ak e,Ak e];exact Paired.snoc r ⟨U,a⟩
def KV.keys {kvs:List (κ×V)}{vs:List (κ×Value)}(r:KV kvs vs):kvs.map (·.1)=vs.map (·.1):=by
 induction r with
 | nil=>rfl
 | cons h t ih=>rw[Bg,Bg,ih,h.1]
def KV.length (r:KV kvs vs):kvs.length=vs.length:=G8 r
end
def EH {k:Key} (r:RelV (kV k) u):(BE P w).is k u=true:=by
 cases k with
 | inl i=>obtain⟨t,e⟩:=r;subst e;exact lA P w i t
 | inr x=>obtain⟨t,e⟩:=r;subst e;exact kZ P w x t
abbrev KT (H:Hp):List (PyData×V)->List (PyData×Addr×Value)->Prop:=Paired λp q=>p.1=q.1/\RdT H q.2.1 p.1/\RelV p.2 q.2.2
def KT.val (r:KT H kvs xs)(k:PyData):RelO (Ax kvs k) ((atKey xs k).map (·.2)):=by
 induction r with
 | nil=>exact G2
 | @cons p q ps qs h t ih=>
  obtain⟨c,_,d⟩:=h;by_cases e:p.1=k
  ·have a:=c.symm.trans e;have b:atKey (q::qs) k=some q.2:=by simp[atKey,F2,a]
   rw[Ct e,b];exact d
  have a:¬q.1=k:=λz=>e (c.trans z);have b:atKey (q::qs) k=atKey qs k:=by simp[atKey,F2,a]
  rw[Bp e,b];exact ih
def KT.repl (r:KT H kvs xs)(k:PyData) (d:RelV y u) :
  KT H (kvs.map λb=>if b.1=k then(b.1,y)else b) (xs.map (putAt k u)):=by
 induction r with
 | nil=>exact .nil
 | @cons p q ps qs h t ih=>
  rw[Bg,Bg];refine .cons ?_ ih;obtain⟨a,c,f⟩:=h;unfold putAt;by_cases e:p.1=k
  ·rw[Ar e,Ar (a.symm.trans e)];exact⟨a,c,d⟩
  rw[Ak e,Ak (λz=>e (a.trans z))];exact⟨a,c,f⟩
def KT.put (r:KT H kvs xs)(k:PyData) (d:RdT H b k)(a:RelV y u) :
  KT H (BW kvs k y) (storedH xs k b u):=by
 have e:(kvs.any λc=>decide (c.1=k))=(atKey xs k).isSome:=by rw[Gc,(r.val k).isSome_eq,isSome_map]
 unfold BW storedH
 rw[e]
 by_cases q:(atKey xs k).isSome=true
 ·rw[Ar q,Ar q];exact r.repl k a
 rw[Ak q,Ak q];exact Paired.snoc r ⟨U,d,a⟩
def KT.keeps (r:KT H kvs xs)(a:∀b ys,H b=some (.tup ys)->H' b=some (.tup ys)):KT H' kvs xs:=
 Paired.mapP r λ_ _ z=>⟨z.1,z.2.1.same a,z.2.2⟩
section
variable {P:Program}{w:World}{H:Hp}{h:Heap}{a:Addr}
def UA (ok:HOk P w H h)(e:Rd H a u):ObjOk P w H h a u:=e.ok ok
def Fu (ok:HOk P w H h)(e:Rd H a (.dK kvs)):kvs.length<=sizeLine/\(a == sysModules)=false/\∃vs,KV kvs vs/\h.DictOf (BE P w) a vs:=
 show ObjOk P w H h a (.dK kvs) from UA ok e
def FR (ok:HOk P w H h)(e:H a=some (.dK kvs)):kvs.length<=sizeLine/\(a == sysModules)=false/\∃vs,KV kvs vs/\h.DictOf (BE P w) a vs:=Fu ok (.inl e)
mutual
theorem RdD.reads (ok:HOk P w H h):∀{x:V}{d:PyData}{u:Value},RdD H x d->RelV x u->∃b,Reads h u d b
 | _,_,_,.non,r=>by cases r;exact⟨_,.none⟩
 | _,_,_,.str x,r=>by obtain⟨t,rfl⟩:=r;exact⟨_,.str x t⟩
 | _,_,_,.tup (a:=a) e rs,r=>by cases r;obtain⟨z,c,g,o,f,j,n,i⟩:=ok a _ e;obtain⟨b,l⟩:=RdDs.reads ok rs g;exact⟨b,.tuple f j i (by simpa using l)⟩
theorem RdDs.reads (ok:HOk P w H h):∀{xs:List V}{ds:List PyData}{us:List Value},RdDs H xs ds->Vals xs us->∃c,ReadsAll h us ds c
 | _,_,_,.nil,r=>by cases r;exact⟨_,.nil⟩
 | _,_,_,.cons a b,r=>by
  cases r with
  | cons r1 r2=>obtain⟨c,d⟩:=RdD.reads ok a r1;obtain⟨bs,e⟩:=RdDs.reads ok b r2;exact⟨_,.cons d e⟩
end
def key_of {k:PyData}(ok:HOk P w H h)(e:RdT H a k):(WK.dataKind P w).is h k a:=⟨e.ok,e.lay,e.dp,e.de,e.rd.reads ok U⟩
def HY (ok:HOk P w H h)(e:Rd H a (.dT kvs)):kvs.length<=sizeLine/\(a == sysModules)=false /\
  ∃xs,KT H kvs xs/\h.DictOfH (WK.dataKind P w) a xs:=by
 obtain⟨z,y,xs,r,o,es,ep,f,c,i,d,g⟩:=(UA ok e)
 refine⟨z,y,xs,r,o,es,ep,f,c,i,d,λx b=>?_,g⟩
 have all:∀{l:List (PyData×V)}{m:List (PyData×Addr×Value)},KT H l m->∀x∈m,(WK.dataKind P w).is h x.1 x.2.1:=by
  intro l m q;induction q with
  | nil=>intro x b;exact nomatch b
  | @cons p q ps qs hq t ih=>
   intro x b;rcases(Az.mp b)with e | b
   ·subst e;exact key_of ok (by rw[<- hq.1];exact hq.2.1)
   exact ih x b
 exact all r x b
def qK (ok:HOk P w H h)(e:H a=some (.dT kvs)):kvs.length<=sizeLine/\(a == sysModules)=false /\
  ∃xs,KT H kvs xs/\h.DictOfH (WK.dataKind P w) a xs:=HY ok (.inl e)
end
def DGet (H:Hp)(a:Addr)(y:V)(r:Option V):Prop:=
 (∃kvs k,Rd H a (.dK kvs)/\y=kV k/\r=Ax kvs k)\/∃kvs k b,Rd H a (.dT kvs)/\y=.ref b/\RdT H b k/\r=Ax kvs k
def DPut (H:Hp)(a:Addr)(y v:V)(H':Hp):Prop:=
 (∃kvs k,H a=some (.dK kvs)/\y=kV k/\kvs.length<sizeLine/\H'=Y H a (.dK (BW kvs k v))) \/
 ∃kvs k b,H a=some (.dT kvs)/\y=.ref b/\RdT H b k/\kvs.length<sizeLine/\H'=Y H a (.dT (BW kvs k v))
theorem DGet.k {k:Key}(e:H a=some (.dK kvs)):DGet H a (kV k) (Ax kvs k):=.inl ⟨kvs,k,.inl e,U,U⟩
def DGet.t {k:PyData}(e:H a=some (.dT kvs))(c:RdT H b k):DGet H a (.ref b) (Ax kvs k):=.inr ⟨kvs,k,b,.inl e,U,c,U⟩
theorem DPut.k {k:Key} (e:H a=some (.dK kvs))(b:kvs.length<sizeLine):DPut H a (kV k) v (Y H a (.dK (BW kvs k v))):=.inl ⟨kvs,k,e,U,b,U⟩
def DPut.t {k:PyData} (e:H a=some (.dT kvs))(c:RdT H b k)(d:kvs.length<sizeLine) :
  DPut H a (.ref b) v (Y H a (.dT (BW kvs k v))):=.inr ⟨kvs,k,b,e,U,c,d,U⟩
section
variable {X:Cx}{dv:List (Addr×Obj)}{σ:St}{H:Hp}{s:Shared}{a:Addr}{y v:V}{u r:Value}{o:Option V}{A:Around}{E:Value->Shared->Prop}
def Inv.big (I:Inv X dv σ H s):sysModules<s.heap.objs.size:=by exact JU Ξ ((I.mod.glob.keeps I.bk).lt)
def rC (B:A.units+20<cLine)(I:Inv X dv σ H s)(g:DGet H a y (some v))(n:RelV y u)(h:∀f s',Inv X dv σ H s'->RelV v f->Q f s') :
  wpAny (model X.prog X.w) A (getItem (.ref a) u) Q E s:=by
 rcases g with⟨kvs,k,e,m,l⟩ | ⟨kvs,k,b,e,m,w,l⟩
 ·subst m;obtain⟨z,q,vs,d,dd⟩:=Fu I.hok e;obtain⟨f,i,c⟩:=RelO.some_of (l▸d.val k);exact wpAny_getItem_of (EH n) dd.mapOf i (h f _ (I.tok _) c)
 subst m
 cases n
 obtain⟨z,q,xs,d,dd⟩:=HY I.hok e
 obtain⟨f,i,c⟩:=RelO.some_of (l▸d.val k)
 obtain⟨p,x,j⟩:=L7.mp i
 apply wpAny_getItem_heap (WK.room_in1 B) (key_of I.hok w) dd x
 rw[j]
 exact h f _ (I.tok _) c
def rB (m:A.units+20<cLine)(I:Inv X dv σ H s)(g:DGet H a y o)(i:RelV y u)(h:∀s',Inv X dv σ H s'->Q (.bool o.isSome) s') :
  wpAny (model X.prog X.w) A (compareOp .In u (.ref a)) Q E s:=by
 rcases g with⟨kvs,k,e,f,l⟩ | ⟨kvs,k,b,e,f,j,l⟩
 ·subst f;obtain⟨z,d,vs,c,dd⟩:=Fu I.hok e;apply wpAny_in_of (EH i) d dd.mapOf;rw[<- (c.val k).isSome_eq,<- l];exact h _ (I.tok _)
 subst f
 cases i
 obtain⟨z,d,xs,c,dd⟩:=HY I.hok e
 apply wpAny_in_heap (WK.room_in1 m) (key_of I.hok j) d dd
 have q:=(c.val k).isSome_eq
 rw[isSome_map]at q
 rw[<- q,<- l]
 exact h _ (I.tok _)
def qZ (m:A.units+20<cLine)(I:Inv X dv σ H s)(g:DGet H a y o)(i:RelV y u)(h:∀s',Inv X dv σ H s'->Q (.bool (!o.isSome)) s') :
  wpAny (model X.prog X.w) A (compareOp .NotIn u (.ref a)) Q E s:=by
 rcases g with⟨kvs,k,e,f,l⟩ | ⟨kvs,k,b,e,f,j,l⟩
 ·subst f;obtain⟨z,d,vs,c,dd⟩:=Fu I.hok e;apply wpAny_notIn_of (EH i) d dd.mapOf;rw[<- (c.val k).isSome_eq,<- l];exact h _ (I.tok _)
 subst f
 cases i
 obtain⟨z,d,xs,c,dd⟩:=HY I.hok e
 apply wpAny_notIn_heap (WK.room_in1 m) (key_of I.hok j) d dd
 have q:=(c.val k).isSome_eq
 rw[isSome_map]at q
 rw[<- q,<- l]
 exact h _ (I.tok _)
def RF (I:Inv X dv σ H s)(c:Mr (H a))(f:Heap.SameBut a s.heap h')(e:∃q,h'.get? a=some q)(new:ObjOk X.prog X.w (Y H a ob) h' a ob) :
  Inv X dv σ (Y H a ob) { s with heap:=h',toks:=t' }:=
 I.write c (.inl U) (λb q d z=>(f.2 b d).trans z) e new
def Wn (z:kvs.length<=sizeLine)(c:(a == sysModules)=false)(b:KV kvs vs)(dd:h'.DictOf (BE P w) a vs) :
  ObjOk P w H' h' a (.dK kvs):=⟨z,c,vs,b,dd⟩
def qY (M:A.units+20<cLine)(I:Inv X dv σ H s)(g:DPut H a y v H')(B:RelV y u)(C:RelV v r)(h:∀s',Inv X dv σ H' s'->Q () s') :
  wpAny (model X.prog X.w) A (setItem (.ref a) u r) Q E s:=by
 rcases g with⟨kvs,k,e,n,l,p⟩ | ⟨kvs,k,b,e,n,F,l,p⟩
 ·subst n p;obtain⟨z,j,vs,d,dd⟩:=FR I.hok e;have w:vs.length<=sizeLine:=by rw[<- d.length];exact z
  have x:(BW kvs k v).length<=sizeLine:=by have:=JA kvs k v;lia
  refine wpAny_setItem_pairs (hsz:=w) (EH B) dd λh' f m=>h _ ?_;have L:∃q,h'.get? a=some q:=let ⟨q,_,_,i,_⟩:=f;⟨q,i⟩;exact RF I (by rw[e];exact G2) m L (Wn x j (d.put k C) f)
 subst n p
 cases (show u=Value.ref b from B)
 obtain⟨z,j,xs,d,dd⟩:=qK I.hok e
 have w:xs.length<=sizeLine:=by rw[<- G8 d];exact z
 have x:(BW kvs k v).length<=sizeLine:=by have:=JA kvs k v;lia
 refine wpAny_setItem_heap (hsz:=w) (WK.room_in1 M) (key_of I.hok F) dd λh' f m=>h _ ?_
 obtain⟨q,es,ep,i,G,N,P,_,K⟩:=f
 refine RF I (by rw[e];exact G2) m ⟨q,i⟩ ⟨x,j,_,(d.put k F C).keeps λc ys D=>?_,q,es,ep,i,G,N,P,K⟩
 rw[Af (A8 D e (λz=>nomatch z))]
 exact D
end
section
variable {X:Cx}{dv:List (Addr×Obj)}{σ:St}{H:Hp}{s:Shared}{a:Addr}{kvs:List (Key×V)}{k:Key}{u:Value}{A:Around}{E:Value->Shared->Prop}
def rA (I:Inv X dv σ H s)(e:Rd H a (.dK kvs))(h:∀t s',Inv X dv σ H s'->Q (.int kvs.length t) s'):wpAny (model X.prog X.w) A (call (.builtin "len") [.ref a]) Q E s:=by obtain⟨z,c,vs,b,dd⟩:=Fu I.hok e;refine call_len_dict c dd (by rw[<- b.length];rw[AF]at z;lia) ?_;rw[<- b.length];exact h _ _ (I.tok _)
end
def S0 (i:Expr):Prop:=∀ov iv,subscripted i false ov iv=operate [ov,iv] (getItem ov iv)
def T2 {prog:Program}{w:World}{A:Around}{E:Value->Shared->Prop}{s:Shared}{env:Env}{b a:Expr}{pos:Pos}{T l:String}{Q:Value->Shared->Prop}
  (n:typeLookup (.type T) "__getitem__" = pure (some (.builtin l)))(m:S0 a)
  (h:wpAny (model prog w) A (eval b env) (λo e=>wpAny (model prog w) A (eval a env) (λi s₂=>s₂.TypeIs o T/\wpAny (model prog w) A (getItem o i) Q E s₂) E e) E s) :
  wpAny (model prog w) A (eval (.Subscript b a pos) env) Q E s:=by
 refine Subscript_ (CZ h (λo e g=>CZ g (λi s₂ c=>?_) λ_ _ x=>x) λ_ _ x=>x)
 obtain⟨j,c⟩:=c
 apply Ac
 rw[getitemInPython_of_ne j.not_modules]
 refine Ac (Ij j n ?_)
 have fin:wpAny (model prog w) A (subscripted a false o i) (λr d=>wpAny (model prog w) A (letTemporaryGo b o r >>= λ_=>pure r) Q E d) E s₂:=by rw[m o i];exact wpAny_operating (CZ c (λr d f=>Ac (wpAny_letTemporaryGo (Aj f))) λ_ _ x=>x)
 first
  | exact Aj (Ac fin)
  | exact Ac (Aj (Ac fin))
  | exact Ac fin
def qV (I:Inv X dv σ H s)(g:DGet H a y o):s.TypeIs (.ref a) "dict" := by
 rcases g with⟨kvs,k,e,_,_⟩ | ⟨kvs,k,b,e,_,_,_⟩
 ·obtain⟨_,_,vs,_,dd⟩:=Fu I.hok e;exact dd.typeIs
 obtain⟨_,_,xs,_,dd⟩:=HY I.hok e;exact dd.typeIs
inductive VO (Q:VK)(x y:V)(H2:Hp):Prop
 | mk (a:_) (v:_) (c0:x=.ref a) (c1:DGet H2 a y (some v)) (c2:Q v H2):VO Q x y H2
def YL (td ty:TE):TE:=λσ H Q=>td σ H λx H1=>ty σ H1 λy H2=>VO Q x y H2
inductive VJ (Q:VK)(x y:V)(H2:Hp):Prop
 | mk (a:_) (o:_) (c0:x=.ref a) (c1:DGet H2 a y o) (c2:Q (.bl o.isSome) H2):VJ Q x y H2
def YJ (ty td:TE):TE:=λσ H Q=>ty σ H λy H1=>td σ H1 λx H2=>VJ Q x y H2
def YG (ty td:TE):TE:=λσ H Q=>ty σ H λy H1=>td σ H1 λx H2=>∃a o,x=.ref a/\DGet H2 a y o/\Q (.bl (!o.isSome)) H2
def ZR (td ty tv:TE):TS:=λD σ H=>tv σ H λv H1=>td σ H1 λx H2=>ty σ H2 λy H3=>∃a H4,x=.ref a/\DPut H3 a y v H4/\D.nx σ H4
section
variable {X:Cx}{o i e value:Expr}{pos pos' tpos:Pos}{td ty tv:TE}
def CS (F:X.A.units+20<cLine)(C:PE X o td)(n:PE X i ty)(E:S0 i):PE X (.Subscript o i pos) (YL td ty):=by intro b s f H Q I h;refine T2 Xl.lookup E (thn (C b s f H _ I h) λu m d=>?_);obtain⟨x,D,q,p,B⟩:=d;refine thn (n b m f D _ q B) ?_;rintro iv s2⟨y,z,j,A,a,v,w,g,r⟩;subst w;obtain rfl:u=Value.ref a:=p;exact⟨qV j g,rC F j g A λG s3 l c=>⟨v,z,l,c,r⟩⟩
def U3 (C:X.A.units+20<cLine)(j:PE X i ty)(w:PE X o td):PC X .In i o (YJ ty td):=by intro b s c H Q I h;refine thn (j b s c H _ I h) ?_;rintro iv f⟨y,A,m,r,v⟩;refine thn (w b f c A _ m v) ?_;rintro u s2⟨x,q,z,l,a,B,p,g,n⟩;subst p;obtain rfl:u=Value.ref a:=l;exact rB C z g r λs3 d=>⟨.bl B.isSome,q,d,U,n⟩
def NS (C:X.A.units+20<cLine)(j:PE X i ty)(w:PE X o td):PC X .NotIn i o (YG ty td):=by intro b s c H Q I h;refine thn (j b s c H _ I h) ?_;rintro iv f⟨y,A,m,r,v⟩;refine thn (w b f c A _ m v) ?_;rintro u s2⟨x,q,z,l,a,B,p,g,n⟩;subst p;obtain rfl:u=Value.ref a:=l;exact qZ C z g r λs3 d=>⟨.bl (!B.isSome),q,d,U,n⟩
def DW (B:X.A.units+20<cLine)(w:PE X o td)(l:PE X i ty)(K:PE X value tv)(p:swapsWith value (some (.Subscript o i pos')) pos.line X.env=pure false) :
  PS X (.Assign [.Subscript o i pos'] value pos) (ZR td ty tv):=by
 intro b s c H D I h
 refine wpAny_Assign_Subscript (thn (K b s c H _ I h) λr F d=>?_) p
 obtain⟨v,z,n,A,Q⟩:=d
 refine thn (w b F c z _ n Q) λu s2 f=>?_
 obtain⟨x,P,R,m,G⟩:=f
 refine thn (l b s2 c P _ R G) λiv s3 j=>?_
 obtain⟨y,S,C,q,a,N,L,g,M⟩:=j
 subst L
 obtain rfl:u=Value.ref a:=m
 exact qY B C g q A λs4 E=>⟨c,N,E,M⟩
end
def Wo (h:Heap)(a:sysModules<h.objs.size):ObjOk P w H (h.push { cls:=.type "dict",data:=.dict #[] }) h.objs.size (.dK []):=
 ⟨Bn _,GV.mpr (ET (Bk a)),[],.nil,Heap.DictOf.new h⟩
def qL (h:Heap)(a:sysModules<h.objs.size):ObjOk P w H (h.push { cls:=.type "dict",data:=.dict #[] }) h.objs.size (.dT []):=
 ⟨Bn _,GV.mpr (ET (Bk a)),[],.nil,_,#[],0,Bs _ U,⟨U,U,U⟩,U,U,JV⟩
def YI:TE:=λ_ H Q=>∀p,H p=none->Q (.ref p) (Y H p (.dK []))
def YH:TE:=λ_ H Q=>∀p,H p=none->Q (.ref p) (Y H p (.dT []))
section
variable {X:Cx}{pos:Pos}
def FJ:PE X (.Dict [] [] pos) YI:=λa s b H Q I h=>wpAny_Dict_empty ⟨.ref s.heap.objs.size,_,I.laid (λ_ _ q=>AV _ q) (An _) (Wo s.heap I.big),U,h _ (I.hok.fresh (An _))⟩
def cA:PE X (.Dict [] [] pos) YH:=λa s b H Q I h=>wpAny_Dict_empty ⟨.ref s.heap.objs.size,_,I.laid (λ_ _ q=>AV _ q) (An _) (qL s.heap I.big),U,h _ (I.hok.fresh (An _))⟩
end
def Pn:List (TE×TE)->St->Hp->(List (V×V)->Hp->Prop)->Prop
 | [],_,H,Q=>Q [] H
 | (tk,tv)::r,σ,H,Q=>tk σ H λx H1=>tv σ H1 λy H2=>Pn r σ H2 λps H3=>Q ((x,y)::ps) H3
abbrev VV:List (V×V)->List (Value×Value)->Prop:=Paired λp q=>RelV p.1 q.1/\RelV p.2 q.2
def O9 (X:Cx)(pos:Pos)(keys:List (Option Expr))(values:List Expr)(trs:List (TE×TE)):Prop:=
 ∀(dv:List (Addr×Obj)) (s:Shared) (σ:St) (H:Hp) (Q:List (V×V)->Hp->Prop),Inv X dv σ H s->Pn trs σ H Q ->
  wpAny (model X.prog X.w) X.A (evalPairs (pairTrees keys values X.env pos)) (λvs s'=>∃ps H',Inv X dv σ H' s'/\VV ps vs/\Q ps H') X.xe s
def bC :O9 X pos [] [] []:=λa s b H Q I h=>pairTrees_nil_walk ⟨[],H,I,.nil,h⟩
def K2 {k:Expr} {tk:TE} (w:PE X k tk)(j:PE X v tv)(m:O9 X pos ks vs trs) :
  O9 X pos (some k::ks) (v::vs) ((tk,tv)::trs):=λa s b H Q I h=>
 pairTrees_cons_walk (thn (w a s b H _ I h) λu s1 ⟨x,z,g,f,p⟩=>thn (j a s1 b z _ g p) λw2 s2 ⟨y,n,r,o,i⟩=>thn (m a s2 b n _ r i) λws s3 c=>by obtain⟨ps,q,e,d,l⟩:=c;exact⟨(x,y)::ps,q,e,.cons ⟨f,o⟩ d,l⟩)
def Jy (kvs more:List (Key×V)):List (Key×V):=more.foldl (λacc kv=>BW acc kv.1 kv.2) kvs
def KV.merge:∀{more:List (Key×V)}{rs:List (Key×Value)}{kvs:List (Key×V)}{vs:List (Key×Value)},KV more rs->KV kvs vs->KV (Jy kvs more) (merged vs rs):=by
 intro more rs kvs vs r;induction r generalizing kvs vs with
 | nil=>intro q;exact q
 | @cons p q ps qs h t ih=>
  intro a;have e:KV (BW kvs p.1 p.2) (stored vs q.1 q.2):=by have:=a.put p.1 h.2;rw[<- h.1];exact this
  exact ih e
theorem Vo:∀(more kvs:List (Key×V)),(Jy kvs more).length<=kvs.length+more.length
 | [],kvs=>by show kvs.length<=kvs.length+0;lia
 | p::r,kvs=>by have b:=Vo r (BW kvs p.1 p.2);have a:=JA kvs p.1 p.2;show(Jy (BW kvs p.1 p.2) r).length<=_;rw[Cy];lia
theorem WU :∀{kvs:List (Key×V)}{ws:List (Value×Value)},VV (kvs.map λd=>(kV d.1,d.2)) ws->∃rs,Carries (BE P w) ws rs/\KV kvs rs
 | [],_,r=>by rw[Eb]at r;cases r;exact⟨[],G2,.nil⟩
 | p::kvs,_,r=>by
  rw[Bg]at r;cases r with
  | @cons a b as bs h t=>obtain⟨rs,c,q⟩:=WU t;obtain⟨f,e⟩:=b;exact⟨(p.1,e)::rs,⟨EH h.1,U,c⟩,.cons ⟨U,h.2⟩ q⟩
def YF (trs:List (TE×TE)):TE:=λσ H Q=>∀p,H p=none->Pn trs σ (Y H p (.dK [])) λps H2=>H2 p=some (.dK [])/\∃kvs:List (Key×V),ps=kvs.map (λkv=>(kV kv.1,kv.2))/\kvs.length<=15/\Q (.ref p) (Y H2 p (.dK (Jy [] kvs)))
def cB {keys:List (Option Expr)} (h:O9 X pos keys values trs)(f:keys.all (·.isSome)=true)(D:keys.length=values.length)(h0:keys≠[])
  (i:keys.length<=15):PE X (.Dict keys values pos) (YF trs):=by
 intro d s n H Q I q
 have x:=I.hok.fresh (An s.heap.objs.size)
 have m:=I.laid (a:=s.heap.objs.size) (o:=.dK []) (h':=s.heap.push { cls:=.type "dict",data:=.dict #[] }) (t':=s.toks) (λ_ _ q=>AV _ q) (An _) (Wo s.heap I.big)
 refine wpAny_Dict_walk (knd:=BE X.prog X.w) f D h0 i (thn (h d _ n _ _ m (q _ x)) λws s2 g=>?_)
 obtain⟨ps,G,l,j,e,kvs,ep,F,y⟩:=g
 subst ep
 obtain⟨rs,c,v⟩:=WU (P:=X.prog) (w:=X.w) j
 obtain⟨z,p,A,C,dd⟩:=FR l.hok e
 cases C
 refine⟨rs,c,dd,λh' b E=>⟨.ref s.heap.objs.size,_,?_,U,y⟩⟩
 have B:(Jy [] kvs).length<=sizeLine:=by have r:=Vo kvs [];rw[length_nil]at r;rw[AF];lia
 have u:∃q,h'.get? s.heap.objs.size=some q:=let ⟨q,_,_,hq,_⟩:=b;⟨q,hq⟩
 exact RF l (by rw[e];exact G2) E u (Wn B p (v.merge .nil) b)
structure M1 (X:Cx)(o:Expr)(m:Str)(apos:Pos)(e:Expr)(cpos:Pos):Prop where
 base:attributeBase o m X.env (eval o X.env)=eval o X.env
 few:((backTo cpos (starEach [e] X.env)).all (λx=>!x.1) && (backToKw cpos (keywordEach [] X.env)).all (λx=>x.1.isSome)
  && decide (([e]:List Expr).length+([]:List Keyword).length+(if ([]:List Keyword).isEmpty then 0 else 1)<30))=true
 line:(apos.endLine == cpos.line)=true
 trees:backTo cpos (starEach [e] X.env)=[(false,eval e X.env)]
structure M2 (X:Cx)(o:Expr)(m:Str)(apos:Pos)(e f:Expr)(cpos:Pos):Prop where
 base:attributeBase o m X.env (eval o X.env)=eval o X.env
 few:((backTo cpos (starEach [e,f] X.env)).all (λx=>!x.1) && (backToKw cpos (keywordEach [] X.env)).all (λx=>x.1.isSome)
  && decide (([e,f]:List Expr).length+([]:List Keyword).length+(if ([]:List Keyword).isEmpty then 0 else 1)<30))=true
 line:(apos.endLine == cpos.line)=true
 trees:backTo cpos (starEach [e,f] X.env)=[(false,eval e X.env),(false,eval f X.env)]
def XG (H:Hp)(a:Addr):Prop:=(∃kvs,Rd H a (.dK kvs))\/∃kvs,Rd H a (.dT kvs)
def VE (I:Inv X dv σ H s)(d:XG H a) :
  s.TypeIs (.ref a) "dict" /\ (∀b,Value.ref a=.ref b->∃c,s.heap.get? b=some c/\c.dict=none)/\(a == sysModules)=false:=by
 rcases d with⟨kvs,e⟩ | ⟨kvs,e⟩
 ·obtain⟨_,g,vs,_,dd⟩:=Fu I.hok e;refine⟨dd.typeIs,λb q=>?_,g⟩;cases q;obtain⟨c,_,_,f,h,_⟩:=dd;exact⟨c,f,h.2.1⟩
 obtain⟨_,g,xs,_,dd⟩:=HY I.hok e
 refine⟨dd.typeIs,λb q=>?_,g⟩
 cases q
 obtain⟨c,_,_,f,h,_⟩:=dd
 exact⟨c,f,h.2.1⟩
section
variable {X:Cx}{dv:List (Addr×Obj)}{σ:St}{H:Hp}{s:Shared}{a:Addr}{y d:V}{u r:Value}{o:Option V}{A:Around}{E:Value->Shared->Prop}
def rD (p:A.units+20<cLine)(I:Inv X dv σ H s)(g:DGet H a y o)(m:RelV y u)(rd:RelV d r)(h:∀j s',Inv X dv σ H s'->RelV (o.getD d) j->Q j s') :
  wpAny (model X.prog X.w) A (call (.builtin "dict.get") [.ref a,u,r]) Q E s:=by
 rcases g with⟨kvs,k,e,i,l⟩ | ⟨kvs,k,b,e,i,n,l⟩
 ·subst i;obtain⟨z,f,vs,c,dd⟩:=Fu I.hok e;refine Ig Mi dd.typeIs SA (PySem.F.args_dict_get_3 _ _ _) (meets_dict_get_default (BE X.prog X.w) a (EH m) f r) ⟨_,dd.mapOf,h _ _ (I.tok _) ?_⟩;rw[l];exact(c.val k).getD rd
 subst i
 cases m
 obtain⟨z,f,xs,c,dd⟩:=HY I.hok e
 refine Ig Mi dd.typeIs SA (PySem.F.args_dict_get_3 _ _ _) (meetsH_dict_get_default (WK.dataKind X.prog X.w) a b f r) ⟨WK.room_in1 p,k,xs,key_of I.hok n,dd,h _ _ (I.tok _) ?_⟩
 rw[l]
 exact(c.val k).getD rd
end
def YK (td ty tx:TE):TE:=λσ H Q=>td σ H λx H1=>∃a,x=.ref a/\XG H1 a/\ty σ H1 λy H2=>tx σ H2 λz H3=>∃o,DGet H3 a y o/\Q (o.getD z) H3
section
variable {X:Cx}{o e f:Expr}{apos cpos:Pos}{td ty tx:TE}
def cC (A:X.A.units+20<cLine)(r:PE X o td)(w:PE X e ty)(B:PE X f tx)(m:M2 X o "get" apos e f cpos):PE X (.Call (.Attribute o "get" apos) [e,f] [] cpos) (YK td ty tx):=by intro b s c H Q I h;refine wpAny_Call_method m.base m.few m.line Ml Mi PySem.F.type_dict_get (thn (r b s c H _ I h) λu E j=>?_);obtain⟨x,v,l,n,a,K,d,N⟩:=j;subst K;obtain rfl:u=Value.ref a:=n;obtain⟨S,F,_⟩:=VE l d;refine⟨S,F,?_⟩;rw[m.trees];exact Mj U (OT (OP (thn (w b E c v _ l N) λiv s2 ⟨y,M,R,q,G⟩=>OP (thn (B b s2 c M _ R G) λfv s3 ⟨z,P,C,p,T,g,L⟩=>Se (rD A C g q p λW s4 D i=>⟨_,P,D,i,L⟩)))))
end
end L2
namespace Att
open PySem PySem.W PySem.Calls PyProof.Rows
def nJ :∀(ns:List Int) (vs:List Value),WellAll P h vs (ns.map WData.int)->IntsAre vs ns:=by
 intro ns;induction ns with
 | nil=>intro vs w;rw[Eb]at w;cases w;exact .nil
 | cons n ns ih=>
  intro vs w;rw[Bg]at w;cases w with
  | cons a b=>cases a;exact .cons _ _ (ih _ b)
def Zk {l:OpenLaw}{n:Nat}(j:l.most=some n){P:Params}{h:Heap}{args:List WData}{b:List Value}
  (c:l.row.toRowW.claim.pre args=true)(i:WellAll P h b args) :
  ∃a vs ns,b=[Value.ref a]/\args=[WData.list (ns.map WData.int)]/\h.get? a=some { cls:=.type "list",data:=.seq vs.toArray }/\IntsAre vs ns/\ns.length<=n:=by
 have p:=(pre_splitW c).2
 obtain⟨d,r,rfl,o,m⟩:=hasAllW_cons ((pre_splitW c).1)
 obtain rfl:=hasAllW_nil m
 obtain⟨xs,rfl,s⟩:=hasW_list o
 obtain⟨ns,rfl⟩:=items_int s
 have e:ns.length<=n:=by
  have f:(WTm.not (.lt (.lit (.int (n:Int))) (.len (.arg 0)))).holds [] { args:=[.list (ns.map .int)] } = true:=by have f:=(holds_andW p).1;rw[j]at f;exact f
  have g:=condW_of f (w_not (w_lt w_lit (w_len_list (w_arg U))));rw[Ai]at g;refine le_of_not_lt λq=>?_
  first
   | (rw[AU Ψ]at g;exact absurd g Ξ)
   | (simp at g;lia)
 cases i with
 | cons w1 w2=>
  cases w2;cases w1 with
  | list ho hall=>exact⟨_,_,ns,U,U,ho,nJ ns _ hall,e⟩
def bF (l:OpenLaw)(args:List WData):l.row.toRowW.claim.post args (.bool true) args=true:=
 postW_of
  (show WShape.has [] (.bool true) .bool=true by first | rfl | decide | simp[WShape.has,WShape.arms,WShape.armsAll])
  (show(WTm.eq .res (.lit (.bool true))).value [] { args:=args,res:=some (.bool true),after:=args } = some (.bool (true == true)) from w_eq_bool (w_res U) w_lit) U
def attach_call {l:OpenLaw}{n:Nat}{q:Program}{e:List Str}{C:(Str->Option Value)->Heap->Prop}{F:World->Heap->Prop}{d:DefRec}
  (T:l.most=some n)(B:d.params.defaults=[])
  (call:∀(w:World) (g c:Shared) (mg y:Str->Option Value) (m:Addr) (o:Obj) (v u i:Value) (a:Addr) (vs:List Value) (ns:List Int),Ground q e [] C w g mg y c.heap->F w c.heap -> c.heap.get? m=some o->o.data=.func (docDef d.name d.params d.body d.scope v u i)->c.heap.CodeRec u d.name->mg d.name=some (.ref m) -> c.heap.get? a=some { cls:=.type "list",data:=.seq vs.toArray }->IntsAre vs ns->ns.length<=n->c.gens=#[] -> codeAny (model l.prog w) callerA (.call (.ref m) ⟨[.ref a],[]⟩) (λr s'=>r=.ok (.ret (.bool true))/\OldK c.heap s'.heap/\s'.os=c.os/\AllBare s'.gens) c) :
  WalkO q e C F l.row.toRowW d [] (λf vs=>PySem.call f vs):=by
 intro w g c mg y G b m o v u i I kV P K x hD z H args D X s E Q A N
 obtain rfl:I=.none:=Dflts.none hD B
 obtain rfl:kV=.none:=Dflts.noKw hD
 obtain⟨a,vs,ns,rfl,rfl,p,h,j⟩:=Zk T s A
 refine enter_call (F5 (call w g c mg y m o v u i a vs ns G b P (fd_plain K) x z p h j H) λr s' S=>?_)
 obtain⟨rfl,M,R,W⟩:=S
 exact⟨.inl ⟨.bool true,.bool true,[],U,λ_=>U,.bool true,bF l _,λ_=>⟨List.Pairwise.nil,λ_ L=>(nomatch L)⟩⟩,M,R,W⟩
end Att
namespace L2
open PySem PySem.Spec PyProof.Rows
def Pf:∀{vs:List Value}{ns:List Int},IntsAre vs ns->Vals (ns.map V.int) vs:=by
 intro v n h;induction h with
 | nil=>exact .nil
 | cons n t h i=>exact .cons ⟨t,U⟩ i
def SZ (H:Hp):Prop:=∀b,H b=none\/∃o xs,H b=some (.frz o (.lst xs))
def mH {P:Program}{w:World}{K:W.Frag}{mg N:Str->Option Value}{CX:DT}{k:Nat}{M a:Addr}{fd:FuncData}{x:Str}{sp:Sp}{s₁:Shared}{vs:List Value}{ns:List Int}
  (KX:K.In s₁.heap)(l:s₁.heap.Ns mainGlobals mg)(f:s₁.heap.Ns builtinsNs N)(L:∀x:Str,x ≠ "__name__" -> N x=bootBuiltins x)(A:s₁.heap.NoLimit)(hg:s₁.gens=#[])
  (G:s₁.heap.get? a=some { cls:=.type "list",data:=.seq vs.toArray })(X:IntsAre vs ns)(hl:ns.length<=sizeLine)(hr:Room k callerA)
  (F:∀base:Heap,K.In base->base.Ns mainGlobals mg->FnOk P w K mg base CX k M fd [x] sp)(j:∀(s:Shared) (u:Value),BindsTo s fd ⟨[u],[]⟩ [(x,u)])
  (Q:∀H:Hp,SZ H->SqL K H a (ns.map V.int)->sp [.ref a] H (λv _=>v=.bl true) λ_ _ _=>False)
  (S:∀H e s',CX [] H s₁ (λ_ _ _=>False) e s'->False) :
  codeAny (model P w) callerA (.call (.ref M) ⟨[.ref a],[]⟩) (λr s'=>r=.ok (.ret (.bool true))/\OldK s₁.heap s'.heap/\s'.os=s₁.os/\AllBare s'.gens) s₁:=by
 have rv:=Pf X
 have p:=X.length
 have i:∀H:Hp,SZ H->SqL K H a (ns.map V.int)->HOk P w H s₁.heap->(∀b,H b≠none->b=a)->(H a≠none->K.lookup a=none) ->
   codeAny (model P w) callerA (.call (.ref M) ⟨[.ref a],[]⟩) (λr s'=>r=.ok (.ret (.bool true))/\OldK s₁.heap s'.heap/\s'.os=s₁.os/\AllBare s'.gens) s₁:=by
  intro H T hS C hA hK
  have c:∀{b:Addr}{o:Obj},s₁.heap.get? b=some o->H b=none->(FP s₁.heap H).get? b=some o:=λe n=>oH e n
  have I:∀{b:Addr}{o:Obj}{es:Array DictEntry}{ep:Nat},s₁.heap.get? b=some o->o.data=.dict es ep->H b=none:=λ{b o es ep} e d=>by
   cases q:H b with
   | none=>rfl
   | some u=>
    have R:b=a:=hA b (by rw[q];simp)
    subst R
    rw[G]at e;cases e
    have d':Data.seq vs.toArray _=Data.dict es ep:=d
    cases d'
  have g:∀{b:Addr}{m:Str->Option Value},s₁.heap.Ns b m->(FP s₁.heap H).Ns b m:=λ{b m} ⟨o,es,ep,e,d,r⟩=>⟨o,es,ep,c e (I e d),d,r⟩
  have E:K.In (FP s₁.heap H):=λb o e=>c (KX b o e) (by
   cases q:H b with
   | none=>rfl
   | some u=>
    have R:b=a:=hA b (by rw[q];simp)
    subst R
    rw[hK (by rw[q];simp)]at e;cases e)
  have hM:Mod K mg (FP s₁.heap H):=⟨E,g l,⟨N,g f,L⟩,let ⟨mc,h1,h2⟩:=A;⟨mc,g h1,h2⟩⟩
  have e0:Env0 P w K mg (FP s₁.heap H) callerA [] s₁ H:=⟨U,hM,λb o e=>iF e,le_of_eq (oD _ _),trivial,λb f=>absurd (show b∈([]:List Addr) from f) Θ,C,.of_eq hg⟩
  refine F5 ((F _ E (g l)).run callerA [] s₁ H ⟨[.ref a],[]⟩ [.ref a] [.ref a] _ _ hr e0 (j s₁ (.ref a)) (.cons U .nil) (Q H T hS)) λr s' h=>?_
  cases r with
  | error e=>exact(S H e s' h).elim
  | ok fl=>
   cases fl with
   | next=>exact False.elim h
   | brk=>exact False.elim h
   | cont=>exact False.elim h
   | ret u=>
    obtain⟨v,H',os,D,un,B,r',q⟩:=h
    have q':v=.bl true:=q
    subst q'
    obtain rfl:u=Value.bool true:=r'
    refine⟨U,OldK.of_keep λb o e=>?_,os,D⟩
    cases q:H b with
    | none=>exact un.keep b o e q (by intro z;exact absurd (show b∈([]:List Addr) from z) Θ) Θ
    | some u=>
     rcases T b with z | ⟨ob,xs,z⟩
     ·rw[q]at z;cases z
     have z2:=un.frzs b ob _ z
     obtain⟨e1,_⟩:=C b _ z
     obtain⟨e2,_⟩:=B b _ z2
     rw[e]at e1;cases e1
     exact e2
 cases hk:K.lookup a with
 | some o=>have e:=KX a o hk;rw[G]at e;cases e;refine i (λ_=>none) (λ_=>.inl U) (.inr ⟨_,vs.toArray,_,hk,U,U,U,by rw[BJ,p];exact hl,by simpa using rv⟩) (λb u z=>by have y:(none:Option HO)=some u:=z;cases y) (λb z=>absurd U z) λz=>absurd U z
 | none=>
  refine i (λb=>if b=a then some (.frz { cls:=.type "list",data:=.seq vs.toArray } (.lst (ns.map V.int)))else none) (λb=>?_) (.inl (.inr ⟨{ cls:=.type "list",data:=.seq vs.toArray },Ar U⟩)) (λb u z=>?_) (λb z=>?_) λ_=>hk
  ·by_cases f:b=a
   ·exact .inr ⟨_,_,Ar f⟩
   exact .inl (Ak f)
  ·by_cases f:b=a
   ·have y:=(Ar f).symm.trans z;cases y;subst f;exact⟨G,by rw[Ai];exact hl,vs,_,rv,G⟩
   have y:=(Ak f).symm.trans z;cases y
  by_cases f:b=a
  ·exact f
  exact absurd (Ak f) z
def walk_of {l:PySem.W.OpenLaw}{n k:Nat}{q:Program}{i:List Str}{T:(Str->Option Value)->Heap->Prop}{E:World->Heap->Prop}{d:DefRec}{K:Params->W.Frag}{L:World->DT}{D:World->Sp}{x:Str}
  (hn:l.most=some n)(y:n<=sizeLine)(C:d.params.defaults=[])(hr:Room k callerA)
  (hY:∀(w:World) (h:Heap),E w h->(K w.params).In h)
  (F:∀(w:World) (mg:Str->Option Value) (p:Addr) (h:Heap),(K w.params).In h->h.Ns mainGlobals mg->mg d.name=some (.ref p) -> ∃r:FuncData,(∀(s:Shared) (u:Value),BindsTo s r ⟨[u],[]⟩ [(x,u)]) /\ ∀base:Heap,(K w.params).In base->base.Ns mainGlobals mg->FnOk l.prog w (K w.params) mg base (L w) k p r [x] (D w))
  (z:∀(w:World) (H:Hp) (a:Addr) (ns:List Int),ns.length<=n->SZ H->SqL (K w.params) H a (ns.map V.int)->D w [.ref a] H (λv _=>v=.bl true) λ_ _ _=>False)
  (A:∀(w:World) (H:Hp) (s:Shared) (e:Value) (s':Shared),L w [] H s (λ_ _ _=>False) e s'->False) :
  PySem.W.WalkO q i T E l.row.toRowW d [] (λf vs=>PySem.call f vs):=by
 refine Att.attach_call hn C λw M j mg mb p o pm cd X a vs ns G b ho hd S B m g c R=>?_
 have I:=hY w _ b
 obtain⟨r,Q,hF⟩:=F w mg p _ I G.T.g B
 exact mH I G.T.g G.T.b G.T.builtins G.T.nolimit R m g (Er c y) hr hF Q (λH P N=>z w H a ns c P N) λH e s'=>A w H j e s'
def Fs (s:Stmt)(j:Nat):Stmt:=match s with
 | .ClassDef _ _ _ body _ _ _ _ _ _ _=>body.getD j (.Pass ⟨0,0,0,0⟩)
 | _=>.Pass ⟨0,0,0,0⟩
def Fv (s:Stmt):Arguments:=match s with
 | .FunctionDef _ a _ _ _ _ _ _ _ _=>a
 | _=>{ posonlyargs:=[],args:=[],vararg:=none,kwonlyargs:=[],kw_defaults:=[],kwarg:=none,defaults:=[] }
def B9 (s:Stmt):List Stmt:=match s with
 | .FunctionDef _ _ b _ _ _ _ _ _ _=>b
 | _=>[]
def Aq (s:Stmt):Scope:=match s with
 | .FunctionDef _ _ _ _ _ _ sc _ _ _=>sc
 | _=>{ kind:=.function,names:=[],isGenerator:=false,isCoroutine:=false }
abbrev CX0:DT:=λ_ _ _ _ _ _=>False
abbrev E0:XK:=λ_ _ _=>False
def Ao :EU CX0 X E0:=λ_ _ _ _ _ _ _ h=>h.elim
structure Fun (K:W.Frag)(x qual:Str)(st:Stmt)(f:Addr)(fd:FuncData):Prop where
 ex:∃(oc:Value) (od:Option Addr) (kV doc pm:Value) (an:Option Addr) (cdv ct:Value) (osl:Array (Option Value)),
  fd=PySem.W.fnOf x qual (Fv st) (B9 st) (Aq st) .none kV doc pm an cdv ct/\K.lookup f=some ⟨oc,od,.func fd,osl⟩/\PySem.W.codeIn K cdv qual=true
 kp:PySem.W.keepIn K (.ref f)=true
section
variable {P:Program}{w:World}{K:W.Frag}{mg:Str->Option Value}{base:Heap}
def Fun.ok {x a:Str}{st:Stmt}{f:Addr}{e:FuncData}{N ps:List Str}{k:Nat}{sp:Sp}(F:Fun K x a st f e)(S:AI N ps (Aq st))(len:∀vs H Q E,sp vs H Q E->vs.length=ps.length)
  (b:∀(cdv:Value) (A:Around) (outer:List Env) (s:Shared) (H:Hp) (vs:List V) (Q:VK) (E:XK),Room k (A.deeper (envOfC a (Aq st) s.heap.objs.size f cdv))->sp vs H Q E -> ∃t,PSs (DO CX0 P w K mg base N a (Aq st) f cdv A outer s H E).nox (B9 st) t/\t { nx:=λ_ H'=>Q .non H',rt:=Q } (start N vs) H):FnOk P w K mg base CX0 (k+1) f e ps sp:=by
 obtain⟨o,p,kV,j,m,n,cdv,ct,i,rfl,g,c⟩:=F.ex
 refine V1 g c S len λA outer s H vs Q E l d=>?_
 obtain⟨t,h,q⟩:=b cdv A outer s H vs Q E l d
 exact⟨t,h.nox,q⟩
def Fun.binds {x a:Str}{st:Stmt}{f:Addr}{e:FuncData}{ps:List Str}(F:Fun K x a st f e)
  (h:∀(kV b c:Value) (d:Option Addr) (cdv ct:Value) (us:List Value),us.length=ps.length->bindArgs (PySem.W.fnOf x a (Fv st) (B9 st) (Aq st) .none kV b c d cdv ct) ⟨us,[]⟩=pure (ps.zip us)):Binds K e ps []:=by
 obtain⟨l,m,kV,b,c,d,cdv,ct,g,rfl,j,i⟩:=F.ex
 exact .all (h kV b c d cdv ct)
def EI {x a:Str}{st:Stmt}{f:Addr}{h:Value}{i e:Option Addr}{d:Array (Option Value)}{kV b g cdv ct:Value}(l:K.lookup f=some ⟨h,i,.func (PySem.W.fnOf x a (Fv st) (B9 st) (Aq st) .none kV b g e cdv ct),d⟩)
  (c:PySem.W.codeIn K cdv a=true)(k:PySem.W.keepIn K (.ref f)=true):Fun K x a st f (PySem.W.fnOf x a (Fv st) (B9 st) (Aq st) .none kV b g e cdv ct):=⟨⟨h,i,kV,b,g,e,cdv,ct,d,U,l,c⟩,k⟩
end
def Cz {k:Nat}(a:Room k A):A.units+20<cLine:=lt_of_le_of_lt (Nat.add_le_add_left (by decide:20<=64) _) a.units
section
variable {X:Cx}
def pv (i:Nat) (d:X.N[i]? = some x:=by rfl)(c:SV X.env.scope x:=by first | exact Or.inl U | exact E9 (Or.inl U) | exact E9 (E9 U))(b:(x == ("__debug__" : Str))=false:=by decide)
  (a:(x == ("__classdict__" : Str))=false:=by decide):PE X (.Name x pos) (IC i):=bY d c b a
def Oj:Cs X (.builtin "len") (λxs H Q=>∃a kvs,xs=[V.ref a]/\H a=some (.dK kvs)/\Q (.int kvs.length) H):=by rintro b s f H xs us Q I r⟨a,kvs,rfl,d,q⟩;obtain⟨u,rfl,c⟩:=CM r;cases c;exact rA I (.inl d) λt s' e=>⟨.int kvs.length,H,e,⟨t,U⟩,q⟩
end
def BH {A B:Prop}(h:B):if false=true then A else B:=by rw[Ak BO];exact h
def BA {A B:Prop}(h:A):if true=true then A else B:=by rw[Ar rfl];exact h
def Bi {c A B:Prop}[Decidable c](a:c->A)(b:¬c->B):if c then A else B:=by
 by_cases h:c
 ·rw[Ar h];exact a h
 rw[Ak h];exact b h
def nB {c A B:Prop}[Decidable c](a:c)(h:B):if (!decide c)=true then A else B:=by rw[AU a];exact BH h
def Same (H H':Hp):Prop:=∀b o,H b=some o->H' b=some o
def Same.refl (H:Hp):Same H H:=λ_ _ h=>h
def Same.trans (a:Same H H1)(b:Same H1 H2):Same H H2:=λc o h=>b c o (a c o h)
def Same.free (e:Same H H') (h:H' l=Option.none):H l=Option.none:=by
 cases q:H l with
 | none=>rfl
 | some o=>rw[e l o q]at h;cases h
def Same.seq {K:W.Frag}{H H':Hp}{a:Addr}{xs:List V}(e:Same H H')(h:SqL K H a xs):SqL K H' a xs:=by
 rcases h with(h | ⟨o,h⟩) | h
 ·exact .inl (.inl (e _ _ h))
 ·exact .inl (.inr ⟨o,e _ _ h⟩)
 exact .inr h
section
variable {κ:Type} [DecidableEq κ]
def MA {k:κ} (h:Ax kvs k=some v):k∈kvs.map (·.1):=by
 have q:(kvs.any λb=>decide (b.1=k))=true:=by rw[Gc,h];all_goals rfl
 obtain⟨p,a,e⟩:=J1.mp q;exact Ba.mpr ⟨p,a,Bf e⟩
theorem Q8:∀{l:List κ}{k:κ},l.Nodup->¬k∈l->(l++[k]).Nodup
 | [],k,_,_=>by simp
 | a::r,k,h,hk=>by
  obtain⟨b,c⟩:=B6.mp h;refine B6.mpr ⟨λm=>?_,Q8 c λm=>hk (Az.mpr (E9 m))⟩;rcases(BF.mp m)with q | q
  ·exact b q
  exact hk (Az.mpr (Or.inl (AR.mp q).symm))
end
def CG (cells:List (Str×Addr)):List (Str×NameKind)->List (Str×Addr)->List (Str×Addr)
 | [],cs=>cs
 | (n,k)::r,cs=>CG cells r (if k == NameKind.free then(n,(cells.lookup n).getD 0)::cs else cs)
theorem WO :∀(ns:List (Str×NameKind)) (cs:List (Str×Addr)),(∀y∈ns,y.2=NameKind.free->(env.cells.lookup y.1).isSome=true) ->
  (forIn ns cs λ(p:Str×NameKind) (r:List (Str×Addr))=>if (p.2 == NameKind.free)=true then(do let a <- cellOf env p.1;pure (ForInStep.yield ((p.1,a)::r)):Sem _)else pure (ForInStep.yield r))=(pure (CG env.cells ns cs):Sem _)
 | [],cs,_=>by simp[CG]
 | (n,k)::r,cs,h=>by
  have i:=λb=>WO r b λy m=>h y (AY _ m);rw[List.forIn_cons];by_cases g:k=NameKind.free
  ·subst g;have j:=h (n,NameKind.free) A9 U;cases e:env.cells.lookup n with
   | none=>rw[e]at j;cases j
   | some c=>
    have l:cellOf env n=pure c:=by unfold cellOf;rw[e]
    have d:CG env.cells ((n,NameKind.free)::r) cs=CG env.cells r ((n,c)::cs):=by simp[CG,e]
    rw[d,<- i ((n,c)::cs)];(simp only[Kf,FA]);rw[l];rfl
  have f:(k == NameKind.free)=false:=by simpa using g
  have d:CG env.cells ((n,k)::r) cs=CG env.cells r cs:=by simp[CG,f]
  rw[d,<- i cs];(simp only[f,E8,Es]);rfl
def WL (h:∀y∈scope.names,y.2=NameKind.free->(env.cells.lookup y.1).isSome=true):closureFor scope env=pure (CG env.cells scope.names []):=by unfold closureFor;simp only[bind_pure];exact (WO (env:=env) scope.names [] h)
theorem WM :∀{ns:List (Str×NameKind)}{cs:List (Str×Addr)},(∀y∈ns,y.2=NameKind.free->(cells.lookup y.1).isSome=true)->(cs.lookup x=some c->cells.lookup x=some c) ->
  (CG cells ns cs).lookup x=some c->cells.lookup x=some c
 | [],_,_,h,e=>h e
 | (n,k)::r,cs,hn,h,e=>by
  refine WM (ns:=r) (λy i=>hn y (AY _ i)) ?_ e;by_cases b:k=NameKind.free
  ·subst b;(simp only[Kf,FA]);intro q;rw[G4]at q;by_cases f:x=n
   ·subst f;have g:=hn (x,NameKind.free) A9 U;simp only[Kf]at q;cases e1:cells.lookup x with
    | none=>rw[e1]at g;cases g
    | some d=>rw[e1]at q;exact q
   have a:(x == n)=false:=by simpa using f
   rw[a]at q;exact h q
  have a:(k == NameKind.free)=false:=by simpa using b
  (simp only[a,E8,Es]);exact h
theorem WN :∀{ns:List (Str×NameKind)}{cs:List (Str×Addr)},(cs.lookup x).isSome=true->((CG cells ns cs).lookup x).isSome=true
 | [],_,h=>h
 | (n,k)::r,cs,h=>by
  apply WN (ns:=r);split
  ·rw[G4];split
   ·rfl
   exact h
  exact h
theorem RJ :∀{ns:List (Str×NameKind)}{cs:List (Str×Addr)},(x,NameKind.free)∈ns->((CG cells ns cs).lookup x).isSome=true
 | [],_,h=>nomatch h
 | (n,k)::r,cs,h=>by
  rcases(Az.mp h)with e | e
  ·cases e;apply WN (ns:=r);simp
  exact RJ (ns:=r) e
theorem NH {env:Env}{x:Str}{k:NameKind}:∀{ns:List (Str×NameKind)},(∀y∈ns,y.2≠NameKind.cell)->k=NameKind.cell\/k=NameKind.free ->
  (ns.map λ(p:Str×NameKind)=>if (p.2 == NameKind.free && env.scope.kind == .function && env.kindOf p.1 == some .cell)then(p.1,NameKind.cell)else(p.1,p.2)).lookup x=some k->(x,NameKind.free)∈ns
 | [],_,_,e=>by simp at e
 | (n,j)::r,hn,hk,e=>by
  rw[Bg]at e;by_cases c:x=n
  ·subst c
   have f:j=NameKind.free:=by
    by_cases a:(j == NameKind.free && env.scope.kind == .function && env.kindOf x == some .cell)=true
    ·simp only[BV,FC]at a;exact a.1.1
    simp only[a]at e;simp at e;subst e;rcases hk with q | q
    ·exact absurd q (hn (x,j) A9)
    exact q
   subst f;exact A9
  refine AY _ (NH (env:=env) (λy d=>hn y (AY _ d)) hk ?_);by_cases a:(j == NameKind.free && env.scope.kind == .function && env.kindOf n == some .cell)=true
  ·simp only[a,FA]at e;rw[G4]at e;have b:(x == n)=false:=by simpa using c
   rw[b]at e;exact e
  simp only[a]at e;simp at e;rw[G4]at e;have b:(x == n)=false:=by simpa using c
  rw[b]at e;simpa using e
def DJ (X:Cx)(N:List Str)(scope:Scope)(C:Addr)(s:Shared)(H:Hp)(fp:List Addr):Cx where
 prog:=X.prog
 w:=X.w
 K:=X.K
 mg:=X.mg
 base:=X.base
 A:=X.A
 N:=N
 s₀:=s
 H₀:=H
 env:=compEnvC scope (CG X.env.cells scope.names []) C X.env
 outer:=X.stack
 stack:=X.stack
 ex:=fp
 fn:=λ_=>false
 calm:=X.calm
 pn:=[]
 xe:=λ_ _=>False
def Fy (n:Nat)(js:List Nat)(σ:St):St:=replicate n none++js.map λj=>(σ[j]?).getD none
structure LcOk (X:Cx)(N:List Str)(sc scope:Scope)(own:List Str)(fr:List Str)(js:List Nat):Prop where
 around:X.env.scope=sc
 names:N=own++fr
 kind:scope.kind=.function
 okind:sc.kind=.function
 nocell:∀y∈scope.names,y.2≠NameKind.cell
 free:∀y∈scope.names,y.2=NameKind.free->sc.names.lookup y.1=some NameKind.cell
 loc:∀y∈scope.names,y.2=NameKind.local->scope.names.lookup y.1=some NameKind.local
 at':js.map (λj=>X.N[j]?)=fr.map some
 cap:∀x∈fr,sc.names.lookup x=some NameKind.cell/\scope.names.lookup x=some NameKind.free
theorem Uw {env:Env}{x:Str}(d:env.scope.kind=.function)(f:env.kindOf x=some NameKind.cell):∀{ns:List (Str×NameKind)},ns.lookup x=some NameKind.free ->
  (ns.map λ(p:Str×NameKind)=>if (p.2 == NameKind.free && env.scope.kind == .function && env.kindOf p.1 == some .cell)then(p.1,NameKind.cell)else(p.1,p.2)).lookup x=some NameKind.cell
 | [],e=>by simp at e
 | (n,j)::r,e=>by
  rw[Bg];rw[G4]at e;by_cases c:x=n
  ·subst c;simp only[Kf]at e;cases e;have a:(NameKind.free == NameKind.free && env.scope.kind == .function && env.kindOf x == some .cell)=true:=by rw[d,f];rfl
   simp only[a,FA];rw[G4];simp
  have b:(x == n)=false:=by simpa using c
  rw[b]at e;have g:=Uw d f (ns:=r) e;by_cases a:(j == NameKind.free && env.scope.kind == .function && env.kindOf n == some .cell)=true
  ·simp only[a,FA];rw[G4,b];exact g
  rw[Ak a,G4,b];exact g
def LcOk.cellAt (L:LcOk X N sc scope own fr js)(ok:X.Ok):∀y∈scope.names,y.2=NameKind.free->(X.env.cells.lookup y.1).isSome=true:=λy a b=>by obtain⟨c,e⟩:=ok.has y.1 (.inl (show X.env.scope.names.lookup y.1=_ by rw[L.around];exact L.free y a b));rw[e];rfl
def LcOk.sub (L:LcOk X N sc scope own fr js)(ok:X.Ok) (e:(CG X.env.cells scope.names []).lookup x=some c):X.env.cells.lookup x=some c:=
 WM (L.cellAt ok) (λz=>by simp at z) e
def LcOk.len (L:LcOk X N sc scope own fr js):js.length=fr.length:=by have:=BQ List.length L.at';simpa using this
theorem lZ (L:LcOk X N sc scope own fr js)(I:Inv X dv σ H s)(d:∀b∈fp,FpOk X dv H b)
  (l:∀b∈fp,b<s.heap.objs.size) (f:s.heap.objs.size<=C):(DJ X N scope C s H fp).Ok where
 mod:=I.mod
 kind:=L.kind
 glob:=I.ok.glob
 blt:=I.ok.blt
 above:=f
 inj:=λx y c g j=>I.ok.inj x y c (L.sub I.ok g) (L.sub I.ok j)
 has:=λx m=>by
  have h:(x,NameKind.free)∈scope.names:=by
   rcases m with q | q
   ·exact NH L.nocell (.inl U) q
   exact NH L.nocell (.inr U) q
  have:=RJ (cells:=X.env.cells) (cs:=[]) h;cases e:(CG X.env.cells scope.names []).lookup x with
  | none=>rw[e]at this;cases this
  | some c=>exact⟨c,e⟩
 cab:=λ_ _ z _=>nomatch z
 hd:=I.ok.hd
 frames:=I.ok.frames
 stk:=.inl U
 exf:=λb a=>⟨Bk (CJ (l b a) f),λx c e=>(d b a).2.2.2.2.1 x c (L.sub I.ok e)⟩
 bs:=I.bs
 bsz:=Er I.ok.bsz I.sz
 noex:=λb o e a=>by
  rcases(d b a).2.2.2.1 with q | q
  ·exact I.ok.noex b o e q
  exact absurd (CJ (A0 (I.ok.bs b o e).1) q) (DY _)
 exfs:=λb a i=>by
  rcases Az.mp (I.stkSub b i)with q | q
  ·exact(d b a).2.1 q
  exact(d b a).2.2.1 q
 funs:=I.stack
 frf:=I.stkFree
def getD_none (h:o.getD none=some v):o=some (some v):=by
 cases o with
 | none=>cases h
 | some u=>cases u with
  | none=>cases h
  | some w=>cases h;rfl
def rO (e:(Fy n js σ)[i]? = some (some v)):∃k j,i=n+k/\js[k]? = some j/\σ[j]? = some (some v):=by
 unfold Fy at e;by_cases a:i<n
 ·rw[Da (by simpa using a)]at e;rw[OO]at e;split at e <;> cases e
 rw[ER (by simpa using a)]at e;simp only[Fz,AQ]at e;cases q:js[i-n]? with
 | none=>rw[q]at e;cases e
 | some j=>rw[q]at e;exact⟨i-n,j,Ψ,q,getD_none (BG e)⟩
def lX (L:LcOk X N sc scope own fr js)(I:Inv X dv σ H s)(Q:∀b∈fp,FpOk X dv H b)
  (M:∀b∈fp,b<s.heap.objs.size) {tk:Nat}(S:h'.Ns (s.heap.objs.size+1) m)(n:∀b o,s.heap.get? b=some o->h'.get? b=some o)
  (hl:h'.get? s.heap.objs.size=some { cls:=.type "list",data:=.seq ([]:List Value).toArray }) :
  Inv (DJ X N scope (s.heap.objs.size+1) s H fp) [] (Fy own.length js σ) (Y H s.heap.objs.size (.lst [])) { s with heap:=h',toks:=tk }:=by
 have fresh:∀a,s.heap.objs.size<=a->H a=none:=λa P=>I.hok.fresh P
 have cellAt:∀x c,(CG X.env.cells scope.names []).lookup x=some c->∃v,s.heap.IsCell c v:=λx c e=>I.cell x c (L.sub I.ok e)
 refine⟨lZ L I Q M (Fb _),U,I.bare,Un.laid n (An _) (fresh _ (An _)),⟨m,S,λi x v R K e3=>?_⟩,λx c e=>?_,?_,λx c e=>?_,λp W=>?_,I.hok.laid n (An _) ?_,?_⟩
 ·obtain⟨k,j,rfl,hj,T⟩:=rO K;have A:(own++fr)[own.length+k]? = some x:=by have g:N[own.length+k]? = some x:=R;rw[L.names]at g;exact g
  rw[ER Ψ,Nat.add_sub_cancel_left]at A;have hx:x∈fr:=Br A;have y:X.N[j]? = some x:=by have:=BQ (λl=>l[k]?) L.at';simp only[AQ,hj,A,map_some]at this;exact BG this
  obtain⟨B,C⟩:=L.cap x hx;have q:X.env.kindOf x=some NameKind.cell:=by show X.env.scope.names.lookup x=_;rw[L.around];exact B
  have E:(relabel scope X.env).names.lookup x=some NameKind.cell:=Uw (by rw[L.around];exact L.okind) q C;obtain⟨m0,_,w⟩:=I.loc;obtain⟨u,r,l⟩:=w j x v y T (.inr (.inl q));refine⟨u,r,.inr ⟨.inl E,?_⟩⟩;rcases l with⟨D,_⟩ | ⟨_,c,hc,z⟩
  ·rw[q]at D;cases D
  have G:((CG X.env.cells scope.names []).lookup x).isSome=true:=RJ (NH L.nocell (.inl U) E);cases e:(CG X.env.cells scope.names []).lookup x with
  | none=>rw[e]at G;cases G
  | some d=>have F:=L.sub I.ok e;rw[hc]at F;cases F;obtain⟨o,f,h⟩:=z;exact⟨c,e,o,n c o f,h⟩
 ·obtain⟨v,o,f,h⟩:=cellAt x c e;exact⟨v,o,n c o f,h⟩
 ·show Y H s.heap.objs.size _ (s.heap.objs.size+1)=none;rw[Af (Nat.succ_ne_self _)];exact fresh _ (Fb _)
 ·obtain⟨v,o,f,h⟩:=cellAt x c e;rw[Af (Bk (A0 f))];exact I.freeC x c (L.sub I.ok e)
 ·exact nomatch W
 ·exact⟨Bn _,[],0,.nil,hl⟩
 show(Fy own.length js σ).length=N.length
 rw[L.names]
 simp[Fy,L.len]
def Mp (X:Cx)(ifs:List Expr)(t:TT):Prop:=
 ∀(dv:List (Addr×Obj)) (s:Shared) (σ:St) (H:Hp) (Q:Bool->Hp->Prop),Inv X dv σ H s->t σ H Q ->
  wpAny (model X.prog X.w) X.A (forIn ifs true λc r=>if r=true then do let ok <- isTrue c X.env (eval c X.env);pure (ForInStep.yield ok)else pure (ForInStep.yield r)) (TP X dv σ Q) X.xe s
def TK:TT:=λ_ H Q=>Q true H
def Ck :Mp X [] TK:=λ_ _ _ H _ I h=>wpAny_tests_nil ⟨H,I,h⟩
def QP {t:TT}(h:PT X c t):Mp X [c] t:=λa s b H Q I q=>wpAny_tests_one (h a s b H Q I q)
def ID (J:It)(D:Addr)(σ0:St)(g:TG)(tc:TT)(te:TE)(fin:Hp->Prop)(W:Nat->Nat->List V->Hp->Prop):Prop:=
 ∀i m ys H,W i m ys H->(J.stop i H/\fin H)\/(J.go i H/\∃N:List V->Hp->Prop,(∀ys' H',N ys' H'->∃m',m'<m/\W (i+1) m' ys' H') /\ ∀x H1,J.yld i H x H1->g x σ0 H1 λσ2 H2=>(σ2.length=σ0.length/\∀(i:Nat) v,σ0[i]? = some (some v)->σ2[i]? = some (some v)) /\ tc σ2 H2 λb H3=>if b=true then te σ2 H3 λy H4=>∃zs,H4 D=some (.lst zs)/\zs.length<sizeLine/\N (zs++[y]) (Y H4 D (.lst (zs++[y])))else N ys H3)
def tLc (wi:TI)(n:Nat)(js:List Nat)(g:TG)(tc:TT)(te:TE):TE:=λσ H Q=>wi σ H λJ H1=>∀D,H1 D=none ->
 ∃W:Nat->Nat->List V->Hp->Prop,(∃m,W 0 m [] (Y H1 D (.lst [])))/\ID J D (Fy n js σ) g tc te (λH2=>Q (.ref D) H2) W
def Yv (i:Nat)(wi:TI)(n:Nat)(js:List Nat)(g:TG)(tc:TT)(te:TE):TS:=λE σ H=>wi σ H λJ H1=>∀D,H1 D=none ->
 ∃W:Nat->Nat->List V->Hp->Prop,(∃m,W 0 m [] (Y H1 D (.lst [])))/\ID J D (Fy n js σ) g tc te (λH2=>E.nx (σ.set i (some (.ref D))) H2) W
section
variable {X:Cx}
def aH:V->List V->Hp->VK->Prop:=λx vs H Q=>∃l xs i y,x=.ref l/\vs=[.int i,y]/\0<=i/\i<=(xs.length:Int)/\H l=some (.lst xs)/\xs.length<sizeLine/\Q .non (Y H l (.lst (xs.take i.toNat++y::xs.drop i.toNat)))
def nL (a:List Value)(i:Int)(u:Value)(h0:0<=i)(b:i<=(a.length:Int)) :
  (λxs:Array Value=>have k:=if i<0 then(i+((xs.size:Nat):Int)).toNat else min i.toNat xs.size;(xs.extract 0 k).push u++xs.extract k) a.toArray=(a.take i.toNat++u::a.drop i.toNat).toArray:=by
 have e:(if i<0 then(i+((a.toArray.size:Nat):Int)).toNat else min i.toNat a.toArray.size)=i.toNat:=by rw[Ak Ψ,BJ];lia
 show(a.toArray.extract 0 (if i<0 then(i+((a.toArray.size:Nat):Int)).toNat else min i.toNat a.toArray.size)).push u++a.toArray.extract (if i<0 then(i+((a.toArray.size:Nat):Int)).toNat else min i.toNat a.toArray.size)=_
 rw[e]
 apply Ke.mp
 simp
 (exact Eo Θ)
def Vh:S1 X "list.insert" aH:=by rintro b s j H x vs v us Q I d g⟨l,xs,i,y,rfl,rfl,h0,m,c,o,q⟩;cases d;obtain⟨p,u,rfl,⟨t,rfl⟩,f⟩:=Kt g;obtain⟨z,a,n,r,w,e⟩:=I.lstM c;have h:=Lz;refine G1 Sy ⟨_,e,U⟩ F.entry_list_insert (F.args_list_insert_3 _ _ _) (PySem.AutoListH.list_insert_list_int_val_1 l a.toArray n i t u (by rw[fitsIndex_both Ψ Ψ];decide) (by rw[BJ];lia)) ⟨e,.non,_,I.lset (its':=a.take i.toNat++u::a.drop i.toNat) c e (nL a i u h0 Ψ) ((r.take i.toNat).append (.cons f (r.drop i.toNat))) ?_,U,q⟩;(rw[AG,Cy,Bh,Dq]);lia
def cO:Bz X (binaryOp .Mult) (λx y H Q=>∃z i,x=.str z/\y=.int i/\1<=i/\i<=1000/\z.length<=1000/\Q (.str (Txt.mul z i)) H):=by
 intro a s j H x y v u Q I d e h;obtain⟨z,i,rfl,rfl,n,m,g,q⟩:=h;obtain⟨t,rfl⟩:=d;obtain⟨t',rfl⟩:=e;have l:sizeLine=16777216:=AF;have o:z.length*i.toNat<=1000*1000:=Nat.mul_le_mul g Ψ;refine SB.mul ⟨?_,λ_ _=>?_,λ_ _=>?_⟩ λt' k=>⟨.str (Txt.mul z i),H,I.tok _,⟨_,U⟩,q⟩
 ·have b:decide (i < -(2^63:Int))=false:=BR Ψ;have f:decide (i≥2^63)=false:=BR Ψ;rw[b,f,Bool.or_false]
 ·have c:(z.length:Int)*i=((z.length*i.toNat:Nat):Int):=by rw[Int.natCast_mul,Dr Ψ]
  have p:(z.length:Int)<=(2^63-1) / i:=Int.le_ediv_of_mul_le Ψ (by rw[c];lia);lia
 show decide (z.length*i.toNat > sizeLine)=false;exact BR Ψ
def kT:F9 X "str.startswith" (λx xs H Q=>∃a b,x=.str a/\xs=[.str b]/\Q (.bl (Txt.startswith a b)) H):=by rintro c s f H x xs v us Q I d e⟨a,b,rfl,rfl,q⟩;obtain⟨t,rfl⟩:=d;obtain⟨u,rfl,t',rfl⟩:=CM e;exact SC.startswith ⟨.bl _,H,I,U,q⟩
theorem Tc:∀(tk:Nat) (xs:List Str),Vals (xs.map V.str) (strsFrom tk xs)
 | _,[]=>.nil
 | tk,_::r=>.cons ⟨tk,U⟩ (Tc (tk+1) r)
def Ju:F9 X "str.split" (λx xs H Q=>∃a b,x=.str a/\xs=[.str b]/\(b.length == 0)=false/\a.length+2<=sizeLine/\∀p,H p=none->Q (.ref p) (Y H p (.lst ((Txt.split a b).map V.str)))):=by
 intro c s i H x xs v us Q I g j h;obtain⟨a,b,rfl,rfl,f,m,q⟩:=h;obtain⟨t,rfl⟩:=g;obtain⟨u,rfl,t',rfl⟩:=CM j;have one:∀{ys:List Str},ys=[a]->Txt.split a b=ys->EP X c i Q (.ref s.heap.objs.size) { s with heap:=s.heap.push { cls:=.type "list",data:=.seq [Value.str a t].toArray } }:=λ{ys} e1 e2=>by have d:=q _ (I.hok.fresh (An _));rw[e2,e1]at d;exact⟨.ref _,_,I.lnew (ys:=[V.str a]) (t':=s.toks) (.cons ⟨t,U⟩ .nil) (by show 1<=sizeLine;decide),U,d⟩
 have l:=split_le a b;cases h1:(decide (a.length<b.length) || decide (Builtin.Str.strKind a<Builtin.Str.strKind b))with
 | true=>refine G1 FZ (LZ _ _ _) Sd (Sl _ _) (meets_str_split_cannot_occur a b t t' h1) ?_;exact one U (Ar h1)
 | false=>
  cases hf:(Builtin.Str.occurrences a b 0 a.length (a.length+1)).isEmpty with
  | true=>refine G1 FZ (LZ _ _ _) Sd (Sl _ _) (meets_str_split_not_found a b t t' h1 f hf) ?_;exact one U ((Ak (by rw[h1];decide)).trans (Ar hf))
  | false=>
   have e:Txt.split a b=Builtin.Str.partsBetween a (Builtin.Str.occurrences a b 0 a.length (a.length+1)) b.length:=(Ak (by rw[h1];decide)).trans (Ak (by rw[hf];decide));refine G1 FZ (LZ _ _ _) Sd (Sl _ _) (meets_str_split_sep a b t t' h1 f hf Ψ (by rw[<- e];lia)) ?_;have d:=q _ (I.hok.fresh (An _));refine⟨.ref _,_,I.lnew (Tc s.toks _) ?_,U,?_⟩
   ·rw[Ai,<- e];lia
   rw[<- e];exact d
def UJ (K:W.Frag):R2:=λx y H Q=>∃a b xs ys,x=.ref a/\y=.ref b/\SqT K H a xs/\SqT K H b ys/\xs.length+ys.length<=sizeLine /\
 (xs=[]->Q (.ref b) H)/\(xs≠[]->ys=[]->Q (.ref a) H)/\(xs≠[]->ys≠[]->∀p,H p=none->Q (.ref p) (Y H p (.tup (xs++ys))))
def Q3:Bz X (binaryOp .Add) (UJ X.K):=by
 rintro d s D H x y v u Q I l p⟨a,b,xs,ys,rfl,rfl,z,m,N,F,M,L⟩;by_cases g:xs=[]
 ·subst g;cases l;cases p;obtain⟨C,E,G,_⟩:=I.tuple z;obtain⟨q,R,B,_⟩:=I.tuple m;cases E;obtain⟨⟨cls,dd,data,P⟩,w,A,n,o⟩:=id G;obtain⟨⟨r,h,i,j⟩,e,c,K,f⟩:=id B;simp only at A o c f;subst A o c f
  exact concat_meets ⟨_,w,U⟩ ⟨_,e,U⟩ noFill_tuple_add seq_tuple_add SE SH (SN _ _)
   (tuple_addW0 a b _ _ n K dd h P j U) ⟨w,e,⟨.ref b,H,I,U,F U⟩⟩
 exact cT d s D H _ _ v u Q I l p ⟨a,b,xs,ys,U,U,z,m,g,N,M g,L g⟩
end
mutual
inductive RdV (H:Hp):V->PyData->Prop
 | non:RdV H .non .none
 | int (i:Int):RdV H (.int i) (.int i)
 | str (x:Str):RdV H (.str x) (.str x)
 | tup {a:Addr}{xs:List V}{ds:List PyData}:H a=some (.tup xs)->RdVs H xs ds->RdV H (.ref a) (.tuple ds)
inductive RdVs (H:Hp):List V->List PyData->Prop
 | nil:RdVs H [] []
 | cons {x:V}{d:PyData}{xs:List V}{ds:List PyData}:RdV H x d->RdVs H xs ds->RdVs H (x::xs) (d::ds)
end
mutual
theorem RdV.reads (ok:HOk P w H h):∀{x:V}{d:PyData}{u:Value},RdV H x d->RelV x u->∃b,Reads h u d b
 | _,_,_,.non,r=>by cases r;exact⟨_,.none⟩
 | _,_,_,.int i,r=>by obtain⟨t,rfl⟩:=r;exact⟨_,.int i t⟩
 | _,_,_,.str x,r=>by obtain⟨t,rfl⟩:=r;exact⟨_,.str x t⟩
 | _,_,_,.tup (a:=a) e rs,r=>by cases r;obtain⟨z,c,g,o,f,l,n,j⟩:=ok a _ e;obtain⟨b,m⟩:=RdVs.reads ok rs g;exact⟨b,.tuple f l j (by simpa using m)⟩
theorem RdVs.reads (ok:HOk P w H h):∀{xs:List V}{ds:List PyData}{us:List Value},RdVs H xs ds->Vals xs us->∃c,ReadsAll h us ds c
 | _,_,_,.nil,r=>by cases r;exact⟨_,.nil⟩
 | _,_,_,.cons a b,r=>by
  cases r with
  | cons r1 r2=>obtain⟨c,d⟩:=RdV.reads ok a r1;obtain⟨bs,e⟩:=RdVs.reads ok b r2;exact⟨_,.cons d e⟩
end
mutual
theorem RdV.same (k:∀b xs,H b=some (.tup xs)->H' b=some (.tup xs)):∀{x:V}{d:PyData},RdV H x d->RdV H' x d
 | _,_,.non=>.non
 | _,_,.int i=>.int i
 | _,_,.str x=>.str x
 | _,_,.tup e rs=>.tup (k _ _ e) (RdVs.same k rs)
theorem RdVs.same (k:∀b xs,H b=some (.tup xs)->H' b=some (.tup xs)):∀{xs:List V}{ds:List PyData},RdVs H xs ds->RdVs H' xs ds
 | _,_,.nil=>.nil
 | _,_,.cons a b=>.cons (RdV.same k a) (RdVs.same k b)
end
theorem RdVs.get :∀{xs:List V}{ds:List PyData}{i:Nat}{x:V},RdVs H xs ds->xs[i]? = some x->∃d,ds[i]? = some d/\RdV H x d
 | _,_,_,_,.nil,e=>by simp at e
 | _,_,0,_,.cons a _,e=>by simp at e;subst e;exact⟨_,U,a⟩
 | _,_,i+1,_,.cons _ b,e=>by obtain⟨d,c,f⟩:=RdVs.get b (by simpa using e);exact⟨d,by simpa using c,f⟩
theorem RdVs.length :∀{xs:List V}{ds:List PyData},RdVs H xs ds->xs.length=ds.length
 | _,_,.nil=>rfl
 | _,_,.cons _ b=>by simp[RdVs.length b]
theorem RdVs.append :∀{xs ys:List V}{ds es:List PyData},RdVs H xs ds->RdVs H ys es->RdVs H (xs++ys) (ds++es)
 | _,_,_,_,.nil,r=>r
 | _,_,_,_,.cons a b,r=>.cons a (RdVs.append b r)
theorem RdVs.strs :∀(xs:List Str),RdVs H (xs.map V.str) (xs.map PyData.str)
 | []=>.nil
 | x::r=>.cons (.str x) (RdVs.strs r)
section
variable {X:Cx}
def aJ (neg:Bool):R2:=λx y H Q=>∃d e,RdV H x d/\RdV H y e/\PySem.SeqAt.shaped d=true/\PySem.SeqAt.shaped e=true/\Q (.bl (neg ^^ PyData.eqv d e)) H
def cS (m:X.A.units+64<cLine):Bz X (compareOp .Eq) (aJ false):=by rintro c s o H x y v u Q I f j⟨d,e,h,g,l,i,q⟩;obtain⟨n,a⟩:=h.reads I.hok f;obtain⟨bs,b⟩:=g.reads I.hok j;rw[Bool.false_xor]at q;exact SS a b l i m ⟨.bl _,H,I,U,q⟩
end
end L2
namespace ZT
open PySem PyProof.Rows
section
variable {prog:Program}{w:World}{A:Around}{E:Value->Shared->Prop}{s:Shared}
def next_item {t:Addr}{k:Nat} (d:s.heap.IsTupleIter p t k)(h:s.heap.IsTuple t items)(f:items[k]? = some v)
  (q:∀h',h'.IsTupleIter p t (k+1)->Heap.SameBut p s.heap h'->Q v { s with heap:=h' }):wpAny (model prog w) A (Builtin.SmallTypes.nextOf (.ref p)) Q E s:=by
 obtain⟨o,b,e,a⟩:=id d
 obtain⟨j,c,_,i,g⟩:=h
 (unfold Builtin.SmallTypes.nextOf)
 refine Ac (F0 (name:=Str.ofString "__next__") d.typeIs O2 (DC O2 d.typeIs F.entry_tuple_iterator_next ?_ (F.args_tuple_iterator_next_1 _)))
 show wpAny _ _ (field (.ref p) 0 >>= _) _ _ s
 refine Ac (Ic b a (x:=.ref t) U ?_)
 (show wpAny _ _ (if (Value.ref t == Value.none)=true then _ else _) _ _ s)
 rw[Ak (by exact BO)]
 show wpAny _ _ (field (.ref p) 1 >>= _) _ _ s
 refine Ac (Ic b a (x:=.int k 0) U ?_)
 (show wpAny _ _ (seqItems? (.ref t) >>= _) _ _ s)
 refine Ac (Kc c g ?_)
 simp only[C9,f]
 refine Ac (OA b a Θ (Aj ⟨v,U,Aj (q _ ?_ (FX ..))⟩))
 refine⟨_,Mh _ b (Obj.isFreed_of_fields (ON a _)),(Obj.cls_mapFields ..).trans e,?_⟩
 rw[ON a]
 simp[rawInt]
def next_end {t:Addr}{k:Nat} (g:A.handled=none)(f:s.heap.IsTupleIter p t k)(j:s.heap.IsTuple t items)(h:items[k]? = none)
  (q:∀h' e,Heap.ExtBut p s.heap h'->(∃o,h'.get? e=some o/\o.cls=.type "StopIteration")->E (.ref e) { s with heap:=h' }):wpAny (model prog w) A (Builtin.SmallTypes.nextOf (.ref p)) Q E s:=by
 obtain⟨o,d,n,c⟩:=id f
 obtain⟨r,b,_,l,i⟩:=j
 (unfold Builtin.SmallTypes.nextOf)
 refine Ac (F0 (name:=Str.ofString "__next__") f.typeIs O2 (DC O2 f.typeIs F.entry_tuple_iterator_next ?_ (F.args_tuple_iterator_next_1 _)))
 show wpAny _ _ (field (.ref p) 0 >>= _) _ _ s
 refine Ac (Ic d c (x:=.ref t) U ?_)
 (show wpAny _ _ (if (Value.ref t == Value.none)=true then _ else _) _ _ s)
 rw[Ak (by exact BO)]
 show wpAny _ _ (field (.ref p) 1 >>= _) _ _ s
 refine Ac (Ic d c (x:=.int k 0) U ?_)
 (show wpAny _ _ (seqItems? (.ref t) >>= _) _ _ s)
 refine Ac (Kc b i ?_)
 simp only[C9,h]
 refine Ac (G3 (Ac (OA d c Θ ?_)))
 (show wpAny _ _ (newExc (.type "StopIteration") [] >>= _) _ _ _)
 refine Ac ?_
 simp only[newExc,newTuple]
 (refine Ac (DZ ?_ (by size_fits)))
 (refine Ac (m:=firstArgMember _ _) (J0 (a:=Value.none) (by first | rfl | (simp only[firstArgMember];rfl)) ?_))
 (refine DZ ?_ (by size_fits))
 simp only[raiseNew]
 (refine Ac (wpAny_handled ?_))
 (first | rw[show A.in1.handled=none from g] | rw[g])
 (refine Ac (Aj (wpAny_throw ?_)))
 exact q _ _ (((FX ..).extBut.push _).push _) ⟨_,Bs _ U,U⟩
end
abbrev zI (t:Addr):Obj:={ cls:=.type "tuple_iterator",data:=.fields #[.ref t,.int 0 0] }
end ZT
namespace L2
open PySem PySem.Spec PyProof.Rows
section
variable {X:Cx}{dv:List (Addr×Obj)}{σ:St}{H:Hp}{s:Shared}{h':Heap}
def FpOk.not {ch:List Addr}(a:∀b∈ch,FpOk X dv H b){b:Addr}{o:HO}(e:H b=some o):b∉ch:=λz=>by have:=(a b z).1;rw[e]at this;cases this
def Inv.fpT {t:Addr} (I:Inv X dv σ H s)(b:SqT X.K H t zs)(f:FpOk X dv H t):False:=by
 rcases b with a | ⟨o,_,_,hk,_⟩
 ·rcases a with a | ⟨o,a⟩
  ·rw[f.1]at a;cases a
  rw[f.1]at a;cases a
 have e:=I.mod.kin t o hk;rcases f.2.2.2.1 with q | q
 ·exact I.ok.noex t o e q
 exact absurd (CJ (A0 (I.ok.bs t o e).1) q) (DY _)
def Inv.stepL {t':Nat}{ch:List Addr}(I:Inv X dv σ H s)(d:∀b∈ch,FpOk X dv H b)(k:∀b o,b∉ch->s.heap.get? b=some o->h'.get? b=some o):Inv X dv σ H { s with heap:=h',toks:=t' }:=by
 refine I.step (λb f=>⟨(d b f).2.2.2.1,(d b f).2.1,(d b f).2.2.2.2.1,(d b f).2.2.2.2.2⟩) (λb o _ _ a e _=>k b o a e) (λb o _ _ a e _=>⟨o.slots,k b o a e⟩) (λ_ _ _ _ n=>n)
  (λb o a e=>⟨o,k b o a e⟩) (λ_ _ e=>e) (λ_ _ _ e=>e) (λb ps e=>⟨#[],by rw[e];simp⟩) (λm g=>?_) (λb u e=>?_) I.bare
 ·obtain⟨o,es,ep,h,r⟩:=g;exact⟨o,es,ep,k _ o (λz=>(d _ z).2.1 U) h,r⟩
 refine(I.hok b u e).stay (λc v a q=>k c v ?_ q) (λ_ q=>q) λ_ _ q=>q;rcases a with z | z
 ·rw[z];exact FpOk.not d e
 exact FpOk.not d z
def Inv.stepN {t':Nat}{ch:List Addr}{i:HO}(I:Inv X dv σ H s)(g:∀b∈ch,FpOk X dv H b)(k:∀b o,b∉ch->s.heap.get? b=some o->h'.get? b=some o)
  (new:ObjOk X.prog X.w (Y H s.heap.objs.size i) h' s.heap.objs.size i):Inv X dv σ (Y H s.heap.objs.size i) { s with heap:=h',toks:=t' }:=by
 have fr:H s.heap.objs.size=none:=I.hok.fresh (An _)
 have l:FpOk X dv H s.heap.objs.size:=I.fpOk (An _) fr
 have d:∀b∈s.heap.objs.size::ch,FpOk X dv H b:=λb a=>by
  rcases(Az.mp a)with e | e
  ·rw[e];exact l
  exact g b e
 have h:∀b o,b∉s.heap.objs.size::ch->s.heap.get? b=some o->h'.get? b=some o:=λb o a e=>k b o (λz=>a (AY _ z)) e
 have p:∀b o,s.heap.get? b=some o->b≠s.heap.objs.size:=λb o e=>Bk (A0 e)
 refine I.step (g':=s.gens) (d':=s.drawn) (ch:=s.heap.objs.size::ch) (λb a=>⟨(d b a).2.2.2.1,(d b a).2.1,(d b a).2.2.2.2.1,(d b a).2.2.2.2.2⟩) (λb o _ _ f e _=>h b o f e) (λb o _ _ f e _=>⟨o.slots,h b o f e⟩)
  (λb o _ e n=>by rw[Af (p b o e)];exact n) (λb o f e=>⟨o,h b o f e⟩) (λb xs e=>by rw[Af (Au e fr)];exact e) (λb o xs e=>by rw[Af (Au e fr)];exact e)
  (λb ps e=>⟨#[],by rw[Af (Au e fr),e];simp⟩) (λm j=>?_) (λb u e=>?_) I.bare
 ·obtain⟨o,es,ep,w,r⟩:=j;exact⟨o,es,ep,k _ o (λz=>(g _ z).2.1 U) w,r⟩
 by_cases a:b=s.heap.objs.size
 ·subst a;rw[Ag]at e;cases e;exact new
 rw[Af a]at e
 refine(I.hok b u e).stay (λc v f q=>k c v ?_ q) (λc q=>by rw[Af (Au q fr)];exact q) λc xs q=>by rw[Af (Au q fr)];exact q
 rcases f with z | z
 ·rw[z];exact FpOk.not g e
 exact FpOk.not g z
end
def Same.new (h:H l=none):Same H (Y H l o):=λb u e=>by rw[Af (Au e h)];exact e
def Same.put (s:Same H H')(h:H l=none):Same H (Y H' l o):=λb u e=>by rw[Af (Au e h)];exact s b u e
def Same.rd (s:Same H H') (h:RdV H v d):RdV H' v d:=h.same λb xs e=>s b _ e
def Same.rds (s:Same H H') (h:RdVs H vs ds):RdVs H' vs ds:=h.same λb xs e=>s b _ e
structure Df (K:W.Frag)(mg:Str->Option Value)(x:Str)(st:Stmt)(ps:List Str)(f:Addr)(fd:FuncData):Prop where
 F:Fun K x x st f fd
 m:mg x=some (.ref f)
 b:Binds K fd ps []
def JF:Expr->Bool
 | .Constant (.str _) _ _=>true
 | _=>false
def IE:Expr->V
 | .Constant (.str x) _ _=>.str x
 | _=>.non
theorem U7 :∀{es:List Expr},es.all JF=true->PA X es (λ_ H Q=>Q (es.map IE) H)
 | [],_=>Ab
 | e::es,h=>by
  (rw[Ou,BV]at h);cases e with
  | Constant c j pos=>
   cases c with
   | str x=>exact Aa Aw (U7 (X:=X) h.2)
   | _=>exact absurd h.1 BO
  | _=>exact absurd h.1 BO
def Co {a:It} (c:Nat->List V->Hp->Prop)(h0:c 0 [] (Y H0 D (.lst [])))
  (u:∀i ys H,i<n->c i ys H->a.go i H)(f:∀ys H,c n ys H->a.stop n H)
  (w:∀i ys H x h,i<n->c i ys H->a.yld i H x h->tc (some x::ρ) h λb o=>if b=true then te (some x::ρ) o λy l=>∃g,l D=some (.lst g)/\g.length<sizeLine/\c (i+1) (g++[y]) (Y l D (.lst (g++[y])))else c (i+1) ys o)
  (s:∀ys H,c n ys H->fin H):∃W:Nat->Nat->List V->Hp->Prop,(∃m,W 0 m [] (Y H0 D (.lst [])))/\ID a D (none::ρ) (E4 0) tc te fin W:=by
 refine⟨λi m ys H=>m=n-i/\i<=n/\c i ys H,⟨n,U,Bn _,h0⟩,?_⟩
 rintro i m ys H ⟨rfl,z,p⟩
 by_cases d:i<n
 ·refine .inr ⟨u i ys H d p,c (i+1),λr H' q=>⟨n-(i+1),Ψ,U,d,q⟩,λx h y=>⟨⟨U,λj v e=>?_⟩,w i ys H x h d p y⟩⟩;cases j with
  | zero=>cases e
  | succ j=>exact e
 have e:i=n:=by lia
 subst e
 exact .inl ⟨f ys H p,s ys H p⟩
def Cn {a:St}{H:Hp}{A B:Hp->Prop}(h:A H):TK a H λb H3=>if b=true then A H3 else B H3:=by
 show if true=true then A H else B H
 rw[Ar rfl];exact h
def YR :(some x::some y::ρ:St).length=(none::none::ρ:St).length/\∀(i:Nat) v,(none::none::ρ:St)[i]? = some (some v)->(some x::some y::ρ:St)[i]? = some (some v):=
 ⟨U,λj v e=>by
  match j,e with
  | 0,e=>cases e
  | 1,e=>cases e
  | j+2,e=>exact e⟩
section
variable {X:Cx}
def LG (K:W.Frag)(h:X.K=K):Kq X (QK K):=by subst h;exact Bb
def E3 (K:W.Frag)(h:X.K=K):Kq X (QJ K):=by subst h;exact Bu
def rP (K:W.Frag)(h:X.K=K):Cs X (.type "tuple") (λxs H Q=>∃p ys,xs=[.ref p]/\((SqL K H p ys/\∀l,H l=none->Q (.ref l) (Y H l (.tup ys)))\/(SqT K H p ys/\Q (.ref p) H))):=by subst h;exact GM
def WZ {t:TA}(K:W.Frag)(h:X.K=K)(a:PE X e (MJ X.K T r to t)):PE X e (MJ K T r to t):=by subst h;exact a
def Ri {t:Kk}(K:W.Frag)(h:X.K=K)(a:PG X e (JG X.K n t)):PG X e (JG K n t):=by subst h;exact a
end
def FT:bootBuiltins "tuple" = some (.type "tuple"):=by decide +kernel
def LU:bootBuiltins "isinstance" = some (.builtin "isinstance"):=by decide +kernel
end L2
namespace Tx
open PySem L2 PyProof.Rows
open PySem.PyData (strOk)
def Cm (x y:Str):(x++y).length=x.length+y.length:=by (show(x.cps++y.cps).size=x.cps.size+y.cps.size);rw[Sb]
def eK (h:∀c∈x.cps.toList,c<0x110000):strOk x=true:=by unfold strOk;rw[Array.all_eq_true'];intro c a;exact AU (h c (by simpa using a))
def abc:Str := "abcdefghijklmnopqrstuvwxyz"
def RX:abc.length<=sizeLine:=by rw[AF];decide +kernel
theorem V0 (a:Array Nat):∀(k:Nat) (b:Array Nat),(List.foldl (λx y=>x++y) b (replicate k a)).toList=b.toList++(replicate k a.toList).flatten
 | 0,b=>by simp
 | k+1,b=>by rw[OQ,JX,V0 a k,OQ,Im,Array.toList_append,Di]
def thingB:Str := "thing "
def blank:Str := " "
def sJ:blank=⟨#[32]⟩:=by decide +kernel
end Tx
namespace Rk
open PySem
def cs (x:Str):List Nat:=x.cps.toList
def BN (x y:Str):cs (x++y)=cs x++cs y:=by show(x.cps++y.cps).toList=_;rw[Array.toList_append];rfl
def RI (h:cs x=cs y):x=y:=by
 cases x with | mk a=>
 cases y with | mk b=>
 have:a=b:=Ke.mp h;rw[this]
def Cq (x:Str):(cs x).length=x.length:=by exact DF
def rF (c:Nat):cs ⟨#[c]⟩=[c]:=rfl
def J:List (List Nat)->List Nat
 | []=>[]
 | [a]=>a
 | a::b::r=>a++32::J (b::r)
theorem WH:∀{a b u v:List Nat},32∉a->32∉b->a++32::u=b++32::v->a=b/\u=v
 | [],[],u,v,_,_,h=>⟨U,by simpa using h⟩
 | [],y::b,u,v,_,hb,h=>by simp[OD,Il,GS]at h;exact absurd (Az.mpr (.inl h.1)) hb
 | x::a,[],u,v,ha,_,h=>by simp[OD,Il,GS]at h;exact absurd (Az.mpr (.inl h.1.symm)) ha
 | x::a,y::b,u,v,ha,hb,h=>by simp[Il,GS]at h;obtain⟨c,d⟩:=WH (λz=>ha (AY _ z)) (λz=>hb (AY _ z)) h.2;exact⟨by rw[h.1,c],d⟩
theorem XB:∀{ps ws:List (List Nat)},ps≠[]->ws≠[]->(∀p∈ps,32∉p)->(∀w∈ws,32∉w)->J ps=J ws->ps=ws
 | [],_,h,_,_,_,_=>absurd U h
 | _::_,[],_,h,_,_,_=>absurd U h
 | [a],[b],_,_,_,_,e=>by rw[show a=b from e]
 | [a],b::c::r,_,_,ha,_,e=>by have f:a=b++32::J (c::r):=e;exact absurd (by rw[f];simp) (ha a (A9 ..))
 | a::c::r,[b],_,_,_,hb,e=>by have f:a++32::J (c::r)=b:=e;exact absurd (by rw[<- f];simp) (hb b (A9 ..))
 | a::c::r,b::d::t,_,_,ha,hb,e=>by have f:a++32::J (c::r)=b++32::J (d::t):=e;obtain⟨i,j⟩:=WH (ha a (A9 ..)) (hb b (A9 ..)) f;rw[i,XB (Ik _ _) (Ik _ _) (λp g=>ha p (AY _ g)) (λp g=>hb p (AY _ g)) j]
theorem XE:∀ps:List (List Nat),(J ps).count 32+1=(ps.map (List.count 32)).sum+(if ps=[]then 1 else ps.length)
 | []=>rfl
 | [a]=>by simp[J]
 | a::b::r=>by have c:=XE (b::r);rw[Ak (Ik _ _)]at c ⊢;show(a++32::J (b::r)).count 32+1=_;rw[List.count_append,List.count_cons_self,Bg,List.sum_cons];simp[Cy]at c ⊢;lia
theorem TZ:∀{l:List Nat},l.sum=0->∀x∈l,x=0
 | [],_,_,h=>nomatch h
 | a::r,h,x,hx=>by
  rw[List.sum_cons]at h;rcases(Az.mp hx)with e | e
  ·lia
  exact TZ Ψ x e
def fixedS:List Str:=["and", "or", "not", "while", "in", "on", "top", "held", "open", "shut", "locked", "bare", "free", "hand"]
structure Nv (x:Str):Prop where
 low:∀c∈cs x,97<=c/\c<=122
 pos:1<=x.length
 len:x.length<=8
 fix:x∉fixedS
def pU:∀w∈fixedS,∃c∈cs w,∃d∈cs w,c≠d:=by
 have h:fixedS.all (λw=>(cs w).any λc=>(cs w).any λd=>c != d)=true:=by decide +kernel
 intro w a;obtain⟨c,b,f⟩:=J1.mp (DB.mp h w a);obtain⟨d,e,g⟩:=J1.mp f;exact⟨c,b,d,e,by simpa using g⟩
def pT:∀w∈fixedS,("z" : Str)++w∉fixedS/\(("z" : Str)++w).length<=8:=by
 have h:fixedS.all (λw=>decide (("z" : Str)++w∉fixedS) && decide ((("z" : Str)++w).length<=8))=true:=by decide +kernel
 intro w b;have a:=DB.mp h w b;rw[BV]at a;exact⟨Bf a.1,Bf a.2⟩
def iH (e:cs x=replicate n c)(l:97<=c)(i:c<=122)(p:1<=n)(o:n<=8):Nv x:=by
 have q:x.length=n:=by rw[<- Cq,e,Fz]
 refine⟨λd g=>?_,Ψ,Ψ,λm=>?_⟩
 ·rw[e]at g;rw[(HZ.mp g).2];exact⟨l,i⟩
 obtain⟨a,h,b,f,j⟩:=pU x m;rw[e]at h f;exact j ((HZ.mp h).2.trans (HZ.mp f).2.symm)
def Gb (x:Str):Str:=if x∈fixedS then("z" : Str)++x else x
def XN (a:∀c∈cs x,97<=c/\c<=122)(d:1<=x.length)(f:x.length<=8):Nv (Gb x):=by
 unfold Gb;by_cases h:x∈fixedS
 ·rw[Ar h];have z:=pT x h;refine⟨λc b=>?_,?_,z.2,z.1⟩
  ·rw[BN]at b;rcases(BF.mp b)with q | q
   ·have:c=122:=by
     have e:cs ("z" : Str)=[122]:=by decide +kernel
     rw[e]at q;simpa using q
    lia
   exact a c q
  rw[<- Cq,BN,AG,Cq,Cq];lia
 rw[Ak h];exact⟨a,d,f,h⟩
def XO (d:x.length=y.length)(h:Gb x=Gb y):x=y:=by
 have c:∀z:Str,(("z" : Str)++z).length=z.length+1:=λz=>by
  have e:("z" : Str).length=1:=by decide +kernel
  rw[<- Cq,BN,AG,Cq,Cq,e];lia
 unfold Gb at h;by_cases b:x∈fixedS
 ·rw[Ar b]at h;by_cases a:y∈fixedS
  ·rw[Ar a]at h;have e:=BQ cs h;rw[BN,BN]at e;exact RI (List.append_cancel_left e)
  rw[Ak a]at h;have e:=BQ Str.length h;rw[c]at e;lia
 rw[Ak b]at h;by_cases a:y∈fixedS
 ·rw[Ar a]at h;have e:=BQ Str.length h;rw[c]at e;lia
 rw[Ak a]at h;exact h
def iI {d:Type}{l:List d}{x:d}(h:l.Nodup)(g:x∉l):(l++[x]).Nodup:=by rw[Cr];refine⟨h,Θ,λa c b f=>?_⟩;rw[AR.mp f];intro e;rw[e]at c;exact g c
def pX {p:Int}{i j:Nat}(b:i<26)(a:j<26)(h:(p+5*(i:Int)) % 26=(p+5*(j:Int)) % 26):i=j:=by lia
inductive Ro where
 | pl (n:Str)
 | bx (n:Str)
 | lk (n k:Str)
 | th (n s:Str)
 deriving DecidableEq
def Ro.name:Ro->Str
 | .pl n=>n
 | .bx n=>n
 | .lk n _=>n
 | .th n _=>n
def Ro.isP:Ro->Bool
 | .th _ _=>false
 | _=>true
def Ro.boxed:Ro->Bool
 | .bx _=>true
 | .lk _ _=>true
 | _=>false
def Ro.words:Ro->List Str
 | .pl n=>["place",n]
 | .bx n=>["box",n]
 | .lk n k=>["box",n,k]
 | .th n s=>["thing",n,s]
def Ro.txt:Ro->Str
 | .pl n=>("place " : Str)++n
 | .bx n=>("box " : Str)++n
 | .lk n k=>("box " : Str)++n++(" " : Str)++k
 | .th n s=>("thing " : Str)++n++(" " : Str)++s
def Ro.nv:Ro->Prop
 | .pl n=>Nv n
 | .bx n=>Nv n
 | .lk n k=>Nv n/\Nv k
 | .th n s=>Nv n/\Nv s
theorem Ro.nv_name:∀{r:Ro},r.nv->Nv r.name
 | .pl _,h=>h
 | .bx _,h=>h
 | .lk _ _,h=>h.1
 | .th _ _,h=>h.1
def Nv.noblank (h:Nv x):32∉cs x:=λz=>by have:=h.low 32 z;lia
theorem Ro.noblank:∀{r:Ro},r.nv->∀w∈r.words,32∉cs w
 | .pl n,h,w,hw=>by
  simp[Ro.words,Az,Bw,Bv]at hw;rcases hw with e | e
  ·rw[e];decide +kernel
  rw[e];exact Nv.noblank h
 | .bx n,h,w,hw=>by
  simp[Ro.words,Az,Bw,Bv]at hw;rcases hw with e | e
  ·rw[e];decide +kernel
  rw[e];exact Nv.noblank h
 | .lk n k,h,w,hw=>by
  simp[Ro.words,Az,Bw,Bv]at hw;rcases hw with e | e | e
  ·rw[e];decide +kernel
  ·rw[e];exact Nv.noblank h.1
  rw[e];exact Nv.noblank h.2
 | .th n k,h,w,hw=>by
  simp[Ro.words,Az,Bw,Bv]at hw;rcases hw with e | e | e
  ·rw[e];decide +kernel
  ·rw[e];exact Nv.noblank h.1
  rw[e];exact Nv.noblank h.2
theorem rE:∀r:Ro,cs r.txt=J (r.words.map cs)
 | .pl n=>by
  show cs (("place " : Str)++n)=cs ("place" : Str)++32::cs n;rw[BN];have e:cs ("place " : Str)=cs ("place" : Str)++[32]:=by decide +kernel
  rw[e];simp
 | .bx n=>by
  show cs (("box " : Str)++n)=cs ("box" : Str)++32::cs n;rw[BN];have e:cs ("box " : Str)=cs ("box" : Str)++[32]:=by decide +kernel
  rw[e];simp
 | .lk n k=>by
  show cs (("box " : Str)++n++(" " : Str)++k)=cs ("box" : Str)++32::(cs n++32::cs k);rw[BN,BN,BN];have e:cs ("box " : Str)=cs ("box" : Str)++[32]:=by decide +kernel
  have a:cs (" " : Str)=[32]:=by decide +kernel
  rw[e,a];simp
 | .th n k=>by
  show cs (("thing " : Str)++n++(" " : Str)++k)=cs ("thing" : Str)++32::(cs n++32::cs k);rw[BN,BN,BN];have e:cs ("thing " : Str)=cs ("thing" : Str)++[32]:=by decide +kernel
  have a:cs (" " : Str)=[32]:=by decide +kernel
  rw[e,a];simp
theorem Tq:∀r:Ro,r.isP=false↔∃z,cs r.txt=cs ("thing " : Str)++z
 | .pl n=>by
  constructor
  ·intro h;cases h
  rintro⟨z,h⟩;rw[show cs (Ro.pl n).txt=cs ("place " : Str)++cs n from BN _ _]at h;have a:cs ("place " : Str)=112::(cs ("place " : Str)).tail:=by decide +kernel
  have b:cs ("thing " : Str)=116::(cs ("thing " : Str)).tail:=by decide +kernel
  rw[a,b]at h;simp only[Il,GS]at h;exact absurd h.1 Ξ
 | .bx n=>by
  constructor
  ·intro h;cases h
  rintro⟨z,h⟩;rw[show cs (Ro.bx n).txt=cs ("box " : Str)++cs n from BN _ _]at h;have a:cs ("box " : Str)=98::(cs ("box " : Str)).tail:=by decide +kernel
  have b:cs ("thing " : Str)=116::(cs ("thing " : Str)).tail:=by decide +kernel
  rw[a,b]at h;simp only[Il,GS]at h;exact absurd h.1 Ξ
 | .lk n k=>by
  constructor
  ·intro h;cases h
  rintro⟨z,h⟩;rw[show cs (Ro.lk n k).txt=cs ("box " : Str)++cs n++cs (" " : Str)++cs k from by show cs (("box " : Str)++n++(" " : Str)++k)=_;rw[BN,BN,BN]]at h;have a:cs ("box " : Str)=98::(cs ("box " : Str)).tail:=by decide +kernel
  have b:cs ("thing " : Str)=116::(cs ("thing " : Str)).tail:=by decide +kernel
  rw[a,b]at h;simp only[Il,GS]at h;exact absurd h.1 Ξ
 | .th n k=>by refine⟨λ_=>⟨cs n++cs (" " : Str)++cs k,?_⟩,λ_=>U⟩;show cs (("thing " : Str)++n++(" " : Str)++k)=_;rw[BN,BN,BN];simp
def Tr {r:Ro}(h:r.nv):r.txt.length<=23:=by
 have d:("place " : Str).length=6:=by decide +kernel
 have a:("box " : Str).length=4:=by decide +kernel
 have c:("thing " : Str).length=6:=by decide +kernel
 have b:(" " : Str).length=1:=by decide +kernel
 cases r with
 | pl n =>have:=Nv.len h;rw[<- Cq,show(Ro.pl n).txt=("place " : Str)++n from U,BN,AG,Cq,Cq];lia
 | bx n=>have:=Nv.len h;rw[<- Cq,show(Ro.bx n).txt=("box " : Str)++n from U,BN,AG,Cq,Cq];lia
 | lk n k=>have:=Nv.len h.1;have:=Nv.len h.2;rw[<- Cq,show(Ro.lk n k).txt=("box " : Str)++n++(" " : Str)++k from U,BN,BN,BN,AG,AG,AG,Cq,Cq,Cq,Cq];lia
 | th n k=>have:=Nv.len h.1;have:=Nv.len h.2;rw[<- Cq,show(Ro.th n k).txt=("thing " : Str)++n++(" " : Str)++k from U,BN,BN,BN,AG,AG,AG,Cq,Cq,Cq,Cq];lia
def plc:List Ro->List (Str×Bool×Option Str)
 | []=>[]
 | .pl n::r=>(n,false,none)::plc r
 | .bx n::r=>(n,true,none)::plc r
 | .lk n k::r=>(n,true,some k)::plc r
 | .th _ _::r=>plc r
def ths:List Ro->List (Str×Str)
 | []=>[]
 | .th n s::r=>(n,s)::ths r
 | _::r=>ths r
theorem Fh:∀a b:List Ro,plc (a++b)=plc a++plc b
 | [],_=>rfl
 | .pl n::r,b=>by simp[plc,Fh r b]
 | .bx n::r,b=>by simp[plc,Fh r b]
 | .lk n k::r,b=>by simp[plc,Fh r b]
 | .th n s::r,b=>by simp[plc,Fh r b]
theorem Et:∀a b:List Ro,ths (a++b)=ths a++ths b
 | [],_=>rfl
 | .pl n::r,b=>by simp[ths,Et r b]
 | .bx n::r,b=>by simp[ths,Et r b]
 | .lk n k::r,b=>by simp[ths,Et r b]
 | .th n s::r,b=>by simp[ths,Et r b]
theorem Fl:∀rs:List Ro,(rs.map Ro.name).Perm ((plc rs).map (·.1)++(ths rs).map (·.1))
 | []=>.nil
 | .pl n::r=>.cons _ (Fl r)
 | .bx n::r=>.cons _ (Fl r)
 | .lk n k::r=>.cons _ (Fl r)
 | .th n s::r=>(Oz n (Fl r)).trans Ma.symm
def EF (h:n∈(plc rs).map (·.1)):n∈rs.map Ro.name:=(Fl rs).mem_iff.mpr (Hc _ h)
def Vj (h:n∈(ths rs).map (·.1)):n∈rs.map Ro.name:=(Fl rs).mem_iff.mpr (En _ h)
structure Good (rs:List Ro):Prop where
 nv:∀r∈rs,r.nv
 nd:(rs.map Ro.name).Nodup
 first:∃n t,plc rs=(n,false,none)::t
 fewP:(plc rs).length<=6
 fewT:(ths rs).length<=6
 keys:∀p∈plc rs,∀k,p.2.2=some k->k∈(ths rs).map (·.1)
def Good.floor (g:Good rs) (e:rs=a++r::b)(h:r.boxed=true):plc a≠[]:=λz=>by
 obtain⟨n,t,f⟩:=g.first;rw[e,Fh,z,OD]at f;cases r with
 | pl n=>cases h
 | th n s=>cases h
 | bx n=>simp[plc]at f
 | lk n k=>simp[plc]at f
def Good.ndP (g:Good rs):((plc rs).map (·.1)).Nodup:=((Cr.mp ((Fl rs).nodup_iff.mp g.nd))).1
def Good.ndT (g:Good rs):((ths rs).map (·.1)).Nodup:=((Cr.mp ((Fl rs).nodup_iff.mp g.nd))).2.1
def bG (rs:List Ro)(i:Nat)(n s:Str):plc (rs.take i++.th n s::rs.drop i)=plc rs:=by rw[Fh];show plc (rs.take i)++plc (rs.drop i)=_;rw[<- Fh,EO]
def Yi (rs:List Ro)(i:Nat)(n s:Str):(ths (rs.take i++.th n s::rs.drop i)).Perm ((n,s)::ths rs):=by rw[Et];refine Ma.trans (.cons _ ?_);rw[<- Et,EO]
end Rk
namespace Rk
open PySem PyProof.Rows L2 Tx
theorem WJ (c:Nat):∀l:List Nat,cnt c l=(l.count c:Int)
 | []=>by rw[cnt_nil];rfl
 | n::r=>by
  rw[cnt_cons,WJ c r,List.count_cons];by_cases h:n=c
  ·simp[h];lia
  simp[h]
def rH:cs blank=[32]:=by decide +kernel
theorem RH:∀ps:List Str,cs (Str.join blank ps)=J (ps.map cs)
 | []=>rfl
 | [a]=>rfl
 | a::b::r=>by show cs (a++blank++Str.join blank (b::r))=cs a++32::J (cs b::r.map cs);rw[BN,BN,RH (b::r),rH];simp
theorem Vl:∀{xs ys:List Str},xs.map cs=ys.map cs->xs=ys
 | [],[],_=>rfl
 | [],_::_,h=>by simp at h
 | _::_,[],h=>by simp at h
 | x::xs,y::ys,h=>by (simp[Bg,GS]at h);rw[RI h.1,Vl h.2]
def T6 (h0:ws≠[])(i:cs x=J (ws.map cs))(e:∀w∈ws,32∉cs w):Txt.split x blank=ws:=by
 have j:=StrLaws.join_split x blank;have b:=split_len x 32;rw[<- sJ,WJ]at b;have c:J ((Txt.split x blank).map cs)=cs x:=by rw[<- RH,j]
 have h:=XE ((Txt.split x blank).map cs);have d:Txt.split x blank≠[]:=λz=>by rw[z]at b;simp at b;lia
 rw[Ak (by simpa using d),c,Ai]at h;have l:(cs x).count 32=x.cps.toList.count 32:=rfl;have m:(((Txt.split x blank).map cs).map (List.count 32)).sum=0:=by lia
 have a:∀p∈(Txt.split x blank).map cs,32∉p:=λp a=>by have:=TZ m (p.count 32) (CQ a);exact List.count_eq_zero.mp this
 refine Vl (XB (by simpa using d) (by simpa using h0) a (λw g=>?_) (c.trans i));obtain⟨v,f,rfl⟩:=Ba.mp g;exact e v f
def XU (r:Ro):r.words≠[]:=by cases r <;> exact Ik _ _
def T7 {r:Ro}(h:r.nv):Txt.split r.txt blank=r.words:=T6 (XU r) (rE r) (Ro.noblank h)
def T5 (x:Str):Txt.startswith x thingB=true↔∃z,cs x=cs thingB++z:=by
 have c:thingB.length=6:=by decide +kernel
 have a:(cs thingB).length=6:=by decide +kernel
 unfold Txt.startswith Builtin.Str.subAt;rw[BV];constructor
 ·rintro⟨f,d⟩;have e:x.cps.extract 0 (0+thingB.length)=thingB.cps:=by simpa using d
  refine⟨(cs x).drop 6,?_⟩;have b:(x.cps.extract 0 (0+thingB.length)).toList=(cs x).take 6:=by rw[Array.toList_extract,c];simp[cs]
  rw[e]at b;show cs x=thingB.cps.toList++(cs x).drop 6;rw[b,EO]
 rintro⟨z,h⟩;have g:x.length=6+z.length:=by rw[<- Cq,h,AG,a]
 refine⟨AU Ψ,?_⟩;have e:x.cps.extract 0 (0+thingB.length)=thingB.cps:=by apply Ke.mp;rw[Array.toList_extract,c];show(List.drop 0 (cs x)).take (0+6-0)=cs thingB;rw[h,L5];exact List.take_left' a
 simpa using e
def YX (r:Ro):Txt.startswith r.txt thingB=!r.isP:=by
 cases hp:r.isP with
 | false=>rw[(T5 r.txt).mpr ((Tq r).mp hp)];rfl
 | true=>
  cases hs:Txt.startswith r.txt thingB with
  | false=>rfl
  | true=>have:=(Tq r).mpr ((T5 r.txt).mp hs);rw[hp]at this;cases this
def Nv.ok (h:Nv x):PySem.PyData.strOk x=true:=eK λc a=>by have:=h.low c a;lia
def Nv.ascii (h:Nv x):x.cps.all (· < 128)=true:=by rw[Array.all_eq_true'];intro c a;have:=h.low c (by simpa [cs] using a);(exact AU Ψ)
def tI:∀n:Nat,n<26->abc.cps.toList[n]? = some (97+n):=by decide +kernel
def Xe (h0:0<=i)(a:i<26):atI abc.cps.toList i=some (97+i.toNat):=by have q:=AB (tI i.toNat Ψ);rw[Dr h0]at q;exact q
def nM (b:97<=c)(a:c<=122):(!(Builtin.Str.occurrences abc ⟨#[c]⟩ 0 abc.length 1).isEmpty)=true:=by
 have h:∀n:Nat,n<26->(!(Builtin.Str.occurrences abc ⟨#[97+n]⟩ 0 abc.length 1).isEmpty)=true:=by decide +kernel
 have:=h (c-97) Ψ;rw[show 97+(c-97)=c by lia]at this;exact this
theorem HW (x:Str):∀ys:List Str,Fq (.str x) (ys.map V.str)=decide (x∈ys)
 | []=>rfl
 | y::ys=>by
  show(E5 (.str y) (.str x) || Fq (.str x) (ys.map V.str))=_;rw[HW x ys];by_cases h:y=x
  ·subst h;simp[E5]
  have h':¬x=y:=λe=>h e.symm;simp[E5,h,h']
theorem flat_strs:∀ys:List Str,(ys.map V.str).all Ft=true
 | []=>rfl
 | _::ys=>by rw[Bg,Ou,flat_strs ys];rfl
def BU:List Ro->List (Key×V)
 | []=>[]
 | .bx n::r=>(Sum.inr n,.bl true)::BU r
 | .lk n _::r=>(Sum.inr n,.bl true)::BU r
 | _::r=>BU r
def BZ:List Ro->List (Key×V)
 | []=>[]
 | .lk n k::r=>(Sum.inr n,.str k)::BZ r
 | _::r=>BZ r
def shK (rs:List Ro):List (Key×V):=(ths rs).map λx=>(Sum.inr x.1,.str x.2)
theorem HP:∀a b:List Ro,BU (a++b)=BU a++BU b
 | [],_=>rfl
 | .pl n::r,b=>by simp[BU,HP r b]
 | .bx n::r,b=>by simp[BU,HP r b]
 | .lk n k::r,b=>by simp[BU,HP r b]
 | .th n s::r,b=>by simp[BU,HP r b]
theorem HS:∀a b:List Ro,BZ (a++b)=BZ a++BZ b
 | [],_=>rfl
 | .pl n::r,b=>by simp[BZ,HS r b]
 | .bx n::r,b=>by simp[BZ,HS r b]
 | .lk n k::r,b=>by simp[BZ,HS r b]
 | .th n s::r,b=>by simp[BZ,HS r b]
theorem LB:∀rs:List Ro,(BU rs).length<=rs.length
 | []=>An _
 | .pl n::r=>by have:=LB r;simp[BU];lia
 | .bx n::r=>by have:=LB r;simp[BU];lia
 | .lk n k::r=>by have:=LB r;simp[BU];lia
 | .th n s::r=>by have:=LB r;simp[BU];lia
theorem LD:∀rs:List Ro,(BZ rs).length<=rs.length
 | []=>An _
 | .pl n::r=>by have:=LD r;simp[BZ];lia
 | .bx n::r=>by have:=LD r;simp[BZ];lia
 | .lk n k::r=>by have:=LD r;simp[BZ];lia
 | .th n s::r=>by have:=LD r;simp[BZ];lia
theorem Jz :∀{rs:List Ro},x∉rs.map Ro.name->Ax (BU rs) (Sum.inr x:Key)=none
 | [],_=>rfl
 | .pl n::r,h=>Jz (rs:=r) λz=>h (AY _ z)
 | .th n s::r,h=>Jz (rs:=r) λz=>h (AY _ z)
 | .bx n::r,h=>by show Ax ((Sum.inr n,.bl true)::BU r) _=none;rw[Bp (λe=>h (by rw[C0 e];exact A9))];exact Jz (rs:=r) λz=>h (AY _ z)
 | .lk n k::r,h=>by show Ax ((Sum.inr n,.bl true)::BU r) _=none;rw[Bp (λe=>h (by rw[C0 e];exact A9))];exact Jz (rs:=r) λz=>h (AY _ z)
theorem HR :∀{rs:List Ro},x∉rs.map Ro.name->Ax (BZ rs) (Sum.inr x:Key)=none
 | [],_=>rfl
 | .pl n::r,h=>HR (rs:=r) λz=>h (AY _ z)
 | .th n s::r,h=>HR (rs:=r) λz=>h (AY _ z)
 | .bx n::r,h=>HR (rs:=r) λz=>h (AY _ z)
 | .lk n k::r,h=>by show Ax ((Sum.inr n,.str k)::BZ r) _=none;rw[Bp (λe=>h (by rw[C0 e];exact A9))];exact HR (rs:=r) λz=>h (AY _ z)
def lT (rs:List Ro)(i:Nat)(n s:Str):BU (rs.take i++.th n s::rs.drop i)=BU rs:=by rw[HP];show BU (rs.take i)++BU (rs.drop i)=_;rw[<- HP,EO]
def mM (rs:List Ro)(i:Nat)(n s:Str):BZ (rs.take i++.th n s::rs.drop i)=BZ rs:=by rw[HS];show BZ (rs.take i)++BZ (rs.drop i)=_;rw[<- HS,EO]
end Rk
namespace Rk
open PySem PySem.Spec PyProof.Rows L2 Tx
def Pu (h0:ws≠[])(a:∀w∈ws,32∉cs w):Txt.split (Txt.join blank ws) blank=ws:=by refine T6 h0 ?_ a;rw[<- RH];exact BQ cs (StrLaws.glued_eq_join blank ws)
def Lo (p:Str×Bool×Option Str)(l:Str):Prop:=l = "open" \/ (l = "shut" /\ p.2.1=true)\/(l = "locked" /\ p.2.2.isSome=true)
theorem LA:∀{rs:List Ro}{p:Str×Bool×Option Str},(rs.map Ro.name).Nodup->p∈plc rs->(Ax (BU rs) (Sum.inr p.1:Key)).isSome=true->p.2.1=true
 | [],_,_,h,_=>nomatch h
 | .th n s::r,p,nd,h,e=>LA (rs:=r) (B6.mp nd).2 h e
 | .pl n::r,p,nd,h,e=>by
  rcases Az.mp (show p∈(n,false,none)::plc r from h)with z | z
  ·have c:n∉r.map Ro.name:=(B6.mp nd).1;have a:(Ax (BU r) (Sum.inr p.1:Key)).isSome=true:=e;rw[z,Jz c]at a;cases a
  exact LA (rs:=r) (B6.mp nd).2 z e
 | .bx n::r,p,nd,h,e=>by
  rcases Az.mp (show p∈(n,true,none)::plc r from h)with z | z
  ·rw[z]
  have b:n≠p.1:=λq=>(B6.mp nd).1 (by rw[show Ro.name (.bx n)=n from U,q];exact EF (CQ z));have a:(Ax ((Sum.inr n,V.bl true)::BU r) (Sum.inr p.1:Key)).isSome=true:=e;rw[Bp (λq=>b (C0 q))]at a;exact LA (rs:=r) (B6.mp nd).2 z a
 | .lk n k::r,p,nd,h,e=>by
  rcases Az.mp (show p∈(n,true,some k)::plc r from h)with z | z
  ·rw[z]
  have b:n≠p.1:=λq=>(B6.mp nd).1 (by rw[show Ro.name (.lk n k)=n from U,q];exact EF (CQ z));have a:(Ax ((Sum.inr n,V.bl true)::BU r) (Sum.inr p.1:Key)).isSome=true:=e;rw[Bp (λq=>b (C0 q))]at a;exact LA (rs:=r) (B6.mp nd).2 z a
theorem LC:∀{rs:List Ro}{p:Str×Bool×Option Str},(rs.map Ro.name).Nodup->p∈plc rs->(Ax (BZ rs) (Sum.inr p.1:Key)).isSome=true->p.2.2.isSome=true
 | [],_,_,h,_=>nomatch h
 | .th n s::r,p,nd,h,e=>LC (rs:=r) (B6.mp nd).2 h e
 | .pl n::r,p,nd,h,e=>by
  rcases Az.mp (show p∈(n,false,none)::plc r from h)with z | z
  ·have b:n∉r.map Ro.name:=(B6.mp nd).1;have a:(Ax (BZ r) (Sum.inr p.1:Key)).isSome=true:=e;rw[z,HR b]at a;cases a
  exact LC (rs:=r) (B6.mp nd).2 z e
 | .bx n::r,p,nd,h,e=>by
  rcases Az.mp (show p∈(n,true,none)::plc r from h)with z | z
  ·have b:n∉r.map Ro.name:=(B6.mp nd).1;have a:(Ax (BZ r) (Sum.inr p.1:Key)).isSome=true:=e;rw[z,HR b]at a;cases a
  exact LC (rs:=r) (B6.mp nd).2 z e
 | .lk n k::r,p,nd,h,e=>by
  rcases Az.mp (show p∈(n,true,some k)::plc r from h)with z | z
  ·rw[z];rfl
  have c:n≠p.1:=λq=>(B6.mp nd).1 (by rw[show Ro.name (.lk n k)=n from U,q];exact EF (CQ z));have a:(Ax ((Sum.inr n,V.str k)::BZ r) (Sum.inr p.1:Key)).isSome=true:=e;rw[Bp (λq=>c (C0 q))]at a;exact LC (rs:=r) (B6.mp nd).2 z a
def Al (rs:List Ro)(x l:Str):Prop:=l = "open" \/ (l = "shut" /\ (Ax (BU rs) (Sum.inr x:Key)).isSome=true)\/(l = "locked" /\ (Ax (BZ rs) (Sum.inr x:Key)).isSome=true)
def Al.lo (g:Good rs) (h:p∈plc rs)(a:Al rs p.1 l):Lo p l:=by
 rcases a with a | ⟨a,b⟩ | ⟨a,b⟩
 ·exact .inl a
 ·exact .inr (.inl ⟨a,LA g.nd h b⟩)
 exact .inr (.inr ⟨a,LC g.nd h b⟩)
theorem Uh {c:Type}{a b:List c}{x:c}:∀{xss:List (List c)}{j:Nat},xss[j]? = some (a++b)->((xss.set j (a++x::b)).flatten).Perm (x::xss.flatten)
 | [],_,h=>by simp at h
 | y::r,0,h=>by
  have e:y=a++b:=by simpa using h
  subst e;rw[List.set_cons_zero,Im,Im];have:(a++x::b++r.flatten)=a++x::(b++r.flatten):=by simp
  rw[this,Di];exact Ma
 | y::r,j+1,h=>by rw[List.set_cons_succ,Im,Im];exact(JQ y (Uh (a:=a) (b:=b) (x:=x) (xss:=r) (j:=j) (by simpa using h))).trans Ma
theorem Rb {a:Type}:∀{xss:List (List a)}{h:List a},h∈xss->h.length<=xss.flatten.length
 | y::r,h,hm=>by
  rw[Im,AG];rcases(Az.mp hm)with e | e
  ·rw[e];lia
  have:=Rb e;lia
end Rk
namespace SK
open PySem PyProof.Rows
def dd {κ:Type}[DecidableEq κ](val:Nat->κ):Nat->List κ
 | 0=>[]
 | i+1=>if val i∈dd val i then dd val i else dd val i++[val i]
section
variable {κ:Type} [DecidableEq κ] {val:Nat->κ}
theorem dd_le:∀i:Nat,(dd val i).length<=i
 | 0=>An _
 | i+1=>by
  have a:=dd_le i;show(if val i∈dd val i then dd val i else dd val i++[val i]).length<=i+1;split
  ·lia
  rw[AG];show(dd val i).length+1<=i+1;lia
theorem RD:∀{i:Nat}{x:κ},x∈dd val i->∃j,j<i/\x=val j
 | 0,_,h=>nomatch h
 | i+1,x,h=>by
  have h':x∈(if val i∈dd val i then dd val i else dd val i++[val i]):=h;split at h'
  ·obtain⟨j,a,e⟩:=RD h';exact⟨j,Ψ,e⟩
  rcases BF.mp h' with z | z
  ·obtain⟨j,a,e⟩:=RD z;exact⟨j,Ψ,e⟩
  exact⟨i,Ψ,AR.mp z⟩
theorem dd_full (inj:∀i j,i<n->j<n->val i=val j->i=j):∀i:Nat,i<=n->(dd val i).length=i
 | 0,_=>rfl
 | i+1,h=>by
  show(if val i∈dd val i then dd val i else dd val i++[val i]).length=i+1;rw[Ak,AG,(dd_full inj i Ψ)]
  ·rfl
  intro z;obtain⟨j,a,e⟩:=RD z;have:=inj i j Ψ Ψ e;lia
def dd_step (i:Nat)(x:κ):decide (x∈dd val (i+1))=(decide (x∈dd val i) || decide (x=val i)):=by
 show decide (x∈(if val i∈dd val i then dd val i else dd val i++[val i]))=_;by_cases h:val i∈dd val i
 ·rw[Ar h];by_cases e:x=val i
  ·subst e;simp[h]
  simp[e]
 rw[Ak h];simp[BF]
def dd_size (i:Nat):(dd val (i+1)).length=if decide (val i∈dd val i)=true then(dd val i).length else(dd val i).length+1:=by
 show(if val i∈dd val i then dd val i else dd val i++[val i]).length=_;by_cases h:val i∈dd val i
 ·rw[Ar h,Ar (AU h)]
 rw[Ak h,Ak (by simpa using h),AG];rfl
end
section
variable {prog:Program}{w:World}{κ:Type} [DecidableEq κ] {knd:KeyKind prog w κ}{A:Around}{R:Result->Shared->Prop}{I:Addr}{fp wr:List Addr}{G:Array GenState->Array GenState->Prop}{n:Nat}{P:Nat->Value->Prop}{St:Nat->Shared->Prop}
def kept {S:Addr}{h h':Heap}{f:κ->Bool}{m:Nat}(q:h.SetOf knd S f m)(e:∀o,h.get? S=some o->h'.get? S=some o):h'.SetOf knd S f m:=by obtain⟨o,es,ep,t,a,r⟩:=q;exact⟨o,es,ep,t,e o a,r⟩
def Of {S:Addr}{h:Heap}{f g:κ->Bool}{m k:Nat}(q:h.SetOf knd S f m)(e:∀x,f x=g x)(a:m=k):h.SetOf knd S g k:=by have:=funext e;subst this a;exact q
def Rm (W:WalksS prog w A.in1 I fp wr G n P St)(S:Addr)(D:S∉fp)(val:Nat->κ)(K:∀i v,P i v->knd.is (val i) v=true/\v.scannable=true)(j:n+1<scanBound) :
  ∀(k i:Nat) (s:Shared),n-i=k->i<=n->St i s->s.heap.SetOf knd S (λx=>decide (x∈dd val i)) (dd val i).length ->
   (∀s',Moved (S::wr) G s s'->s'.heap.SetOf knd S (λx=>decide (x∈dd val n)) (dd val n).length->R (.ok (.ret .none)) s') ->
   (codeAny (model prog w) A (.builtin "set.update.loop" ⟨[.ref S,.ref I],[]⟩) R s):=by
 have C:S∉wr:=λh=>D (W.sub _ h)
 have sub:∀b∈wr,b∈S::wr:=λb z=>AY _ z
 intro k
 induction k with
 | zero=>
  intro i s L E st l fin;obtain rfl:i=n:=by lia
  refine EM On ?_;rw[FY JT _];refine Ac (m:=pyNext (.ref I)) (W.done s _ _ st λa d=>?_);exact Aj (fin a (d.mono sub) (kept l λo e=>d.heap S o C e))
 | succ k ih=>
  intro i s L E st l fin;have lt:i<n:=by lia
  refine EM On ?_;rw[FY JT _];refine Ac (m:=pyNext (.ref I)) (W.item i s _ _ lt st λv a H y d=>?_);obtain⟨c,sc⟩:=K i v H;refine Ac (m:=holding [v] (setAdd S v)) (Dj ?_);unfold setAdd;refine Dj (Ac (knd.pyHash (k:=val i) c ?_));have f:(dd val i).length+1<scanBound:=by have:=dd_le (val:=val) i;lia
  refine wpAny_setAddHashed_of (knd:=knd) (s:={ a with toks:=a.toks+1 }) c sc (kept l λo e=>d.heap S o C e) f λr F u=>?_;have B:r.SetOf knd S (λx=>decide (x∈dd val (i+1))) (dd val (i+1)).length:=Of u (λx=>(dd_step i x).symm) (dd_size i).symm;have g:∀b o,b≠S->a.heap.get? b=some o->r.get? b=some o:=λb o z e=>(F.2 b z).trans e;refine Aj ⟨G7 JT _,ih (i+1) _ Ψ lt (W.frame _ a r (a.toks+1) y (Fb _) λb j o e=>g b o (λz=>D (z ▸ j)) e) B λs2 p q=>?_⟩;refine fin s2 (Moved.trans W.gtrans ((d.mono sub).then_heap (Fb _) λb o j e=>g b o (λz=>j (z ▸ A9)) e) p) q
end
section
variable {prog:Program}{w:World}{κ:Type} [DecidableEq κ] {knd:KeyKind prog w κ}{A:Around}{E:Value->Shared->Prop}{s:Shared}
abbrev CY (led:Bool):Obj:={ cls:=.type "set",dict:=none,data:=.set #[] 0 (.fresh 0 0 led) }
set_option maxHeartbeats 3300000 in
def make {val:Nat->κ} (W:A.handled=none)(hl:s.heap.IsList l items)(hv:∀i v,items[i]? = some v->knd.is (val i) v=true/\v.scannable=true)(T:items.size+1<scanBound)
  (q:∀(h':Heap) (tk:Nat),h'.SetOf knd s.heap.objs.size (λx=>decide (x∈dd val items.size)) (dd val items.size).length->(∀b o,s.heap.get? b=some o->h'.get? b=some o)->Q (.ref s.heap.objs.size) { s with heap:=h',toks:=tk }) :
  (wpAny (model prog w) A (call (.type "set") [.ref l]) Q E s):=by
 obtain⟨c,tl,N⟩:=DE.mro
 have z:=DE.made
 have I:=DE.sub
 refine JY (codeAny_of_tree (show wpAny _ _ (callAny (.type "set") _) _ _ _ from ?_))
 refine Aj ⟨Sj _ Δ,EM PySem.F.entry_type_call ?_⟩
 (rw[Around.under_plain (weight_type_call_type "set" [.ref l] []) rfl])
 have h1:=DE.notType
 have h2:=DE.canCreate
 have a3:=PySem.F.typeCall_set_1 (.ref l)
 (repeat (any_goals (first | assumption | wp_step)))
 refine F5 (code_set_new_1 (.ref l) (E:=E) (Q₁:=λH M=>∃a:Bool,H=.ref s.heap.objs.size/\M={ s with heap:=s.heap.push { cls:=.type "set",dict:=none,data:=.set #[] 0 (.fresh 0 0 a) } }) λa=>⟨a,U,U⟩) λr M G=>?_
 cases r with
 | error e=>exact G
 | ok fl=>
  cases fl with
  | ret H=>
   obtain⟨a,rfl,rfl⟩:=G;have K:(s.heap.push (CY a)).get? s.heap.objs.size=some (CY a):=Bs _ U;have X:Shared.TypeIs { s with heap:=s.heap.push (CY a) } (.ref s.heap.objs.size) "set" := ⟨_,K,U⟩;have a0:=DE.init.lookup;have a4:=DE.init.bind (.ref s.heap.objs.size);(repeat (any_goals (first | assumption | wp_step)));refine F5 (OS (R:=wants (λr s2=>r=.none/\∃h' tk,s2={ s with heap:=h',toks:=tk }/\h'.SetOf knd s.heap.objs.size (λx=>decide (x∈dd val items.size)) (dd val items.size).length /\ (∀b o,s.heap.get? b=some o->h'.get? b=some o)) E) DE.init.plain PySem.F.entry_set_init (check_set_init_1 X ?_)) λr2 s2 f=>?_
   ·obtain⟨⟨S,h,C,d⟩,n,u,P,j⟩:=hl;simp only at u j;subst u j;have p:(s.heap.push (CY a)).get? l=some { cls:=.type "list",dict:=h,data:=.seq items P,slots:=d }:=AV _ n;have x1:=PySem.F.sub_list_set;have x2:=Xp;have x3:(Value.type "list" == Value.type "dict")=false:=by decide
    have m:(s.heap.push (CY a)).IsList l items:=⟨_,p,U,P,U⟩;(unfold Builtin.«set.__init__» noKeywords Builtin.Frozenset.updateFrom);generalize hPI:pyIter=PI;wp_walk;subst hPI;(refine Me m ?_);(refine Ac (wpAny_runValue ?_));have lt:l<s.heap.objs.size:=A0 n;have sz:(s.heap.push (CY a)).objs.size=s.heap.objs.size+1:=G9 ..;(have F:A.in1.in1.in1.handled=none:=by simp[W]);have B:l≠(s.heap.push (CY a)).objs.size:=by rw[sz];exact Bk (G6 lt)
    have nS:s.heap.objs.size∉[(s.heap.push (CY a)).objs.size,l]:=by rw[sz];simp only[Az,Bw,Bv,not_or];exact⟨Bk (G5 _),Fc lt⟩
    refine Rm (knd:=knd) ((Walks.list F _ l B items).toS) s.heap.objs.size nS val hv T (items.size-0) 0 _ Ψ (Bn _) ⟨⟨_,Bs _ U,U,U⟩,m.push _⟩ ?_ λs3 hm q3=>?_
    ·have g:=AV ({ cls:=.type "list_iterator",data:=.fields #[.ref l,.int 0 0] }:Obj) K;exact Of ((PyProof.Rows.setObjOf_fresh (knd:=knd) a).setOf g (by unfold scanBound;lia)) (λx=>by simp[dd]) U
    obtain⟨h3,g3,d3,D,y⟩:=s3;obtain⟨m1,m2,m3,m4,m5⟩:=hm;have eg:g3=s.gens:=m2;have ed:d3=s.drawn:=m3;have es:y=s.os:=m4;subst eg ed es;refine Aj (Aj ⟨U,h3,D,U,q3,λb o e=>m1 b o ?_ (AV _ (AV _ e))⟩);have L:b<s.heap.objs.size:=A0 e;rw[sz];simp only[Az,Bw,Bv,not_or];exact⟨Bk L,Bk (G6 L)⟩
   cases r2 with
   | error e=>exact f
   | ok fl2=>
    cases fl2 with
    | ret r=>obtain⟨rfl,h',tk,rfl,a1,a2⟩:=f;(repeat (any_goals (first | assumption | wp_step)));exact q _ _ a1 a2
    | _=>exact f.elim
  | _=>exact G.elim
end
end SK
namespace L2
open PySem PySem.Spec PyProof.Rows
theorem Pg:∀{xs:List V}{us:List Value},xs.length=us.length->(∀(i:Nat) x u,xs[i]? = some x->us[i]? = some u->RelV x u)->Vals xs us
 | [],[],_,_=>.nil
 | [],_::_,h,_=>by(simp at h)
 | _::_,[],h,_=>by(simp at h)
 | x::xs,u::us,h,r=>.cons (r 0 x u U U) (Pg (by simpa using h) λi y v b a=>r (i+1) y v (by simpa using b) (by simpa using a))
theorem KV.get:∀{kvs:List (Key×V)}{vs:List (Key×Value)}{i:Nat}{k:Key}{u:Value},KV kvs vs->vs[i]? = some (k,u)->∃v,kvs[i]? = some (k,v)/\RelV v u
 | _,_,_,_,_,.nil,e=>by simp at e
 | _,_,0,_,_,.cons (a:=p) r _,e=>by simp at e;subst e;obtain⟨c,d⟩:=r;obtain⟨h,b⟩:=p;cases c;exact⟨b,U,d⟩
 | _,_,i+1,_,_,.cons _ t,e=>by obtain⟨v,f,g⟩:=KV.get t (by simpa using e);exact⟨v,by simpa using f,g⟩
section
variable {X:Cx}
def rX (R:X.calm=true):Cs X (.type "list") (λxs H Q=>∃p kvs,xs=[.ref p]/\Rd H p (.dK kvs)/\∀l,H l=none->Q (.ref l) (Y H l (.lst (kvs.map λg=>kV g.1)))):=by
 intro n s T H xs us Q I r h;obtain⟨p,kvs,rfl,N,q⟩:=h;obtain⟨u,rfl,L⟩:=CM r;cases L;obtain⟨P,D,vs,e,C⟩:=Fu I.hok N;obtain⟨ep,f⟩:=C.dictAt;have S:=e.length;refine PySem.W.kdl_call (PySem.W.kdl_dict (knd:=BE X.prog X.w) (kvs:=vs) (ep:=ep) D) (I.ok.hd R) f Ψ λh' tk d c M A b=>?_;refine⟨.ref _,_,I.laid (a:=s.heap.objs.size) (o:=.lst (kvs.map λg=>kV g.1)) M (An _) ⟨by rw[Ai];exact P,d.toList,c,Pg ?_ λi x u w G=>?_,A⟩,U,q _ (I.hok.fresh (An _))⟩
 ·have F:d.toList.length=d.size:=by simp
  rw[Ai,F,b.1,S]
 obtain⟨k,z,K,E⟩:=b.2 i u (by simpa using G);obtain⟨v,B,_⟩:=KV.get e K;rw[AQ,B]at w;have m:x=kV k:=(BG w).symm;subst m;rcases DK (show Ei k u=true from E)with⟨j,t,rfl,rfl⟩ | ⟨y,t,rfl,rfl⟩
 ·exact⟨t,U⟩
 exact⟨t,U⟩
def RL (K:X.calm=true):Cs X (.builtin "all") (λxs H Q=>∃(p:Addr) (bs:List Bool),xs=[.ref p]/\SqL X.K H p (bs.map V.bl)/\Q (.bl (bs.all λb=>b)) H):=by
 intro B s N H xs us Q I r h;obtain⟨p,bs,rfl,G,q⟩:=h;obtain⟨u,rfl,y⟩:=CM r;cases y;obtain⟨d,A,w,R⟩:=I.list G;have c:=A.length;rw[Ai]at c;have m:p<s.heap.objs.size:=by obtain⟨o,n,e,_⟩:=w;exact A0 e
 refine call_all_walk (Me w.isList ⟨s.heap.objs.size,_,_,_,_,_,λi=>bs.getD i true,U,Walks.list (show X.A.in1.handled=none from I.ok.hd K) _ p (Bk m) d.toArray,⟨⟨_,Bs _ U,U,U⟩,w.isList.push _⟩,λi v s2 L M E D=>?_,λh' tk F=>?_⟩)
 ·have f:d[i]? = some v:=by simpa using E
  have l:i<bs.length:=by have:=(Ay.mp f).1;lia
  obtain⟨P,j,y⟩:=A.get (i:=i) (x:=.bl bs[i]) (by simp[l]);rw[f]at j;cases j;cases y;refine FV ?_;have e:bs.getD i true=bs[i]:=by simp[List.getD,l]
  rw[<- e];exact D
 refine⟨.bl _,H,I.kept (t':=tk) (λb o e=>F b o ?_ (AV _ e)),U,?_⟩
 ·intro z;rw[AR]at z;exact absurd (A0 e) (by rw[z];exact DY _)
 have e:(List.range d.toArray.size).all (λi=>bs.getD i true)=bs.all λb=>b:=by
  rw[BJ,<- c];(rw[Kd,DB,DB]);constructor
  ·intro a b C;(obtain⟨i,f,rfl⟩:=List.getElem_of_mem C);have:=a i (Do.mpr f);simpa [List.getD,f] using this
  intro a i f;(have g:=Do.mp f);have:=a bs[i] (CI g);simpa [List.getD,g] using this
 rw[e];exact q
def Hj (P:Program)(w:World)(a:Addr)(n:Nat):HO:=.ext λh=>∃S,h.SetOf (BE P w) a S n
def Bx (ks:List Key)(i:Nat):Key:=ks.getD i (.inl 0)
def Og (E:X.calm=true):Cs X (.type "set") (λxs H Q=>∃p ks,xs=[.ref p]/\SqL X.K H p (ks.map kV)/\ks.length<=1000/\∀a,H a=none->Q (.ref a) (Y H a (Hj X.prog X.w a (SK.dd (Bx ks) ks.length).length))):=by
 intro w s F H xs us Q I r h;obtain⟨p,ks,rfl,D,M,q⟩:=h;obtain⟨u,rfl,c⟩:=CM r;cases c;obtain⟨d,n,C,N⟩:=I.list D;have b:=n.length;rw[Ai]at b;refine SK.make (knd:=BE X.prog X.w) (val:=Bx ks) (I.ok.hd E) C.isList (λi v B=>?_) (by rw[BJ];unfold scanBound;lia) λh' tk l A=>?_
 ·have m:d[i]? = some v:=by simpa using B
  have g:i<ks.length:=by have:=(Ay.mp m).1;lia
  obtain⟨L,f,c⟩:=n.get (i:=i) (x:=kV ks[i]) (by simp[g]);rw[m]at f;cases f;have e:Bx ks i=ks[i]:=by simp[Bx,List.getD,g]
  rw[e];refine⟨EH c,?_⟩;cases hkk:ks[i]with
  | inl j=>rw[hkk]at c;obtain⟨t,rfl⟩:=c;rfl
  | inr y=>rw[hkk]at c;obtain⟨t,rfl⟩:=c;rfl
 have es:d.toArray.size=ks.length:=by simp[b]
 rw[es]at l;refine⟨.ref _,_,I.laid (a:=s.heap.objs.size) (o:=Hj X.prog X.w s.heap.objs.size (SK.dd (Bx ks) ks.length).length) A (An _) ⟨⟨_,l⟩,?_,λK G f1 e=>?_⟩,U,q _ (I.hok.fresh (An _))⟩
 ·obtain⟨o,_,_,_,e,_⟩:=l;exact⟨o,e⟩
 obtain⟨S,z⟩:=f1;exact⟨S,SK.kept z e⟩
def Oh:Cs X (.builtin "len") (λxs H Q=>∃a n,xs=[.ref a]/\H a=some (Hj X.prog X.w a n)/\Q (.int n) H):=by rintro b s l H xs us Q I r⟨a,n,rfl,i,q⟩;obtain⟨u,rfl,g⟩:=CM r;cases g;obtain⟨⟨S,o,es,ep,t,h,f,e,_,_,c,j,d⟩,_,_⟩:=I.hok a _ i;refine call_len_set h f e j (by unfold scanBound at c;lia) ⟨.int n,H,I.tok _,⟨_,by rw[d]⟩,q⟩
end
def XF (x:Str):It:=⟨λi _=>i<x.cps.size,λi H v H'=>H'=H/\∃c,x.cps[i]? = some c/\v=.str ⟨#[c]⟩,λi _=>x.cps.size<=i⟩
theorem Ya {P:Program}{w:World}{K:W.Frag}{D:Expr}(it:Addr)(x:Str)(t:Tok):F8 P w K D (XF x) [it] it (λi h=>h.IsStrIter it "str_ascii_iterator" x t i) where
 mem:=by simp
 obj:=λi h st b f=>by
  have e:b=it:=by simpa using f
  subst e;obtain⟨o,e,c,d⟩:=st;exact⟨o,e,λv z=>by rw[d]at z;cases z⟩
 keep:=λi h h' st k=>by obtain⟨o,e,r⟩:=st;exact⟨o,k it Θ o e,r⟩
 item:=by intro X q u m A i a s y H E I l st n;subst q u m;obtain⟨p,f1,f2,f3,f4,f5⟩:=l it Θ;have j:i<x.cps.size:=n;refine wpAny_pyNext_ascii_item st (c:=x.cps[i]) (by simp[j]) λh' g C=>?_;have B:Inv X a y H { s with heap:=h',toks:=s.toks+1 }:=I.turned (λb o f e=>(C.2 b f).trans e) p f1 f3 f4 f5;obtain⟨o,e,c,d⟩:=id g;exact⟨_,U,LJ (s:={ s with heap:=h',toks:=s.toks+1 }) e c d Ξ ⟨.str ⟨#[x.cps[i]]⟩,H,B,⟨_,U⟩,⟨U,_,by simp[j],U⟩,g,λb f=>(l b f).1⟩⟩
 done:=by intro X q u m A i a s y H E I l st n;subst q u m;obtain⟨p,f1,f2,f3,f4,f5⟩:=l it Θ;have j:x.cps.size<=i:=n;exact wpAny_pyNext_ascii_end (I.ok.hd A) st (by simp[j]) λh' F=>⟨U,I.turned (t':=s.toks) (λb o f e=>F b o f e) p f1 f3 f4 f5⟩
 self:=λ_ _ _ _ _ st h=>wpAny_pyIter_striter_ascii st h
def nR (tl:TE):TI:=λσ H R=>tl σ H λv H1=>∃x,v=.str x/\x.cps.all (· < 128)=true/\R (XF x) H1
def bV (p:PE X l tl):PI X tg l (nR tl):=by
 intro a s g H R I h;refine thn (p a s g H _ I h) ?_;rintro v c⟨y,m,d,i,j⟩;obtain⟨x,e,n,q⟩:=j;subst e;obtain⟨t,rfl⟩:=i;refine wpAny_pyIter_ascii n ⟨c.heap.objs.size,[c.heap.objs.size],_,_,m,U,d.kept λb o e=>AV _ e,Ya _ x t,⟨_,Bs _ U,U,U⟩,λb f=>?_,q⟩;have e:b=c.heap.objs.size:=by simpa using f
 subst e;exact d.fpOk (An _) (d.hok.fresh (An _))
end L2
namespace ZN
open PySem PyProof.Rows
end ZN
namespace L2
open PySem PySem.Spec PyProof.Rows
theorem KV.get2:∀{kvs:List (Key×V)}{vs:List (Key×Value)}{i:Nat}{k:Key}{v:V},KV kvs vs->kvs[i]? = some (k,v)->∃u,vs[i]? = some (k,u)/\RelV v u
 | _,_,_,_,_,.nil,e=>by simp at e
 | _,_,0,_,_,.cons (b:=p) r _,e=>by simp at e;subst e;obtain⟨c,d⟩:=r;obtain⟨h,a⟩:=p;cases c;exact⟨a,U,d⟩
 | _,_,i+1,_,_,.cons _ t,e=>by obtain⟨v,f,g⟩:=KV.get2 t (by simpa using e);exact⟨v,by simpa using f,g⟩
def Iu (v a:Addr):HO:=.ext λh=>h.IsValuesView v a
section
variable {X:Cx}
def kS:F9 X "dict.values" (λx xs H Q=>∃a kvs,x=.ref a/\xs=[]/\H a=some (.dK kvs)/\∀v,H v=none->Q (.ref v) (Y H v (Iu v a))):=by rintro c s n H x xs v us Q I g m⟨a,kvs,rfl,rfl,l,q⟩;cases g;cases m;obtain⟨w,h,vs,i,d⟩:=FR I.hok l;refine Ig PySem.F.slot_dict_values d.typeIs PySem.F.entry_dict_values (PySem.F.args_dict_values_1 _) (meets_dict_values (BE X.prog X.w) a h) ⟨⟨vs,d⟩,.ref s.heap.objs.size,_,I.laid (t':=s.toks) (o:=Iu s.heap.objs.size a) (λb o e=>AV _ e) (An _) ⟨⟨_,Bs _ U,U,U⟩,⟨_,Bs _ U⟩,λu p f e=>?_⟩,U,q _ (I.hok.fresh (An _))⟩;obtain⟨o,j,r⟩:=f;exact⟨o,e o j,r⟩
def Inv.freeze (I:Inv X dv σ H s)(h:H a=some (.dK kvs))(j:s.heap.get? a=some o):Inv X dv σ (Y H a (.frz o (.dK kvs))) s:=by
 have g:∀b,H b=none->b≠a:=λb e z=>by rw[z,h]at e;cases e
 have keep:∀b u,H b=some u->u≠.dK kvs->Y H a (.frz o (.dK kvs)) b=some u:=λb u e d=>by rw[Af (A8 e h d)];exact e
 have st:Inv X dv σ (Y H a (.frz o (.dK kvs))) { s with heap:=s.heap,gens:=s.gens,drawn:=s.drawn,toks:=s.toks }:=by
  refine I.step (g':=s.gens) (t':=s.toks) (d':=s.drawn) (ch:=[]) (λb f=>nomatch f) (λb o _ _ _ e _=>e) (λb o _ _ _ e _=>⟨o.slots,e⟩) (λb o _ e n=>by rw[Af (g b n)];exact n) (λb o _ e=>⟨o,e⟩)
   (λb xs e=>keep b _ e (by intro z;cases z)) (λb o u e=>keep b _ e (by intro z;cases z)) (λb ps e=>⟨#[],by rw[keep b _ e (by intro z;cases z)];simp⟩) (λm i=>i) (λb u e=>?_) I.bare
  by_cases f:b=a
  ·subst f;rw[Ag]at e;cases e;exact⟨j,I.hok _ _ h⟩
  rw[Af f]at e;exact(I.hok b u e).stay (λc v _ q=>q) (λc q=>keep c _ q (by intro z;cases z)) λc xs q=>keep c _ q (by intro z;cases z)
 exact st
end
def Ms (a:Addr)(o:Obj)(kvs:List (Key×V)):It:=
 ⟨λi H=>i<kvs.length/\H a=some (.frz o (.dK kvs)),λi H x H'=>H'=H/\∃k,kvs[i]? = some (k,x),λi H=>kvs.length<=i/\H a=some (.frz o (.dK kvs))⟩
def Od (I:Inv X dv σ H s)(j:H a=some (.frz o (.dK kvs)))(e:o.data=.dict es ep) :
  ∃vs,KV kvs vs/\s.heap.DictAt (BE X.prog X.w) a vs ep:=by
 obtain⟨f,n,m,vs,d,l,h,i,c,g,b,r⟩:=I.hok a _ j
 rw[f]at c
 cases c
 rw[e]at b
 cases b
 exact⟨vs,d,o,es,f,g,e,r⟩
theorem X9 {P:Program}{w:World}{K:W.Frag}{tg:Expr}(it a:Addr)(o:Obj)(kvs:List (Key×V))(es:Array DictEntry)(ep:Nat)(F:o.data=.dict es ep) :
  F8 P w K tg (Ms a o kvs) [it] it (λi h=>h.IsValIter it a i kvs.length ep) where
 mem:=by simp
 obj:=λi h st b l=>by
  have e:b=it:=by simpa using l
  subst e;obtain⟨o,e,c,d⟩:=st;exact⟨o,e,λv z=>by rw[d]at z;cases z⟩
 keep:=λi h h' st k=>by obtain⟨o,e,r⟩:=st;exact⟨o,k it Θ o e,r⟩
 item:=by intro X B C q L i g s G H E I n st x;subst B C q;obtain⟨y,f1,f2,f3,f4,f5⟩:=n it Θ;obtain⟨D,A⟩:=x;obtain⟨vs,f,j⟩:=Od I A F;have p:=f.length;have M:kvs[i]? = some (kvs[i].1,kvs[i].2):=AJ D;obtain⟨u,R,S⟩:=KV.get2 f M;rw[p]at st;refine wpAny_pyNext_values_item (knd:=BE X.prog X.w) st j R λh' m Q=>?_;have N:Inv X g G H { s with heap:=h' }:=I.turned (t':=s.toks) (λb o l e=>(Q.2 b l).trans e) y f1 f3 f4 f5;obtain⟨o',e,c,d⟩:=id m;rw[<- p]at m;exact⟨u,U,LJ (s:={ s with heap:=h' }) e c d Ξ ⟨kvs[i].2,H,N,S,⟨U,_,M⟩,m,λb l=>(n b l).1⟩⟩
 done:=by intro X B C q L i g s G H E I n st x;subst B C q;obtain⟨y,f1,f2,f3,f4,f5⟩:=n it Θ;obtain⟨D,A⟩:=x;obtain⟨vs,f,j⟩:=Od I A F;have p:=f.length;rw[p]at st;exact wpAny_pyNext_values_end (knd:=BE X.prog X.w) (I.ok.hd L) st j (R8 Ψ) λh' T=>⟨U,I.turned (t':=s.toks) (λb o l e=>T b o l e) y f1 f3 f4 f5⟩
 self:=λ_ _ _ _ _ st h=>wpAny_pyIter_valiter st h
def nQ (tl:TE):TI:=λσ H R=>tl σ H λx H1=>∃v a kvs,x=.ref v/\H1 v=some (Iu v a)/\H1 a=some (.dK kvs)/\∀o,R (Ms a o kvs) (Y H1 a (.frz o (.dK kvs)))
def bU (D:PE X l tl):PI X tg l (nQ tl):=by
 intro d s w H R I h;refine thn (D d s w H _ I h) ?_;rintro u j⟨x,z,c,y,C⟩;obtain⟨v,a,kvs,rfl,A,i,q⟩:=C;cases y;obtain⟨F,E,vs,m,o,es,ep,g,B,n,r⟩:=FR c.hok i;obtain⟨f,_,_⟩:=c.hok v _ A;refine wpAny_pyIter_values f ⟨o,es,g,B,n,r⟩ ⟨j.heap.objs.size,[j.heap.objs.size],_,_,Y z a (.frz o (.dK kvs)),U,(c.freeze i g).kept (λb o e=>AV _ e),X9 _ a o kvs es ep n,⟨_,Bs _ U,U,by rw[m.length] <;> rfl⟩,λb p=>?_,q o⟩;have e:b=j.heap.objs.size:=by simpa using p
 subst e;exact(c.freeze i g).fpOk (An _) ((c.freeze i g).hok.fresh (An _))
def Kl (K:W.Frag)(v:V)(d:PyData):Prop:=∀(h:Heap) (u:Value),K.In h->RelV v u->∃as,Reads h u d as
def DA:List Value->Option (List V)
 | []=>some []
 | u::r=>match DS u,DA r with
  | some v,some vs=>some (v::vs)
  | _,_=>none
def Ff (h:DS u=some v):RelV v u:=by
 cases u with
 | none=>cases h;rfl
 | bool b=>cases h;rfl
 | int i t=>cases h;exact⟨t,U⟩
 | str x t=>cases h;exact⟨t,U⟩
 | bytes b t=>cases h;exact⟨t,U⟩
 | float b t=>cases h;exact⟨t,U⟩
 | ref a=>cases h;rfl
 | type n=>cases h;rfl
 | _=>cases h
theorem DU:∀{us:List Value}{vs:List V},DA us=some vs->Vals vs us
 | [],_,h=>by cases h;exact .nil
 | u::r,vs,h=>by
  unfold DA at h;cases e1:DS u with
  | none=>rw[e1]at h;cases h
  | some v=>
   cases e2:DA r with
   | none=>rw[e1,e2]at h;cases h
   | some ws=>rw[e1,e2]at h;cases h;exact .cons (Ff e1) (DU e2)
def V4:V->Option PyData
 | .non=>some .none
 | .int i=>some (.int i)
 | .str x=>some (.str x)
 | _=>none
def Z3 (e:V4 v=some d)(r:RelV v u):∃as,Reads h u d as:=by
 cases v with
 | non=>cases e;cases r;exact⟨_,.none⟩
 | int i=>cases e;obtain⟨t,rfl⟩:=r;exact⟨_,.int i t⟩
 | str x=>cases e;obtain⟨t,rfl⟩:=r;exact⟨_,.str x t⟩
 | _=>cases e
def Z4 :∀{vs:List V}{ds:List PyData}{us:List Value},Vals vs us->Paired (λv d=>∀u,RelV v u->∃as,Reads h u d as) vs ds->∃as,ReadsAll h us ds as:=by
 intro v d u a p;induction p generalizing u with
 | nil=>cases a;exact⟨_,.nil⟩
 | cons p q i=>cases a with|cons r s=>obtain⟨c,a⟩:=p _ r;obtain⟨d,b⟩:=i s;exact⟨_,.cons a b⟩
def KZ {K:W.Frag}{a:Addr}{i:Option Addr}{b:Array Value}{n:Nat}{g:Array (Option Value)}{vs:List V}{ds:List PyData}(l:K.lookup a=some ⟨.type "tuple",i,.seq b n,g⟩)(ab:DA b.toList=some vs)(r:Paired (Kl K) vs ds):Kl K (.ref a) (.tuple ds):=by
 intro h u c f;cases f
 have j:∀{vs:List V}{ds:List PyData},Paired (Kl K) vs ds->Paired (λv d=>∀u,RelV v u->∃e,Reads h u d e) vs ds:=by
  intro vs ds p;induction p with
  | nil=>exact .nil
  | cons a _ ih=>exact .cons (λu f=>a h u c f) ih
 obtain⟨e,q⟩:=Z4 (DU ab) (j r);exact⟨e,.tuple (c a _ l) U U q⟩
def Gm {K:W.Frag}{v:V}{d:PyData}(e:V4 v=some d):Kl K v d:=λ_ _ _ r=>Z3 e r
section
variable {X:Cx}
def Z9 (K:W.Frag):R2:=λx y H Q=>∃d ds,RdV H x d/\Kl K y (.tuple ds)/\PySem.SeqAt.shaped d=true/\PySem.SeqAt.shaped (PyData.tuple ds)=true/\Q (.bl (!ds.any λe=>PyData.eqv e d)) H
def cL (l:X.A.units+65<cLine):Bz X (compareOp .NotIn) (Z9 X.K):=by rintro e s n H x y v u Q I f j⟨d,ds,h,g,c,i,q⟩;obtain⟨m,a⟩:=h.reads I.hok f;obtain⟨bs,b⟩:=g s.heap u I.kIn j;exact PySem.SeqAt.notIn_tuple_reads b a (SM i) (SM c) (room_in_shaped c l) ⟨.bl _,H,I,U,q⟩
def Wf (x:Str):Str.empty++x=x:=by
 cases x with | mk a=>
 show Str.mk (#[]++a)=Str.mk a;rw[Array.empty_append]
end
def Dh:bootBuiltins "list" = some (.type "list"):=by decide +kernel
def LS:bootBuiltins "set" = some (.type "set"):=by decide +kernel
def RO:bootBuiltins "all" = some (.builtin "all"):=by decide +kernel
end L2
namespace ZN
open PySem PyProof.Rows
end ZN
namespace L2
open PySem PySem.Spec PyProof.Rows
end L2
namespace ZN
open PySem PyProof.Rows
end ZN
namespace L2
open PySem PySem.Spec PyProof.Rows
section
variable {X:Cx}
def RM:bootBuiltins "sorted" = some (.builtin "sorted"):=by decide +kernel
end
def LO {k:Nat}(h:k<=xs.length):BB xs (some ((k:Nat):Int)) none=xs.drop k:=by unfold BB;rw[HT.sIx_none,HT.sIx_nat,L6 h];apply Eo;rw[Dq];exact An _
end L2
namespace L2
open PySem PySem.Spec PyProof.Rows PySem.W
section
variable {P:Program}{w:World}
def ObjOk.there (x:ObjOk P w H h a o):∃ob,h.get? a=some ob:=by
 cases o with
 | lst xs=>obtain⟨_,_,_,_,e⟩:=x;exact⟨_,e⟩
 | tup xs=>obtain⟨_,_,_,ob,e,_⟩:=x;exact⟨_,e⟩
 | dK kvs=>obtain⟨_,_,_,_,o,_,_,e,_⟩:=x;exact⟨_,e⟩
 | dT kvs=>obtain⟨_,_,_,_,o,_,_,e,_⟩:=x;exact⟨_,e⟩
 | set S n=>obtain⟨o,_,_,_,e,_⟩:=x;exact⟨_,e⟩
 | ins C dx fs=>obtain⟨_,_,_,e,_⟩:=x;exact⟨_,e⟩
 | own y=>exact x
 | xd fs=>obtain⟨_,⟨_,_,_,e,_⟩,_⟩:=x;exact⟨_,e⟩
 | rng lo hi=>obtain⟨_,_,_,e⟩:=x;exact⟨_,e⟩
 | frz ob u=>obtain⟨e,_⟩:=x;exact⟨_,e⟩
 | tbl ps=>exact⟨_,x⟩
 | met f y=>exact⟨_,x⟩
 | ext φ=>obtain⟨_,e,_⟩:=x;exact e
structure Pb (P:Program)(w:World)(outer:List Env)(H:Hp)(s:Shared)(a:Addr)(H':Hp)(B:Heap)(s':Shared):Prop where
 os:s'.os=s.os
 bare:AllBare s'.gens
 un:Un (Cp outer) [] H H' s.heap s'.heap
 hok:HOk P w H' s'.heap
 funs:s'.heap.FunFrames B outer
 new:H' a=none
 fresh:s.heap.get? a=none
 k1:∀b o,s.heap.get? b=some o->H b=none->b∉Cp outer->B.get? b=some o
 k2:∀c v,H' c≠none->s'.heap.get? c=some v->B.get? c=some v
 k3:∀b o,s.heap.get? b=some o->b∉Cp outer->∃o',B.get? b=some o'
def CXe (P:Program)(w:World):DT:=λouter H s E e s'=>∃(a C t:Addr) (H':Hp) (B:Heap),e=.ref a/\Pb P w outer H s a H' B s'/\Heap.FlyingW B outer a (.ref C) (.ref t) s'.heap/\E e (some C) H'
def V2 (I:Inv X dv σ H s)(L:X.ex=[])(p:X.stack=env::outer)(x:X.outer=outer)(T:env.frame=some X.env.locals)
  (F:Pb X.prog X.w X.stack H s a H' B s'){t:Addr}(h:Heap.FlyingW B outer a (.ref C) (.ref t) h')(M:s'.heap.UpToSlots h'):Pb X.prog X.w outer X.H₀ X.s₀ a H' B { s' with heap:=h' }:=by
 subst x
 have i:∀b,b∈X.fs->b∈Cp X.stack:=λb d=>by rw[p];unfold Cp;rw[Kb,T];exact AY _ d
 have m:∀b,b∈Cp X.stack->b=X.env.locals\/b∈X.fs:=λb d=>by rw[p]at d;unfold Cp at d;rw[Kb,T]at d;exact Az.mp d
 have y:∀b o,X.s₀.heap.get? b=some o->b≠X.env.locals:=λb o e z=>by have R:=A0 e;rw[z]at R;exact absurd (CJ R I.ok.above) (DY _)
 have f:∀b:Addr,b∉X.ex:=λb z=>by rw[L]at z;cases z
 have g:∀b o,X.s₀.heap.get? b=some o->b∉X.fs->b∉Cp X.stack:=λb o e d z=>by
  rcases m b z with q | q
  ·exact y b o e q
  exact d q
 have k1:∀b o,X.s₀.heap.get? b=some o->X.H₀ b=none->b∉X.fs->B.get? b=some o:=λb o e n d=>F.k1 b o (I.base.keep b o e n d (f b)) (I.base.free b o e n (f b)) (g b o e d)
 have Q:HOk X.prog X.w H' h':=λb u e=>(F.hok b u e).stay (λc v E q=>h.1 c v (F.k2 c v (by
  rcases E with z | z
  ·rw[z,e];intro z;cases z
  rw[z];intro z;cases z) q)) (λ_ q=>q) λ_ _ q=>q
 have j:∀b o,X.s₀.heap.get? b=some o->X.H₀ b=none->b∈X.fs->∃A,h'.get? b=some { o with slots:=A }:=λb o e n d=>by obtain⟨A,l⟩:=I.base.slot b o e n d (f b);obtain⟨a0,D⟩:=F.un.slot b _ l (I.base.free b o e n (f b)) (i b d) Θ;obtain⟨_,o',r,hd⟩:=F.funs.mem (i b d);rw[D]at r;cases r;obtain⟨G,e3⟩:=M b _ D hd;exact⟨G,e3⟩
 have free:∀b o,X.s₀.heap.get? b=some o->X.H₀ b=none->H' b=none:=λb o e n=>by obtain⟨A,l⟩:=I.base.any e n (f b);exact F.un.free b _ l (I.base.free b o e n (f b)) Θ
 have there:∀b o,X.s₀.heap.get? b=some o->∃o',h'.get? b=some o':=λb o e=>by
  by_cases d:b∈X.fs
  ·have n:=I.ok.frf b d;obtain⟨A,q⟩:=j b o e n d;exact⟨_,q⟩
  obtain⟨K,l⟩:=I.base.there b o e (f b);obtain⟨W,D⟩:=F.k3 b K l (g b o e d);exact⟨W,h.1 b W D⟩
 refine⟨F.os.trans I.os,F.bare,⟨λb o e n d _=>h.1 b o (k1 b o e n d),λb o e n d _=>j b o e n d,λb o e n _=>free b o e n,λb o e _=>there b o e,λb xs q=>F.un.tups b xs (I.base.tups b xs q),λb o u q=>F.un.frzs b o u (I.base.frzs b o u q),λb ps q=>?_⟩,Q,h.2.2.1,F.new,?_,k1,λc v E q=>?_,λb o e d=>?_⟩
 ·obtain⟨m1,q1⟩:=I.base.tbls b ps q;obtain⟨m2,q2⟩:=F.un.tbls b _ q1;exact⟨m1++m2,by rw[q2,Array.append_assoc]⟩
 ·cases z:X.s₀.heap.get? a with
  | none=>rfl
  | some o=>obtain⟨o',e'⟩:=I.base.there a o z (f a);rw[F.fresh]at e';cases e'
 ·cases hu:H' c with
  | none=>exact absurd hu E
  | some u=>obtain⟨S,N⟩:=(F.hok c u hu).there;have hB:=F.k2 c S E N;have q':h'.get? c=some v:=q;rw[h.1 c S hB]at q';cases q';exact hB
 obtain⟨K,l⟩:=I.base.there b o e (f b)
 exact F.k3 b K l (g b o e d)
def EC {P:Program}{w:World}{K:W.Frag}{mg:Str->Option Value}{base:Heap}{N:List Str}{d:Str}{c:Scope}{f:Addr}{n:Value}{A:Around}{outer:List Env}{m:Shared}{l:Hp}{E:XK} :
  EU (CXe P w) (DO (CXe P w) P w K mg base N d c f n A outer m l E) E:=by
 intro j o H s e s' I h
 obtain⟨a,C,t,H',B,rfl,F,i,q⟩:=h
 exact wpAny_leaves_onW I.ok.frames U i λh' b g=>⟨a,C,t,H',B,U,V2 I U U U U F b g,b,q⟩
def Pc (h:Heap)(C:Addr)(bmB:List Value)(newId:String)(bm:List Value):Prop:=
 ∃(N:Addr) (nm qn:Str) (bs:List Value) (hdct:Bool) (sn:List Str) (sub:List Value) (ab:Bool) (col:Option Bool) (dd:Option Addr) (k0 k1 k2 k3 k5:Option Value) (mN:Str->Option Value),
  h.get? C=some (excClassObj nm qn C N bs bm hdct sn sub ab col dd k0 k1 k2 k3 k5 newId)/\h.Ns N mN/\mN "__init__" = none/\OwnTail h bmB bm
def NW {K:Frag}{h:Heap}{C:Addr}{f:List Value}{a:String}(X:K.In h)(g:excIn K C f a=true):∃bm,Pc h C f a bm:=by
 unfold excIn at g;split at g
 ·rename_i e i l Be;split at g
  ·rename_i m c A H G s p B j d;have g':=g;simp[BV,FC,not_eq_true']at g';obtain⟨⟨⟨⟨⟨v,L⟩,N⟩,M⟩,o⟩,x⟩:=g';subst v L;obtain⟨F,E,Q,q,I,D,r,z,u,n,y⟩:=i;subst j N;have b:=Ke.mp d;subst b;exact⟨c,q,F,I,E,D,r,z,u,n,e,A,H,G,s,B,_,X _ _ Be,.of_isNs (isNs_of_in X o),nsMap_none_of_in X o x,tail_of_in X M⟩
  cases g
 cases g
abbrev El:List Value:=[.type "ValueError",.type "Exception",.type "BaseException",.type "object"]
def TQ (t:TA)(E:XK)(C:Addr):TS:=λ_ σ H=>t σ H λvs H1=>vs.length<=1000/\∀a,H1 a=none->E (.ref a) (some C) H1
def Gr {P:Program}{w:World}{K:W.Frag}{mg:Str->Option Value}{base:Heap}{N:List Str}{d:Str}{a:Scope}{f:Addr}{i:Value}{A:Around}{outer:List Env}{j:Shared}{H0:Hp}{E:XK}{C:Addr}{x:Str}{np g pos:Pos}{h:Expr}{es:List Expr}{t:TA}
  (ow:excIn K C El "ValueError.__new__" = true)(hg:Gl (DO (CXe P w) P w K mg base N d a f i A outer j H0 E) x)(R:mg x=some (.ref C))(ha:PA (DO (CXe P w) P w K mg base N d a f i A outer j H0 E) (h::es) t)
  (he:starEach (h::es) (envOfC d a j.heap.objs.size f i)=(false,eval h (envOfC d a j.heap.objs.size f i))::starEach es (envOfC d a j.heap.objs.size f i):=by rfl)
  (X:(backTo g (starEach es (envOfC d a j.heap.objs.size f i))).any (·.1)=false:=by rfl)(a1:(x == ("__debug__" : Str))=false:=by decide) :
  PS (DO (CXe P w) P w K mg base N d a f i A outer j H0 E) (.Raise (some (.Call (.Name x np) (h::es) [] g)) none pos) (TQ t E C):=by
 intro G s σ H D I hw
 obtain⟨bm,NN,nm,qn,bs,hdct,sn,sub,ab,col,dd,k0,k1,k2,k3,k5,mN,hC,hN,S,TL⟩:=NW I.ok.mod.kin ow
 refine wpAny_Raise_call_subT (C:=C) (nm:=nm) (q:=qn) (N:=NN) (bs:=bs) (bm:=bm) (hdct:=hdct) (sn:=sn) (sub:=sub) (ab:=ab) (col:=col) (dd:=dd) (k0:=k0) (k1:=k1) (k2:=k2) (k3:=k3) (k5:=k5)
  Sx (mN:=mN) (TL.hasType Sx.hasBase) (I.ok.hd U) ?_ S (JB I hg R ⟨U,?_⟩ a1)
 ·show(backTo g (starEach (h::es) (envOfC d a j.heap.objs.size f i))).any (·.1)=false;rw[he];show(false || (backTo g (starEach es (envOfC d a j.heap.objs.size f i))).any (·.1))=false;rw[X];rfl
 have h0:=ha g G s σ H _ I hw
 show wpAny (model P w) _ (evalArgs (.ref C) true (backTo g (starEach (h::es) (envOfC d a j.heap.objs.size f i))) []) _ _ s
 have h1:wpAny (model P w) (A.deeper (envOfC d a j.heap.objs.size f i)) (spliced (backTo g (starEach (h::es) (envOfC d a j.heap.objs.size f i)))) _ _ s:=h0
 rw[he]at h1 ⊢
 refine OT (CZ h1 (λus s2 T=>?_) λ_ _ y=>y)
 obtain⟨vs,M,l,r,hz,q⟩:=T
 have a5:=r.length
 have a6:sizeLine=16777216:=AF
 refine⟨U,by show us.length<=sizeLine;lia,l.bk _ _ hC,hN.keeps l.bk,TL.keeps l.bk,λh' e B=>?_⟩
 have Q:∀env∈(envOfC d a j.heap.objs.size f i::outer),∀b,env.frame=some b->b∈Cp (envOfC d a j.heap.objs.size f i::outer):=λenv R b m=>mem_filterMap.mpr ⟨env,R,m⟩
 have funs:s2.heap.FunFrames (hideAll s2.heap (Cp (envOfC d a j.heap.objs.size f i::outer))) (envOfC d a j.heap.objs.size f i::outer):=funFrames_hide l.stack Q
 have p:=l.stkFree
 have n:M e=none:=by
  cases z:M e with
  | none=>rfl
  | some u=>obtain⟨ob,q⟩:=(l.hok e u z).there;rw[B.new]at q;cases q
 refine wpAny_leaves_madeW l.ok.frames U (λb o q=>of_hideAll _ q) funs B λa4 t' L a2 a3 a0=>?_
 refine⟨e,C,t',M,_,U,V2 (s':={ s2 with heap:=h' }) l U U U U ⟨U,l.bare,Un.kept B.keeps,l.hok.kept B.keeps,funs.of_keeps (λb o m _=>⟨o,B.keeps b o m,U⟩),n,B.new,λb o q _ m=>Ov _ q m,λc v hc q=>?_,λb o q m=>⟨o,Ov _ q m⟩⟩ L a0,L,q e n⟩
 cases z:M c with
 | none=>exact absurd z hc
 | some u=>obtain⟨ob,q2⟩:=(l.hok c u z).there;have q3:h'.get? c=some v:=q;rw[B.keeps c ob q2]at q3;cases q3;exact Ov _ q2 λm=>by have:=p c m;rw[z]at this;cases this
end
abbrev Cx.at' (X:Cx)(pn:List (Addr×Obj))(xe:Value->Shared->Prop):Cx:={ X with pn:=pn,xe:=xe }
abbrev Cx.held (X:Cx)(a:Addr)(xe:Value->Shared->Prop):Cx:={ X with A:=X.A.mark (some (.ref a)),calm:=false,xe:=xe }
section
variable {X:Cx}{dv:List (Addr×Obj)}{σ:St}{H:Hp}{s:Shared}
def Inv.at' (I:Inv X dv σ H s)(xe:Value->Shared->Prop):Inv (X.at' (X.pn++dv) xe) [] σ H s:=
 ⟨⟨I.ok.mod,I.ok.kind,I.ok.glob,I.ok.blt,I.ok.above,I.ok.inj,I.ok.has,I.ok.cab,I.ok.hd,I.ok.frames,I.ok.stk,I.ok.exf,I.ok.bs,I.ok.bsz,I.ok.noex,I.ok.exfs,I.ok.funs,I.ok.frf⟩,I.os,I.bare,I.base,I.loc,I.cell,I.free,I.freeC,λp a=>I.pin p (by rw[Cc]at a;exact a),I.hok,I.len⟩
def Inv.unat (ok:X.Ok)(I:Inv (X.at' (X.pn++dv) xe) pins' σ H s):Inv X dv σ H s:=
 ⟨ok,I.os,I.bare,I.base,I.loc,I.cell,I.free,I.freeC,λp a=>I.pin p (Hc _ a),I.hok,I.len⟩
def Inv.held (I:Inv X dv σ H s)(a:Addr)(xe:Value->Shared->Prop):Inv (X.held a xe) dv σ H s:=
 ⟨⟨I.ok.mod,I.ok.kind,I.ok.glob,I.ok.blt,I.ok.above,I.ok.inj,I.ok.has,I.ok.cab,(λz=>nomatch z),I.ok.frames,I.ok.stk,I.ok.exf,I.ok.bs,I.ok.bsz,I.ok.noex,I.ok.exfs,I.ok.funs,I.ok.frf⟩,I.os,I.bare,I.base,I.loc,I.cell,I.free,I.freeC,I.pin,I.hok,I.len⟩
def Inv.unheld (ok:X.Ok)(I:Inv (X.held a xe) dv σ H s):Inv X dv σ H s:=
 ⟨ok,I.os,I.bare,I.base,I.loc,I.cell,I.free,I.freeC,I.pin,I.hok,I.len⟩
def MB (I:Inv X dv σ H s)(S:X.N.Nodup)(L:X.N[i]? = some x)(hk:X.env.kindOf x=some .local)
  (h:∀s',Inv X dv (σ.set i none) H s'->Q () s'):wpAny M A (do bindName X.env x .none;unbindBehindTheSuite X.env x pos) Q E s:=by
 obtain⟨m,N,hl⟩:=id I.loc
 have r:(X.env.scope.kind == .class || (X.env.scope.kind == .module && X.env.locals != X.env.globals))=false:=by rw[I.ok.kind];rfl
 have l:i<σ.length:=by rw[I.len];exact(Ay.mp L).1
 have cne:=I.cne
 refine wpAny_nameGoes_keeps hk N r λh' v F f=>?_
 obtain⟨oL,_,_,a0,_⟩:=id N
 have old:∀b o,X.s₀.heap.get? b=some o->b≠X.env.locals:=λb o e=>Bk (CJ (A0 e) I.ok.above)
 have G:HOk X.prog X.w H h':=λb ob e=>(I.hok b ob e).stay (λc P C q=>(f.2 c (λz=>by
  subst z;have a:=I.free;rcases C with rfl | C
  ·rw[a]at e;cases e
  rw[a]at C;cases C)).trans q) (λ_ q=>q) λ_ _ q=>q
 refine h { s with heap:=h',toks:=s.toks+1 } ⟨I.ok,I.os,I.bare,⟨λb o e n D u=>(f.2 b (old b o e)).trans (I.base.keep b o e n D u),λb o e n D u=>?_,I.base.free,λb o e u=>?_,I.base.tups,I.base.frzs,I.base.tbls⟩,⟨_,F,λj y T g B e3=>?_⟩,λy c e=>?_,I.free,I.freeC,λp hp=>?_,G,by simpa using I.len⟩
 ·obtain⟨sl,g⟩:=I.base.slot b o e n D u;exact⟨sl,(f.2 b (old b o e)).trans g⟩
 ·obtain⟨o',g⟩:=I.base.there b o e u;exact⟨o',(f.2 b (old b o e)).trans g⟩
 ·by_cases K:j=i
  ·subst K;rw[JS l]at B;cases B
  rw[Ki (ET K)]at B;obtain⟨W,R,q⟩:=hl j y T g B e3;refine⟨W,R,?_⟩;rcases q with⟨k,e⟩ | ⟨k,c,e,z⟩
  ·refine .inl ⟨k,?_⟩;have w:y≠x:=λe=>K (Q6 S g (e ▸ L));simp[w,e]
  exact .inr ⟨k,c,e,z.sameBut f (cne y c e)⟩
 ·obtain⟨P,z⟩:=I.cell y c e;exact⟨P,z.sameBut f (cne y c e)⟩
 obtain⟨e,n,w,nf,d⟩:=I.pin p hp
 exact⟨(f.2 p.1 w).trans e,n,w,nf,d⟩
end
section
variable {A:Around}{M:Model}{E:Value->Shared->Prop}
def lC {h:Heap}{g:Array GenState}{d:Drawn}{t:Nat}{os:OsState}{e C G:Addr}{r:Obj}{i c a:List Value}{y F:String}{Q:Bool->Shared->Prop}(n:Pc h C i y c)(m:Pc h G i F a)
  (z:h.get? e=some r)(j:r.cls=.ref C)(b:a.contains (.type "BaseException")=true)(l:c.contains (.ref G)=true)(D:Q true ⟨h,g,d,t,os⟩):wpAny M A (excMatches (.ref e) (.ref G)) Q E ⟨h,g,d,t,os⟩:=by
 obtain⟨N,nm,X,bs,hdct,sn,sub,ab,col,dd,k0,k1,k2,k3,k5,mN,n,_,_,_⟩:=n
 obtain⟨W,B,P,S,o,w,s,H,u,v,I,R,L,x,K,T,m,_,_,_⟩:=m
 have p:(Value.ref G::a).contains (.type "BaseException")=true:=by rw[Si,b,Bool.or_true]
 have q:(Value.ref C::c).contains (.ref G)=true:=by rw[Si,l,Bool.or_true]
 have f:=tc_notTuple
 unfold excMatches
 repeat (first | (with_reducible refine wpAny_loadPart_at z ?_;rw[j]) | with_reducible refine wpAny_loadPart_at m ?_ | (with_reducible refine Sr m ?_;rw[p]) | (with_reducible refine Sr n ?_;rw[q]) | wp_step)
 exact D
end
def GH (a C:Addr):HO:=.ext λh=>∃o,h.get? a=some o/\o.cls=.ref C
section
variable {X:Cx}{dv:List (Addr×Obj)}{σ:St}{H:Hp}{s:Shared}
def Inv.track (I:Inv X dv σ H s)(v:H a=none)(h0:X.s₀.heap.get? a=none)(G:a≠X.env.locals)(E:∀x c,X.env.cells.lookup x=some c->a≠c)(D:∀p∈X.pn++dv,a≠p.1)(B:∃o,s.heap.get? a=some o/\o.cls=.ref C) :
  Inv X dv σ (Y H a (GH a C)) s:=by
 have g:∀{b:Addr}{u:HO},H b=some u->b≠a:=λe=>Au e v
 refine⟨I.ok,I.os,I.bare,⟨I.base.keep,I.base.slot,λb o e n F=>?_,I.base.there,λb xs q=>?_,λb o u q=>?_,λb ps q=>?_⟩,I.loc,I.cell,by rw[Af G.symm];exact I.free,λx c e=>by rw[Af (E x c e).symm];exact I.freeC x c e,λp f=>?_,λb u e=>?_,I.len⟩
 ·rw[Af (λz=>by rw[z,h0]at e;cases e)];exact I.base.free b o e n F
 ·have:=I.base.tups b xs q;rw[Af (g this)];exact this
 ·have:=I.base.frzs b o u q;rw[Af (g this)];exact this
 ·obtain⟨m,h⟩:=I.base.tbls b ps q;exact⟨m,(Af (g h))▸h⟩
 ·obtain⟨e,n,i,w,d⟩:=I.pin p f;exact⟨e,(Af (D p f).symm)▸n,i,w,d⟩
 by_cases l:b=a
 ·subst l;rw[Ag]at e;cases e;obtain⟨o,j,y⟩:=B;refine⟨⟨o,j,y⟩,⟨o,j⟩,λh1 h2 ⟨r,A,h⟩ k=>⟨r,k _ A,h⟩⟩
 rw[Af l]at e
 exact(I.hok b u e).stay (λ_ _ _ q=>q) (λc q=>by rw[Af (g q)];exact q) λc xs q=>by rw[Af (g q)];exact q
end
def pS (F:Pb P w outer H s a H' B s')(g:∀b∈Cp outer,H b=none)(k:B.StaysIn h')(l:s'.heap.UpToSlots h') :
  Un (Cp outer) [] H H' s.heap h'/\HOk P w H' h':=by
 have f:∀b o,s.heap.get? b=some o->H b=none->b∈Cp outer->∃p,h'.get? b=some { o with slots:=p }:=λb o e n d=>by obtain⟨x,i⟩:=F.un.slot b _ e n d Θ;obtain⟨_,C,h,y⟩:=F.funs.mem d;rw[i]at h;cases h;obtain⟨j,r⟩:=l b _ i y;exact⟨j,r⟩
 refine⟨⟨λb o e n d _=>k b o (F.k1 b o e n d),λb o e n d _=>f b o e n d,F.un.free,λb o e _=>?_,F.un.tups,F.un.frzs,F.un.tbls⟩,λb u e=>(F.hok b u e).stay (λc v A q=>k c v (F.k2 c v (by
  rcases A with z | z
  ·rw[z,e];intro z;cases z
  rw[z];intro z;cases z) q)) (λ_ q=>q) λ_ _ q=>q⟩
 by_cases d:b∈Cp outer
 ·obtain⟨p,q⟩:=f b o e (g b d) d;exact⟨_,q⟩
 obtain⟨m,i⟩:=F.k3 b o e d
 exact⟨m,k b m i⟩
def mroIn (K:Frag)(C G:Addr):Bool:=match K.lookup C with
 | some ⟨_,_,.cls cd,_⟩=>(cd.mro.drop 1).contains (.ref G)
 | _=>false
def cJ {K:Frag}{h:Heap}{C G:Addr}{b:List Value}{a:String}(X:K.In h)(e:excIn K C b a=true)(m:mroIn K C G=true):∃bm,Pc h C b a bm/\bm.contains (.ref G)=true:=by
 obtain⟨bm,x⟩:=NW X e;refine⟨bm,x,?_⟩;obtain⟨N,nm,g,bs,hdct,sn,sub,ab,col,dd,k0,k1,k2,k3,k5,mN,c,i,f,d⟩:=x;unfold mroIn at m;split at m
 ·rename_i Be;have:=X _ _ Be;rw[c]at this;cases this;exact m
 cases m
def Ym (len j:Nat)(K:Frag)(G:Addr)(tb:XK->TS)(th:TS):TS:=λD σ H=>tb (λe c H'=>∃a C nC,e=.ref a/\c=some C/\excIn K C El nC=true/\mroIn K C G=true /\ (H' a=none->th { nx:=λσ' H2=>D.nx (σ'.set j none) H2,rt:=D.rt,bk:=λσ' H2=>D.bk (σ'.set j none) H2,ct:=λσ' H2=>D.ct (σ'.set j none) H2 } ((replicate len none).set j (some (.ref a))) (Y H' a (GH a C)))) D σ H
def aZ (af:X.ex=[])(a1:X.stack=X.env::X.outer)(ac:X.env.frame=some X.env.locals)
  (ag:excIn X.K G El nG=true)(hg:Gl X x)(hm:X.mg x=some (.ref G))(hN:X.N.Nodup)(hi:X.N[j]? = some n)(hk:X.env.scope.names.lookup n=some .local)
  (hb:∀pn xe E',EU (CXe X.prog X.w) (X.at' pn xe) E'->PSs (X.at' pn xe) body (tb E'))(hs:∀a,PSs (X.held a λ_ _=>False) (a8::suite) th)(ak:(x == ("__debug__" : Str))=false:=by decide) :
  PS X (.Try body [.ExceptHandler (some (.Name x np)) (some n) (a8::suite) hpos] [] [] pos) (Ym X.N.length j X.K G tb th):=by
 intro g s σ H D I hw
 refine wpAny_Try_except (CZ (hb (X.pn++g) (λe s'=>∃E H1 m,Inv X g E H1 m/\CXe X.prog X.w X.stack H1 m _ e s') _ (λab E H1 m e s' L h=>⟨E,H1,m,L.unat I.ok,h⟩) [] s σ H D (I.at' _) hw) (λf m h1=>?_) (λe m h1=>?_))
 ·cases f with
  | next=>obtain⟨d,H',T,q⟩:=h1;exact AK g m d H' D (T.unat I.ok) q
  | brk=>obtain⟨d,H',T,q⟩:=h1;exact⟨d,H',T.unat I.ok,q⟩
  | cont=>obtain⟨d,H',T,q⟩:=h1;exact⟨d,H',T.unat I.ok,q⟩
  | ret u=>obtain⟨v,d,H',T,r,q⟩:=h1;exact⟨v,d,H',T.unat I.ok,r,q⟩
 obtain⟨E,H1,s0,L,a,C,t,H',B,rfl,F,a4,a',C',nC,e1,e2,oc,sub,q⟩:=h1
 cases e1
 cases e2
 have R:=L.stkFree
 have K:X.A.frames=some (X.env::X.outer):=by rw[<- a1];exact L.ok.frames
 rw[a1]at a4
 have a0:∀b o,s0.heap.get? b=some o->a≠b:=λb o e z=>by rw[<- z,F.fresh]at e;cases e
 refine wpAny_looks_onW K ac a4 λh4 Q a6=>?_
 refine wpAny_landsW Q λh5 w a3=>?_
 have A:m.heap.UpToSlots h5:=a6.trans a3
 have P:∀(h':Heap),B.StaysIn h'->m.heap.UpToSlots h'->Inv X g (replicate X.N.length none) H' { m with heap:=h' }:=λh' k aj=>by obtain⟨u,am⟩:=pS F R k aj;have I2:Inv X g E H' { m with heap:=h' }:=L.call' (s':={ m with heap:=h' }) (ch:=[]) F.os u am F.bare (λb z=>nomatch z);exact I2.weak (by rw[Fz];exact L.len.symm) λi v e=>by rw[OO]at e;split at e <;> cases e
 have I5:=P h5 w.1 A
 obtain⟨ao,ae,a2⟩:=cJ I5.kIn oc sub
 obtain⟨aa,a7⟩:=NW I5.kIn ag
 have M:aa.contains (.type "BaseException")=true:=by obtain⟨_,_,_,_,_,_,_,_,_,_,_,_,_,_,_,_,_,_,_,tl⟩:=a7;exact tl.hasType Sx.hasBase
 obtain⟨oe,ah,ai⟩:=w.there
 refine wpAny_handleBy_cons (codeAny_handlers_test (JB (X:=X.held a λ_ _=>False) (I5.held a _) hg hm ?_ ak)) (by intro q;cases q)
 refine lC ae a7 ah ai M a2 (codeAny_handlers_suite_as ?_)
 refine lands_againW w λh6 N a9=>?_
 have I6:=P h6 N.1 (A.trans a9)
 obtain⟨m0,ad,_⟩:=L.loc
 obtain⟨oL,_,_,al,_⟩:=ad
 have I7:=I6.track (a:=a) (C:=C) F.new (by
  cases z:X.s₀.heap.get? a with
  | none=>rfl
  | some o=>
   obtain⟨o',e'⟩:=L.base.there a o z (by rw[af];simp);rw[F.fresh]at e';cases e') (a0 _ _ al) (λy c e=>by
   obtain⟨v,ap,a5,_⟩:=L.cell y c e;exact a0 _ _ a5) (λp hp=>a0 _ _ (L.pin p hp).1) N.there
 have an:j<(replicate X.N.length (none:Option V)).length:=by rw[Fz];exact(Ay.mp hi).1
 refine Pp (X:=X.held a λ_ _=>False) (i:=j) (v:=.ref a) (I7.held a _) hN hi (.inl hk) U (λs7 I8=>?_) (.inr hk)
 refine CZ (hs a g s7 _ _ _ I8 (q F.new)) (λf s8 h8=>?_) (λ_ _ z=>z.elim)
 cases f with
 | next=>obtain⟨d,S,W,q9⟩:=h8;exact MB (X:=X) (W.unheld I.ok) hN hi hk λs9 l=>⟨_,S,l,q9⟩
 | brk=>obtain⟨d,S,W,q9⟩:=h8;exact MB (X:=X) (W.unheld I.ok) hN hi hk λs9 l=>⟨_,S,l,q9⟩
 | cont=>obtain⟨d,S,W,q9⟩:=h8;exact MB (X:=X) (W.unheld I.ok) hN hi hk λs9 l=>⟨_,S,l,q9⟩
 | ret u=>obtain⟨v,d,S,W,r,q9⟩:=h8;exact MB (X:=X) (W.unheld I.ok) hN hi hk λs9 l=>⟨v,_,S,l,r,q9⟩
section
variable {X:Cx}
def QU (o:PE X e te)(E:a.length<=1000) :
  PE X (.JoinedStr [.Constant (.str a) j p,.FormattedValue e 114 none p2] pos) (λf H Q=>te f H λv d=>∃x,v=.str x/\(reprText x).length<=100000/\Q (.str (a++reprText x)) d):=by
 intro b s f H Q I h
 have L:sizeLine=16777216:=AF
 refine JoinedStr_many (Oy (thn (Aw (X:=X) (x:=a) (j:=j) (pos:=p) b s f H (λv d=>v=.str a/\d=H) I ⟨U,U⟩) λu w c=>?_))
 obtain⟨v,d,l,m,r,n⟩:=c
 subst r n
 obtain⟨t,rfl⟩:=m
 have B:(Str.empty++a).length<=sizeLine:=by rw[Wf];lia
 refine⟨B,Oy (wpAny_FormattedValue_repr (thn (o b w f d _ l h) λD s2 c=>?_))⟩
 obtain⟨G,z,A,y,x,i,K,q⟩:=c
 subst i
 obtain⟨F,rfl⟩:=y
 have C:(a++reprText x).length=a.length+(reprText x).length:=by show(a.cps++(reprText x).cps).size=_;rw[Sb];rfl
 refine wpAny_pyReprObj_str ?_ Ψ
 refine formatField_str (λt' tk=>?_) Ψ
 have g:Str.empty++a++reprText x=a++reprText x:=by rw[Wf]
 refine⟨by rw[g];lia,joinParts_nil ⟨.str (a++reprText x),z,(A.tok _),⟨_,by rw[g]⟩,q⟩ (by rw[g];lia)⟩
def sA:Cs X (.builtin "isinstance") (λxs H Q=>∃a C,xs=[.ref a,.ref C]/\H a=some (GH a C)/\Q (.bl true) H):=by rintro b s h H xs us Q I r⟨a,C,rfl,f,q⟩;obtain⟨j,i,rfl,d,c⟩:=Kt r;cases d;cases c;obtain⟨⟨o,e,g⟩,_⟩:=I.hok a _ f;refine call_isinstance_of ?_ nofun;(unfold Builtin.«isinstance.nested»);refine Ac (OG e ?_);rw[g];rw[Ar (Kf _)];(repeat (first | refine Aj ?_ | refine G3 ?_ | apply Ac));exact⟨.bl true,H,I,U,q⟩
def rY (u:excIn X.K C El nC=true)(c:typeOf (.type "ValueError")=pure (.type "type")):Cs X (.builtin "isinstance") (λxs H Q=>∃a,xs=[.ref a,.ty "ValueError"]/\H a=some (GH a C)/\Q (.bl true) H):=by
 intro i s B H xs us Q I r h;obtain⟨a,rfl,v,q⟩:=h;obtain⟨E,D,rfl,n,y⟩:=Kt r;cases n;cases y;obtain⟨⟨o,f,j⟩,_⟩:=I.hok a _ v;obtain⟨bm,x⟩:=NW I.kIn u;obtain⟨N,nm,F,bs,hdct,sn,sub,ab,col,dd,k0,k1,k2,k3,k5,mN,w,G,A,l⟩:=x;have p:bm.contains (.type "ValueError")=true:=l.hasType Φ;have b:(Value.ref C::bm).contains (.type "ValueError")=true:=by rw[Si,p,Bool.or_true]
 refine call_isinstance_of ?_ (by intro e;cases e);(unfold Builtin.«isinstance.nested»);refine Ac (m:=typeOf (.ref a)) (OG f ?_);rw[j];show wpAny _ _ (if (Value.ref C == Value.type "ValueError")=true then _ else _) _ _ s;rw[Ak (by intro z;exact absurd (JW z) (by intro z;cases z))];refine Ac (m:=typeOf (.type "ValueError")) (J0 c ?_);(show wpAny _ _ (if (Value.type "type" == Value.type "type")=true then _ else _) _ _ s);rw[Ar Ξ];refine Ac (Ac (m:=isType (.type "ValueError")) (Aj (a:=true) ?_));refine Ac (m:=isInstance (.ref a) (.type "ValueError")) ?_;unfold isInstance;refine Ac (m:=typeOf (.ref a)) (OG f ?_);rw[j];(obtain⟨K,g,d,tk,os⟩:=s);refine Sr w ?_;rw[b];exact Aj (a:=true) (Aj ⟨.bl true,H,I,U,q⟩)
def Fun.okE {P:Program}{w:World}{K:W.Frag}{mg:Str->Option Value}{base:Heap}{x a:Str}{st:Stmt}{f:Addr}{e:FuncData}{N ps:List Str}{k:Nat}{sp:Sp}(F:Fun K x a st f e)(S:AI N ps (Aq st))(len:∀vs H Q E,sp vs H Q E->vs.length=ps.length)
  (b:∀(cdv:Value) (A:Around) (outer:List Env) (s:Shared) (H:Hp) (vs:List V) (Q:VK) (E:XK),Room k (A.deeper (envOfC a (Aq st) s.heap.objs.size f cdv))->sp vs H Q E -> ∃t,PSs (DO (CXe P w) P w K mg base N a (Aq st) f cdv A outer s H E) (B9 st) t/\t { nx:=λ_ H'=>Q .non H',rt:=Q } (start N vs) H):FnOk P w K mg base (CXe P w) (k+1) f e ps sp:=by
 obtain⟨n,o,kV,i,l,m,cdv,ct,h,rfl,g,c⟩:=F.ex
 exact V1 g c S len λA outer s H vs Q E j d=>b cdv A outer s H vs Q E j d
def U5 :EU (CXe P w) X E0:=λ_ _ _ _ _ _ _ ⟨_,_,_,_,_,_,_,_,q⟩=>q.elim
end
end L2
namespace L2
open PySem PySem.Spec PyProof.Rows
section
variable {X:Cx}
def Q9:F9 X "list.index" (λx xs H Q=>∃(l:Addr) (ys:List Str) (y:Str) (j:Nat),x=.ref l/\xs=[.str y]/\H l=some (.lst (ys.map V.str))/\ys[j]? = some y/\(∀m,m<j->ys[m]?≠some y)/\Q (.int (j:Int)) H):=by
 intro A s S H x xs v us Q I D F h;obtain⟨l,ys,y,j,rfl,rfl,P,B,g,q⟩:=h;cases D;obtain⟨u,rfl,L⟩:=F.one;obtain⟨z,a,n,r,R,e⟩:=I.lstM P;rw[Ai]at R z;have T:sizeLine=16777216:=AF
 have b:∀(m:Nat) (f:Str) (o:m<a.toArray.size),ys[m]? = some f->E6 (.str y) a.toArray[m]=(f == y):=λm f o G=>by
  obtain⟨u',E,K⟩:=r.get (i:=m) (x:=.str f) (by rw[AQ,G];rfl);have C:a.toArray[m]=u':=by obtain⟨_,h⟩:=Ay.mp E;simpa using h
  rw[C,Rv K rfl];rfl
 have N:j<ys.length:=(Ay.mp B).1;refine G1 OY ⟨_,e,U⟩ PySem.F.entry_list_index (PySem.F.args_list_index_2 _ _) (PySem.SeqAt.list_indexAt l a.toArray n none #[] u (E6 (.str y)) j (by rw[BJ];lia) Ψ ?_ ?_) ⟨e,λw M=>N5 L U r (Rk.flat_strs ys) w (by simpa using M),?_⟩
 ·rw[b j y _ B];exact Kf y
 ·intro m o p;have c:m<ys.length:=by lia
  rw[b m ys[m] o (AJ c)];have d:=g m p;rw[AJ c]at d;exact GV.mpr λz=>d (by rw[z])
 exact⟨.int (j:Int),H,I.tok _,⟨_,U⟩,q⟩
def W9 {a:Type}{xs:List a}{v:a}(h:xs.getLast? = some v):atI xs (-1)=some v:=by obtain⟨ys,rfl⟩:=Xj.mp h;exact sU ys v
def HU {A B:Prop}{x y:Str}(h:x=y)(a:A):if decide (V.str x=V.str y)=true then A else B:=by rw[AU (by rw[h])];exact a
def HV {A B:Prop}{x y:Str}(h:¬x=y)(b:B):if decide (V.str x=V.str y)=true then A else B:=by rw[BR (λz=>h (V.str.inj z))];exact b
def VB {A B:Prop}{x y:Str}(h:x=y)(b:B):if (!decide (V.str x=V.str y))=true then A else B:=by rw[AU (by rw[h])];exact b
def VC {A B:Prop}{x y:Str}(h:¬x=y)(a:A):if (!decide (V.str x=V.str y))=true then A else B:=by rw[BR (λz=>h (V.str.inj z))];exact a
def Wu (x y:Str):decide (V.str x=V.str y)=decide (x=y):=by
 by_cases h:x=y
 ·rw[AU h,AU (by rw[h])]
 rw[BR h,BR (λz=>h (V.str.inj z))]
end
section
variable {X:Cx}
def cQ (K:W.Frag)(h:X.K=K):Bz X (compareOp .In) (QL K false):=by subst h;exact Js
def N8 {Q:Hp->Prop}{H:Hp}{l:Addr}(ys:List Str)(xs:List V)(a:xs=ys.map V.str)(b:H l=none)(h:∀H',Same H H'->H' l=some (.lst (ys.map V.str))->Q H'):Q (Y H l (.lst xs)):=by subst a;exact h _ (Same.new b) Ag
end
def KD (P:Program)(w:World)(K:W.Frag)(a:Addr)(kvs:List (Key×V)):Prop:=
 (a == sysModules)=false/\∀h:Heap,K.In h->∃vs,KV kvs vs/\h.DictOf (BE P w) a vs
section
variable {X:Cx}{dv:List (Addr×Obj)}{σ:St}{H:Hp}{s:Shared}{a:Addr}{kvs:List (Key×V)}{k:Key}{u:Value}{A:Around}{E:Value->Shared->Prop}
def mW (I:Inv X dv σ H s)(g:KD X.prog X.w X.K a kvs)(l:Ax kvs k=some v)(f:RelV (kV k) u)(h:∀b s',Inv X dv σ H s'->RelV v b->Q b s') :
  wpAny (model X.prog X.w) A (getItem (.ref a) u) Q E s:=by
 obtain⟨vs,d,dd⟩:=g.2 _ I.kIn
 obtain⟨b,e,c⟩:=RelO.some_of (by rw[<- l];exact d.val k)
 exact wpAny_getItem_of (EH f) dd.mapOf e (h b _ (I.tok _) c)
def mU (I:Inv X dv σ H s)(g:KD X.prog X.w X.K a kvs)(c:RelV (kV k) u)(h:∀s',Inv X dv σ H s'->Q (.bool (Ax kvs k).isSome) s') :
  wpAny (model X.prog X.w) A (compareOp .In u (.ref a)) Q E s:=by
 obtain⟨vs,b,dd⟩:=g.2 _ I.kIn
 apply wpAny_in_of (EH c) g.1 dd.mapOf
 rw[<- (b.val k).isSome_eq]
 exact h _ (I.tok _)
def mX (I:Inv X dv σ H s)(g:KD X.prog X.w X.K a kvs)(d:RelV (kV k) u)(h:∀c s',Inv X dv σ H s'->RelV ((Ax kvs k).getD .non) c->Q c s') :
  wpAny (model X.prog X.w) A (call (.builtin "dict.get") [.ref a,u]) Q E s:=by
 obtain⟨vs,b,dd⟩:=g.2 _ I.kIn
 refine Ig Mi dd.typeIs SA (PySem.F.args_dict_get_2 _ _) (meets_dict_get (BE X.prog X.w) a (EH d) g.1) ⟨_,dd.mapOf,h _ _ (I.tok _) ?_⟩
 exact(b.val k).getD U
end
def Yy (P:Program)(w:World)(K:W.Frag)(td ty:TE):TE:=λσ H Q=>td σ H λx H1=>ty σ H1 λy H2=>∃a kvs k v,x=.ref a/\KD P w K a kvs/\y=kV k/\Ax kvs k=some v/\Q v H2
def Yw (P:Program)(w:World)(K:W.Frag)(ty td:TE):TE:=λσ H Q=>ty σ H λy H1=>td σ H1 λx H2=>∃a kvs k,x=.ref a/\KD P w K a kvs/\y=kV k/\Q (.bl (Ax kvs k).isSome) H2
def Yx (P:Program)(w:World)(K:W.Frag)(td ty:TE):TE:=λσ H Q=>td σ H λx H1=>∃a kvs,x=.ref a/\KD P w K a kvs/\ty σ H1 λy H2=>∃k,y=kV k/\Q ((Ax kvs k).getD .non) H2
section
variable {X:Cx}{o i e:Expr}{pos apos cpos:Pos}{td ty:TE}
def U1 (w:PE X o td)(m:PE X i ty)(q:S0 i):PE X (.Subscript o i pos) (Yy X.prog X.w X.K td ty):=by intro b s f H Q I h;refine T2 Xl.lookup q (thn (w b s f H _ I h) λu C d=>?_);obtain⟨x,z,p,n,G⟩:=d;refine thn (m b C f z _ p G) ?_;rintro iv s2⟨y,F,j,r,a,kvs,k,v,E,g,A,l,D⟩;subst E A;obtain rfl:u=Value.ref a:=n;obtain⟨vs,K,dd⟩:=g.2 _ j.kIn;exact⟨dd.typeIs,mW j g l r λL s3 B c=>⟨v,F,B,c,D⟩⟩
def cH (j:PE X i ty)(w:PE X o td):PC X .In i o (Yw X.prog X.w X.K ty td):=by intro b s c H Q I h;refine thn (j b s c H _ I h) ?_;rintro iv f⟨y,A,m,r,v⟩;refine thn (w b f c A _ m v) ?_;rintro u s2⟨x,q,z,l,a,kvs,k,p,g,B,n⟩;subst p B;obtain rfl:u=Value.ref a:=l;exact mU z g r λs3 d=>⟨.bl (Ax kvs k).isSome,q,d,U,n⟩
def U0 (z:PE X o td)(B:PE X e ty)(m:M1 X o "get" apos e cpos):PE X (.Call (.Attribute o "get" apos) [e] [] cpos) (Yx X.prog X.w X.K td ty):=by
 intro c s l H Q I h;refine wpAny_Call_method m.base m.few m.line Ml Mi PySem.F.type_dict_get (thn (z c s l H _ I h) λu E d=>?_);obtain⟨x,A,j,v,a,kvs,G,g,L⟩:=d;subst G;obtain rfl:u=Value.ref a:=v;obtain⟨vs,N,dd⟩:=g.2 _ j.kIn;obtain⟨r,es,ep,p,n,P⟩:=dd;refine⟨⟨r,p,n.1⟩,λb q=>?_,?_⟩
 ·cases q;exact⟨r,p,n.2.1⟩
 rw[m.trees];refine Mj U (OT (OP (thn (B c E l A _ j L) λiv s2 d=>?_)));obtain⟨y,K,M,w,k,C,F⟩:=d;apply Se;subst C;exact mX M g w λR s3 D f=>⟨_,K,D,f,F⟩
end
def Oa:Value->Option Key
 | .int i _=>some (.inl i)
 | .str x _=>some (.inr x)
 | _=>none
def Fx:List DictEntry->Option (List (Key×V))
 | []=>some []
 | e::r=>match Oa e.key,DS e.val,Fx r with
  | some k,some v,some kvs=>some ((k,v)::kvs)
  | _,_,_=>none
def Vx {k:Key}(h:Oa v=some k):Ei k v=true:=by
 cases v with
 | int i t=>cases h;exact Vz i t
 | str x t=>cases h;exact Vy x t
 | _=>cases h
def WE (h:Fx (e::r)=some l):∃k v kvs,Oa e.key=some k/\DS e.val=some v/\Fx r=some kvs/\l=(k,v)::kvs:=by
 unfold Fx at h;cases e1:Oa e.key with
 | none=>rw[e1]at h;cases h
 | some k=>
  cases e2:DS e.val with
  | none=>rw[e1,e2]at h;cases h
  | some v=>
   cases e3:Fx r with
   | none=>rw[e1,e2,e3]at h;cases h
   | some kvs=>rw[e1,e2,e3]at h;cases h;exact⟨k,v,kvs,U,U,U,U⟩
theorem WC :∀{es:List DictEntry}{kvs:List (Key×V)},Fx es=some kvs->∃vs,KV kvs vs/\Pairs (BE P w) es vs/\vs.map (·.1)=kvs.map (·.1)
 | [],_,h=>by cases h;exact⟨[],.nil,.nil,U⟩
 | e::r,l,h=>by obtain⟨k,v,kvs,d,f,g,rfl⟩:=WE h;obtain⟨vs,a,b,c⟩:=WC g;exact⟨(k,e.val)::vs,.cons ⟨U,Ff f⟩ a,.cons (Vx d) U b,by rw[Bg,Bg,c]⟩
theorem WD :∀{es:List DictEntry}{kvs:List (Key×V)},Fx es=some kvs->es.map (·.hash)=kvs.map (λg=>LF w g.1)->∀e∈es,∃k,(BE P w).is k e.key=true/\e.hash=(BE P w).hash k
 | [],_,_,_=>λe c=>nomatch c
 | e::r,l,h,hh=>λf c=>by
  obtain⟨k,v,kvs,d,j,i,rfl⟩:=WE h;rw[Bg,Bg]at hh;obtain⟨b,a⟩:=List.cons.inj hh;rcases(Az.mp c)with z | z
  ·subst z;exact⟨k,Vx d,b⟩
  exact WD i a f z
def VA {P:Program}{w:World}{K:W.Frag}{a:Addr}{es:Array DictEntry}{ep:Nat}{kvs:List (Key×V)}(l:K.lookup a=some ⟨.type "dict",none,.dict es ep,#[]⟩)(n:(a == sysModules)=false)(c:Fx es.toList=some kvs)
  (d:es.toList.map (·.hash)=kvs.map (λm=>LF w m.1))(nd:(kvs.map (·.1)).Nodup):KD P w K a kvs:=by
 refine⟨n,λh b=>?_⟩
 obtain⟨vs,g,f,i⟩:=WC c
 refine⟨vs,g,_,es,ep,b _ _ l,⟨U,U,U⟩,U,λe j=>WD c d e (by simpa using j),f,i▸nd⟩
end L2
namespace SK
end SK
namespace L2
open PySem
def Qv {ps:List Str}(h:ps.Nodup):(SK.dd (Bx (ps.map (Sum.inr:Str->Key))) (ps.map (Sum.inr:Str->Key)).length).length=ps.length:=by
 have d:(ps.map (Sum.inr:Str->Key)).length=ps.length:=Ai ..;rw[SK.dd_full (n:=ps.length) (λi j b f e=>?_) _ Ψ,d];have a:Bx (ps.map (Sum.inr:Str->Key)) i=Sum.inr ps[i]:=by simp[Bx,List.getD,b]
 have c:Bx (ps.map (Sum.inr:Str->Key)) j=Sum.inr ps[j]:=by simp[Bx,List.getD,f]
 rw[a,c]at e;exact(F3 h).mp (C0 e)
def RK (d:H a=some (.tup xs))(c:H b=some (.tup ys))(f:xs.length+ys.length<=sizeLine)(h:∀(t:Addr) (H':Hp),Same H H'->H' t=some (.tup (xs++ys))->Q (.ref t) H'):UJ K (.ref a) (.ref b) H Q:=by
 refine⟨a,b,xs,ys,U,U,SqT.of d,SqT.of c,f,λe=>?_,λ_ e=>?_,λ_ _ p g=>?_⟩
 ·subst e;exact h b H (Same.refl _) c
 ·subst e;exact h a H (Same.refl _) (by rw[Cc];exact d)
 exact h p _ (Same.new g) Ag
end L2
namespace HT
open PySem PySem.Spec PyProof.Rows
end HT
namespace L2
open PySem PySem.Spec PyProof.Rows
section
variable {X:Cx}
def NL (ok:HOk P w H h) (e:H a=some (.lst us))(r:RdVs H us ds):∃as,Reads h (.ref a) (.list ds) as:=by obtain⟨z,b,n,d,c⟩:=ok a _ e;obtain⟨as,f⟩:=RdVs.reads ok r d;exact⟨_,.list c U U (by simpa using f)⟩
end
end L2
namespace ZT
open PySem PyProof.Rows
end ZT
namespace F17
open PySem
end F17
namespace L2
open PySem PySem.Spec PyProof.Rows
section
variable {X:Cx}{dv:List (Addr×Obj)}{σ:St}{H:Hp}{s:Shared}
def Inv.trackF (I:Inv X dv σ H s)(a:FpOk X dv H S)(new:ObjOk X.prog X.w (Y H S ob) s.heap S ob):Inv X dv σ (Y H S ob) s:=by
 refine I.step (ch:=[S]) (λb d=>?_) (λb o _ _ _ e _=>e) (λb o _ _ _ e _=>⟨o.slots,e⟩) (λb o g _ n=>?_) (λb o _ e=>⟨o,e⟩)
  (λb xs e=>by rw[Af (Au e a.1)];exact e) (λb o xs e=>by rw[Af (Au e a.1)];exact e) (λb ps e=>⟨#[],by rw[Af (Au e a.1),e];simp⟩) (λm f=>f) (λb u e=>?_) I.bare
 ·rw[AR]at d;subst d;exact⟨a.2.2.2.1,a.2.1,a.2.2.2.2.1,a.2.2.2.2.2⟩
 ·rw[Af (λz=>g (AR.mpr z))];exact n
 by_cases d:b=S
 ·subst d;rw[Ag]at e;cases e;exact new
 rw[Af d]at e;exact(I.hok b u e).stay (λc v _ q=>q) (λc q=>by rw[Af (Au q a.1)];exact q) λc xs q=>by rw[Af (Au q a.1)];exact q
def Qw (h:H r=none):Same H (Y H r o):=λb u e=>by rw[Af (Au e h)];exact e
end
end L2
namespace SG
open PySem
def Rs (xs:Array Nat):Prop:=∀(i j:Nat) (a b:Nat),i<j->xs[i]? = some a->xs[j]? = some b->a<b
def Zj (r:Rs xs)(v:Nat):∀(f lo hi:Nat),hi-lo<=f->lo<=hi->hi<=xs.size->(∀(i a:Nat),i<lo->xs[i]? = some a->a<v)->(∀(i a:Nat),hi<=i->xs[i]? = some a->v<=a) ->
  SetTable.below.go xs v f lo hi<=xs.size/\(∀(i a:Nat),i<SetTable.below.go xs v f lo hi->xs[i]? = some a->a<v)/\(∀(i a:Nat),SetTable.below.go xs v f lo hi<=i->xs[i]? = some a->v<=a):=by
 intro f
 induction f with
 | zero=>
  intro lo hi o n d l u;have e:lo=hi:=by lia
  subst e;exact⟨d,l,u⟩
 | succ f ih=>
  intro lo hi o n d l u;unfold SetTable.below.go;split
  ·rename_i lt;have j:(lo+hi) / 2<xs.size:=by lia
   have m:xs.getD ((lo+hi) / 2) v=xs[(lo+hi) / 2]:=by simp[Array.getD,j]
   have b:=ES j;dsimp only;rw[m];split
   ·rename_i c;refine ih _ _ Ψ Ψ d (λi a h e=>?_) u;rcases FB i ((lo+hi) / 2)with z | z
    ·exact JU (r i _ a _ z e b) c
    have g:i=(lo+hi) / 2:=by lia
    subst g;rw[b]at e;cases e;exact c
   rename_i c;refine ih _ _ Ψ Ψ Ψ l (λi a h e=>?_);rcases FB ((lo+hi) / 2) i with z | z
   ·exact Ib (lt_of_le_of_lt (le_of_not_lt c) (r _ i _ a z b e))
   have g:i=(lo+hi) / 2:=by lia
   subst g;rw[b]at e;cases e;exact le_of_not_lt c
  rename_i c;have e:lo=hi:=by lia
  subst e;exact⟨d,l,u⟩
def place (r:Rs xs)(v:Nat):SetTable.below xs v<=xs.size/\(∀(i a:Nat),i<SetTable.below xs v->xs[i]? = some a->a<v)/\(∀(i a:Nat),SetTable.below xs v<=i->xs[i]? = some a->v<=a):=
 Zj r v xs.size 0 xs.size Ψ (Bn _) (An _) (λi a h=>by lia) (λi a h e=>by have:=(SR.mp e).1;lia)
def bJ (r:Rs xs){k:Nat}(h:k<=xs.size)(l:∀(i a:Nat),i<k->xs[i]? = some a->a<v)(u:∀(i a:Nat),k<=i->xs[i]? = some a->v<=a):SetTable.below xs v=k:=by
 obtain⟨j,f,g⟩:=place r v;rcases Nat.lt_trichotomy (SetTable.below xs v) k with z | z | z
 ·have b:SetTable.below xs v<xs.size:=by lia
  have e:=ES b;have d:=l _ _ z e;have c:=g _ _ (An _) e;lia
 ·exact z
 have b:k<xs.size:=by lia
 have e:=ES b;have d:=f _ _ z e;have c:=u _ _ (An _) e;lia
def LH {b:Type}(xs:Array b){p:Nat}(f:p<=xs.size)(x:b)(i:Nat):(SetTable.insertAt xs p x)[i]? = if i<p then xs[i]? else if i=p then some x else xs[i-1]?:=by
 have h:(SetTable.insertAt xs p x).toList=xs.toList.take p++x::xs.toList.drop p:=by rw[SetTable.toList_insertAt]
 rw[<- JP,h,<- JP,<- JP];have e:(xs.toList.take p).length=p:=by rw[Bh,DF];lia
 split
 ·rename_i c;rw[Da Ψ,List.getElem?_take,Ar c]
 rename_i c;rw[ER Ψ,e];split
 ·rename_i a;subst a;simp
 rename_i a;obtain⟨d,rfl⟩:∃d,i=p+(d+1):=⟨i-p-1,Ψ⟩;rw[show p+(d+1)-p=d+1 by lia,List.getElem?_cons_succ,Sh];congr 1
def ZW (r:Rs xs) (h:¬xs[SetTable.below xs v]? = some v):Rs (SetTable.insertAt xs (SetTable.below xs v) v):=by
 obtain⟨w,s,l⟩:=place r v
 have u:∀i a,SetTable.below xs v<=i->xs[i]? = some a->v<a:=by
  intro i a g e;rcases FB v a with z | z
  ·exact z
  have y:=l i a g e;have n:a=v:=by lia
  subst n;rcases Nat.eq_or_lt_of_le g with q | q
  ·rw[q]at h;exact absurd e h
  have p:SetTable.below xs a<xs.size:=by have:=(SR.mp e).1;lia
  have m:=ES p;have A:=r _ _ _ _ q m e;have x:=l _ _ (An _) m;lia
 intro i j a b f d c;rw[LH _ w]at d c;split at d
 ·rename_i o;split at c
  ·exact r i j a b f d c
  split at c
  ·cases c;exact s i a o d
  exact r i (j-1) a b Ψ d c
 split at d
 ·cases d;split at c
  ·lia
  split at c
  ·lia
  exact u (j-1) b Ψ c
 split at c
 ·lia
 split at c
 ·lia
 exact r (i-1) (j-1) a b Ψ d c
def Ur {l:List Nat}(h:l.Pairwise (· < ·)):Rs l.toArray:=by intro i j a b c e d;rw[R7]at e d;obtain⟨f,rfl⟩:=Ay.mp e;obtain⟨g,rfl⟩:=Ay.mp d;exact pairwise_iff_getElem.mp h i j f g c
def Uq (n:Nat):Rs (Array.range n):=by
 have:Array.range n=(List.range n).toArray:=by simp
 rw[this];exact Ur pairwise_lt_range
def ZV:Rs #[]:=λi j a b _ e=>by simp at e
structure Tk (t t':SetTable):Prop where
 rs:Rs t'.place
 led:t'.led=t.led
def Pq (t:SetTable)(n:Nat):Tk t (t.standIn n):=⟨Uq n,U⟩
def oZ {t:SetTable} :∀(n:Nat) (p:SetTable.Probe) (j:Nat) (d:Option Nat),(∀v,p.dummy=some v->¬t.place[SetTable.below t.place v]? = some v)->SetTable.probe.go t f h n p=some (.empty j d) ->
  ¬t.place[SetTable.below t.place (d.getD j)]? = some (d.getD j):=by
 intro n
 induction n with
 | zero=>intro p j d _ e;cases e
 | succ n ih=>
  intro p j d c e;unfold SetTable.probe.go at e;split at e
  ·rename_i b;cases e;cases hpd:p.dummy with
   | some v=>exact c v hpd
   | none=>show ¬t.place[SetTable.below t.place p.j]? = some p.j;intro z;unfold SetTable.slot at b;simp[z]at b
  ·rename_i b;refine ih _ j d (λv a=>?_) e;have g:v=p.j:=by unfold SetTable.advance at a;split at a <;> simp at a <;> exact a.symm
   subst g;intro z;unfold SetTable.slot at b;simp[z]at b
  split at e
  ·cases e
  refine ih _ j d (λv a=>c v ?_) e;unfold SetTable.advance at a;split at a <;> simpa using a
def mB {t:SetTable}(r:Rs t.place)(es:Array (Int×Value))(h:Int)(x:Value):Tk t (layNew t es h x).2.1:=by
 unfold layNew;split
 ·rename_i b wd a;unfold SetTable.freeSlot at a;split at a
  ·rename_i j d e;have f:=oZ _ _ j d (λv c=>by unfold SetTable.probeStart at c;simp at c) e;cases a;show Tk t ((t.put (d.getD j)).1.orStandIn _);unfold SetTable.orStandIn;split
   ·exact⟨ZW r f,U⟩
   exact⟨Uq _,U⟩
  cases a
 exact Pq t _
def Z2 {t:SetTable}(es:Array (Int×Value))(m:Nat):Tk t (relayAll t es m).2.1:=by
 unfold relayAll;split
 ·rename_i t' b e;unfold SetTable.relaid SetTable.laid at e;cases ho:SetTable.layClean (SetTable.sizeAbove m-1) (es.map (·.1))with
  | none=>rw[ho]at e;cases e
  | some owner=>
   rw[ho]at e;have d:some _=some (t',b):=e;cases d;dsimp only;split
   ·refine⟨?_,U⟩;dsimp only;refine Ur ?_
    have c:∀l:List Nat,(List.map (λx=>x.1) (l.filterMap λj=>(owner.getD j none).map (j,·))).Sublist l:=by
     intro l;induction l with
     | nil=>exact List.Sublist.slnil
     | cons a r ih=>
      rw[Kb];cases hh:owner.getD a none with
      | none=>exact List.Sublist.cons _ ih
      | some v=>exact List.Sublist.cons₂ _ ih
    exact List.Pairwise.sublist (c _) pairwise_lt_range
   exact Pq t _
 exact Pq t _
theorem perm_of {b:Type}[DecidableEq b]:∀{l m:List b},l.Nodup->(∀x∈l,x∈m)->m.length<=l.length->m.Perm l
 | [],m,_,_,h=>by
  cases m with
  | nil=>exact L4 _
  | cons a r=>simp at h
 | a::l,m,nd,sub,h=>by (obtain⟨f,g⟩:=B6.mp nd);have d:=List.perm_cons_erase (sub a A9);exact d.trans ((perm_of g (λx c=>(List.mem_erase_of_ne (λ(e:x=a)=>f (e ▸ c))).mpr (sub x (AY _ c))) (by have:=d.length_eq;rw[Cy]at this h;lia)).cons a)
structure Gd (w:World)(t:SetTable):Prop where
 rs:Rs t.place
 led:t.led=!w.params.followText "set-order"
def Gd.tk {t:SetTable}(g:Gd w t)(k:Tk t r):Gd w r:=⟨k.rs,k.led.trans g.led⟩
abbrev EE (es:Array (Int×Value))(ep:Nat)(t:SetTable):Obj:={ cls:=.type "set",dict:=none,data:=.set es ep t,slots:=#[] }
section
variable {prog:Program}{w:World}{κ:Type} [DecidableEq κ] (knd:KeyKind prog w κ)
structure S3 (S:κ->Bool)(n:Nat)(es:Array (Int×Value))(t:SetTable):Prop where
 el:ElemsOf knd es.toList
 me:∀k,S k=true↔∃e∈es.toList,knd.is k e.2=true
 bd:es.size<scanBound
 ft:t.fits es.size=true
 sz:es.size=n
 gd:Gd w t
def SetG (h:Heap)(b:Addr)(S:κ->Bool)(n:Nat):Prop:=∃es ep t,h.get? b=some (EE es ep t)/\S3 knd S n es t
variable {knd}{A:Around}{E:Value->Shared->Prop}{s:Shared}
def UP {h:Heap}{b:Addr}{es us:Array (Int×Value)}{ep:Nat}{t r:SetTable}(a:h.get? b=some (EE es ep t)):(h.update b (Obj.putSet us r)).get? b=some (EE us (ep+1) r):=
 Mh (Obj.putSet us r) a U
def after {g:Bool->Sem Unit}(n:∀(c:Bool) (z:Shared) (F:Unit->Shared->Prop),F () z->wpAny (model prog w) A (g c) F E z){b:Addr}{es us:Array (Int×Value)}{ep:Nat}{t r:SetTable}
  (j:s.heap.get? b=some (EE es ep t)){S:κ->Bool}(q:S3 knd S us.size us r){wd:Bool}{m:Option Bool->Shared->Prop}
  (fin:∀h',Heap.SameBut b s.heap h'->SetG knd h' b S us.size->m (some true) { s with heap:=h' }) :
  wpAny (model prog w) A (do
   storeSet b us r
   if (!wd && r.tooFull)=true then do
     g (relayAll r us (SetTable.grown us.size)).2.2
     storeSet b (relayAll r us (SetTable.grown us.size)).1 (relayAll r us (SetTable.grown us.size)).2.1
     pure (some true)
    else pure (some true)) m E s:=by
 refine Ac (wpAny_storeSet_of j U ?_ (fits_of_scanBound q.bd))
 have f:=UP (us:=us) (r:=r) j
 have i:=FX s.heap b (Obj.putSet us r)
 split
 ·have a:=relayAll_perm r us (SetTable.grown us.size);have fr:=relayAll_fits r us (SetTable.grown us.size);have tk:=Z2 (t:=r) us (SetTable.grown us.size);generalize relayAll r us (SetTable.grown us.size)=Z at a fr tk ⊢;obtain⟨ys,o,p⟩:=Z;have l:ys.size=us.size:=by rw[<- DF,a.length_eq,DF]
  have d:ys.size<scanBound:=by rw[l];exact q.bd
  refine Ac (n _ _ _ (Ac (wpAny_storeSet_of f U (Aj (fin _ (i.trans (FX _ b _)) ⟨ys,_,o,UP f,q.el.perm a,λk=>(q.me k).trans ⟨?_,?_⟩,d,fr,l,q.gd.tk tk⟩)) (fits_of_scanBound d))))
  ·rintro⟨e,h,z⟩;exact⟨e,a.mem_iff.mpr h,z⟩
  rintro⟨e,h,z⟩;exact⟨e,a.mem_iff.mp h,z⟩
 exact Aj (fin _ i ⟨us,_,r,f,q⟩)
def tH {k:κ} (d:knd.is k x=true)(sc:x.scannable=true)(g:SetG knd s.heap b S n)(q:n+1<scanBound)
  (fin:∀h',Heap.SameBut b s.heap h'->SetG knd h' b (λy=>S y || decide (y=k)) (if S k then n else n+1)->Q (!S k) { s with heap:=h' }) :
  wpAny (model prog w) A (setAddHashed b x (knd.hash k)) Q E s:=by
 obtain⟨es,ep,t,o,i⟩:=g
 (unfold setAddHashed setAddHashedIn)
 refine Dj (Ac (Mb o U i.ft ?_))
 dsimp only
 rw[byScan_of sc i.bd i.el]
 simp only[↓reduceIte]
 unfold setAddByScan
 refine Ac (Ac (G3 (Ac (wpAny_setScan_of d o U i.ft i.el ?_))))
 cases hfi:List.findIdx? (λe=>knd.is k e.2) es.toList with
 | some j=>
  dsimp only;obtain⟨K,G,_⟩:=List.findIdx?_eq_some_iff_getElem.mp hfi;have h:S k=true:=(i.me k).mpr ⟨_,CI K,G⟩;have z:=fin s.heap (Heap.SameBut.refl b s.heap) ⟨es,ep,t,o,i.el,λy=>?_,i.bd,i.ft,by rw[h];exact i.sz,i.gd⟩
  ·rw[h]at z;(exact Aj (Aj z))
  rw[<- i.me y,R0,Kh];exact⟨λc=>c.elim id λe=>e ▸ h,.inl⟩
 | none=>
  dsimp only;have v:S k=false:=by refine Bool.eq_false_iff.mpr λc=>?_;obtain⟨e,D,H⟩:=(i.me k).mp c;exact Bool.noConfusion ((List.findIdx?_eq_none_iff.mp hfi e D).symm.trans H)
  have quiet:∀(c:Bool) (z:Shared) (F:Unit->Shared->Prop),F () z->wpAny (model prog w) A (match c with | true=>rule "set.scan.the-table-gave-way" | false=>pure ()) F E z:=λc z F f=>by
   cases c
   ·exact Aj f
   exact G3 f
  have l:=layNew_perm t es (knd.hash k) x;have fr:=layNew_fits t es (knd.hash k) x;have tk:=mB i.gd.rs es (knd.hash k) x;generalize layNew t es (knd.hash k) x=Z at l fr tk ⊢;obtain⟨us,M,wd,L⟩:=Z;dsimp only at l fr tk ⊢;rw[Array.toList_push]at l;have I:us.size=n+1:=by rw[<- DF,l.length_eq,AG,DF,i.sz];rfl
  refine Ac (quiet _ _ _ ?_);have u:∀r:SetTable,r.fits us.size=true->Gd w r->S3 knd (λy=>S y || decide (y=k)) us.size us r:=λr C B=>⟨(i.el.push d sc).perm l,mem_push_iff d i.me l,Ψ,C,U,B⟩;have a:∀h',Heap.SameBut b s.heap h'->SetG knd h' b (λy=>S y || decide (y=k)) us.size->Q true { s with heap:=h' }:=λh' p m=>by have z:=fin h' p;rw[v]at z;rw[I]at m;exact z m
  split
  ·refine Ac ?_;rw[hashByValue_scannable 8 sc];refine Aj (after (knd:=knd) quiet o (u _ ?_ ?_) λh' p m=>Aj (a h' p m))
   ·split
    ·exact fr
    exact SetTable.fits_plain_off fr
   split
   ·exact i.gd.tk tk
   exact⟨tk.rs,tk.led.trans i.gd.led⟩
  refine Ac (Aj (?_:_));simp only[↓reduceIte];exact after (knd:=knd) quiet o (u _ fr (i.gd.tk tk)) λh' p m=>Aj (a h' p m)
end
end SG
namespace SG
open PySem
open Sem (wp)
def sl_next:Slot "set_iterator" "__next__" "set_iterator.__next__" := .of (owner := "set_iterator") (n := "__next__") (by rw[OC,OV];kernel_rfl)
 Δ Δ Δ (by first | exact .inl Δ | exact .inr Δ)
 (by rw[isSubtype_type];kernel_rfl)
def Wc:entryFor table "set_iterator.__next__" = some Builtin.«set_iterator.__next__»:=entryFor_of_fast (by kernel_rfl)
def Xa (v:Value):argsOk "set_iterator.__next__" ⟨[v],[]⟩:=by kernel_rfl
def qG:entryFor table "set.__iter__" = some Builtin.«frozenset.__iter__»:=entryFor_alias (id' := "frozenset.__iter__") (by kernel_rfl) U Δ (by kernel_rfl)
section
variable {prog:Program}{w:World}{A:Around}{E:Value->Shared->Prop}{s:Shared}
def XS (h0:n≠0)(q:∀i d,i<n->Q i { s with drawn:=d }):wpAny M A (choose src n) Q E s:=λa p _=>by show wp M a (.choose src n .pure) _ _ p s;rw[Sem.wp_choose];exact⟨h0,q _ _ (mod_lt _ (Nat.pos_of_ne_zero h0))⟩
theorem Rr {b:Type}:∀{l:List b}{i:Nat}(h:i<l.length),(l[i]::l.eraseIdx i).Perm l
 | [],i,h=>nomatch h
 | a::r,0,_=>L4 _
 | a::r,i+1,h=>((List.Perm.swap a _ _).symm.symm).trans ((Rr (Nat.lt_of_succ_lt_succ h)).cons a)
theorem Wh {M:Model}{b:Type}:∀(n:Nat) (xs:List b),xs.length=n->∀(s:Shared) (Q:List b->Shared->Prop),(∀ys d,ys.Perm xs->Q ys { s with drawn:=d })->wpAny M A (drawOrder n xs) Q E s
 | 0,xs,h,s,Q,q=>by obtain rfl:=Sg.mp h;exact Aj (q [] s.drawn (L4 _))
 | n+1,[],h,_,_,_=>by cases h
 | n+1,x::xs,h,s,Q,q=>by refine Ac (XS Θ λi d a=>?_);rw[(AJ a)];refine Ac (Wh n _ (by rw[Xo a,h];rfl) _ _ λys c p=>Aj (q _ c ((p.cons _).trans ?_)));exact Rr a
abbrev Jt (f:Value)(i:Nat)(b:Addr)(n ep:Nat):Obj:={ cls:=.type "set_iterator",dict:=none,data:=.fields #[f,.int i 0,.ref b,.int n 0,.int ep 0],slots:=#[] }
abbrev N1 (ps:List Nat):Obj:={ cls:=.type "tuple",dict:=none,data:=.seq (ps.map λ(i:Nat)=>rawInt i).toArray 0,slots:=#[] }
def Hi (t:SetTable):Nat->Nat
 | 0=>0
 | k+1=>t.place.getD k 0+1
theorem UV {b:Type}(f:Nat->Nat):∀(n k:Nat) (xs:List b) (out:Array b),xs.length=n->(pickOrder.go f n k xs out).toList.Perm (out.toList++xs)
 | 0,k,xs,out,h=>by obtain rfl:=Sg.mp h;rw[Cc];exact L4 _
 | n+1,k,xs,out,h=>by have a:f k % xs.length<xs.length:=mod_lt _ Ψ;unfold pickOrder.go;rw[AJ a];dsimp only;refine(UV f n (k+1) _ _ (by rw[Xo a,h];rfl)).trans ?_;rw[Array.toList_push,Di];exact(Rr a).append_left _
def UU {a:Type}(f:Nat->Nat)(xs:Array a):(pickOrder f xs).toList.Perm xs.toList:=by have:=UV f xs.size 0 xs.toList #[] Θ;rw[OD]at this;exact this
inductive Way (w:World)(b:Addr)(es:Array (Int×Value))(ep:Nat)(t:SetTable):(Nat->Value)->List (Addr×Obj)->List Value->Prop
 | text:w.params.followText "set-order" = true->Way w b es ep t (λ_=>.int 0 0) [] ((pickOrder (w.params.setOrder b ep) es).toList.map (·.2))
 | slots:w.params.followText "set-order" = false->(!t.plain && decide (es.size > 1))=false->Way w b es ep t (λi=>.int (Hi t i) 0) [] (es.toList.map (·.2))
 | drawn (T:Addr) (ps:List Nat):w.params.followText "set-order" = false->ps.Perm (List.range es.size)->Way w b es ep t (λ_=>.ref T) [(T,N1 ps)] (ps.map λi=>((es[i]?).map (·.2)).getD .none)
def Way.perm {t:SetTable} (y:Way w b es ep t f nw ys):ys.Perm (es.toList.map (·.2)):=by
 cases y with
 | text _=>exact(UU _ es).map _
 | slots _ _=>exact L4 _
 | drawn T ps _ h=>refine(h.map _).trans (List.Perm.of_eq ?_);refine ext_getElem Θ λi a c=>?_;rw[Ai,Em]at a;simp[a]
def MK {t:SetTable} (d:s.heap.get? b=some (EE es ep t))(a:t.fits es.size=true) :
  (w.params.followText "set-order" = true->Q (((pickOrder (w.params.setOrder b ep) es)[i]?).map λe=>(e.2,slot)) s) ->
  (w.params.followText "set-order" = false->(!t.plain && decide (es.size > 1))=false/\t.led=true/\Q (match es[SetTable.below t.place slot]?,t.place[SetTable.below t.place slot]? with | some (_,x),some j=>some (x,j+1) | _,_=>none) s) ->
  wpAny (model prog w) A (setNext b slot i ep) Q E s:=by
 intro g n
 unfold setNext
 refine Ac (Mb d U a ?_)
 dsimp only
 unfold setsByText
 (refine Ac (Ac (L9 (Aj ?_))))
 cases hb:w.params.followText "set-order" with
 | true=>have e:(model prog w).w.params.followText "set-order" = true:=hb;simp only[e,↓reduceIte];(simp only[Sa,E8,↓reduceIte]);refine Ac ?_;unfold setWalk setsByText;refine Ac (Mb d U a ?_);dsimp only;(refine Ac (Ac (L9 (Aj ?_))));simp only[e,↓reduceIte];exact Ac (L9 (Aj (Aj (g hb))))
 | false=>
  have e:(model prog w).w.params.followText "set-order" = false:=hb;obtain⟨m,l,h⟩:=n hb;simp only[e,E8,↓reduceIte];split
  ·rename_i c;have f:(!t.plain && decide (es.size > 1))=true:=c;rw[m]at f;cases f
  refine Ac ?_;show wpAny _ _ (if (!t.led && !es.isEmpty)=true then unsupported "set:maker-not-led" else pure PUnit.unit) _ _ _;rw[l];exact Aj (Aj h)
def Ua {t:SetTable}(r:Rs t.place) (h:i<=t.place.size):SetTable.below t.place (Hi t i)=i:=by
 refine bJ r h (λj a f e=>?_) (λj a f e=>?_)
 ·cases i with
  | zero=>lia
  | succ k=>
   have b:k<t.place.size:=h;have c:t.place[k]? = some t.place[k]:=ES b;have d:Hi t (k+1)=t.place[k]+1:=by show t.place.getD k 0+1=_;simp[Array.getD,b]
   rw[d];rcases FB j k with z | z
   ·exact G6 (r j k _ _ z e c)
   obtain rfl:j=k:=by lia
   rw[c]at e;cases e;exact G5 _
 cases i with
 | zero=>exact Bn _
 | succ k=>
  have b:k<t.place.size:=h;have c:t.place[k]? = some t.place[k]:=ES b;have d:Hi t (k+1)=t.place[k]+1:=by show t.place.getD k 0+1=_;simp[Array.getD,b]
  rw[d];exact r k j _ _ f c e
def YT {α:Type}{Q:α->Shared->Prop}(hh:A.handled=none)(q:∀h' e,(∀b o,s.heap.get? b=some o->h'.get? b=some o)->(∃o,h'.get? e=some o/\o.cls=.type "StopIteration")->E (.ref e) { s with heap:=h' }) :
  wpAny (model prog w) A (newExc (.type "StopIteration") [] >>= λe=>(raiseNew e:Sem α)) Q E s:=by
 apply Ac
 simp[newExc,newTuple]
 (refine Ac (DZ ?_ (by size_fits)))
 (refine Ac (J0 (by first | rfl | (simp[firstArgMember];rfl)) ?_))
 (refine DZ ?_ (by size_fits))
 simp only[raiseNew]
 (refine Ac (wpAny_handled ?_))
 rw[hh]
 (refine Ac (Aj (wpAny_throw ?_)))
 exact q _ _ (λb o e=>AV _ (AV _ e)) ⟨_,Bs _ U,U⟩
def YV {t:SetTable} (y:Way w b es ep t f nw ys)(g:Gd w t)(a:t.fits es.size=true)
  (n:s.heap.get? I=some (Jt (f i) i b es.size ep))(o:s.heap.get? b=some (EE es ep t))(N:∀p∈nw,s.heap.get? p.1=some p.2)(d:ys[i]? = some v)
  (q:∀h',h'.get? I=some (Jt (f (i+1)) (i+1) b es.size ep)->Heap.SameBut I s.heap h'->Q (some v) { s with heap:=h' }):wpAny (model prog w) A (pyNext (.ref I)) Q E s:=by
 have H:s.TypeIs (.ref I) "set_iterator" := ⟨_,n,U⟩
 unfold pyNext
 refine Ac (J9 (F0 (name:=Str.ofString "__next__") H sl_next (DC sl_next H Wc ?_ (Xa _))))
 unfold Builtin.«set_iterator.__next__»
 refine Ac (m:=slotArgs "__next__" 0 _) (Aj ?_)
 refine Ac (Ox n U ?_)
 dsimp only
 refine Ac (Sq o U a ?_)
 rw[Ak Θ]
 have P:t.place.size=es.size:=by unfold SetTable.fits at a;simp only[BV,FC]at a;exact a.1
 cases y with
 | text C=>simp only[C9];rw[AQ,JP]at d;obtain⟨e,u,rfl⟩:=L7.mp d;refine Ac (MK o a (λ_=>?_) (λc=>by rw[C]at c;cases c));rw[u];refine Ac (FW n Θ λD h j=>Ac (FW h Θ λr B F=>Aj ⟨e.2,U,Aj (q r B (j.trans F))⟩))
 | slots c hd=>
  simp only[C9];rw[AQ,JP]at d;obtain⟨e,u,rfl⟩:=L7.mp d;have R:=(SR.mp u).1;have x:t.place[i]? = some t.place[i]:=ES Ψ;refine Ac (MK o a (λC=>by rw[C]at c;cases c) (λ_=>⟨hd,by rw[g.led,c];rfl,?_⟩));rw[Ua g.rs Ψ,u,x];refine Ac (FW n Θ λD h j=>Ac (FW h Θ λr B F=>Aj ⟨e.2,U,Aj (q r ?_ (j.trans F))⟩));have M:Hi t (i+1)=t.place[i]+1:=by show t.place.getD i 0+1=_;simp[Array.getD,show i<t.place.size by lia]
  show r.get? I=some (Jt (.int ((Hi t (i+1):Nat):Int) 0) (i+1) b es.size ep);rw[M];exact B
 | drawn T ps c hp=>
  simp only[C9];rw[AQ]at d;obtain⟨p,l,rfl⟩:=L7.mp d;have G:p<es.size:=Do.mp (hp.mem_iff.mp (Br l));refine Ac (Kc (N (T,N1 ps) (AR.mpr U)) U ?_);dsimp only;have L:(ps.map λ(i:Nat)=>rawInt i).toArray[i]? = some (Value.int p 0):=by rw[R7,AQ,l];rfl
  rw[L];dsimp only;have K:es[p]? = some es[p]:=ES G;refine Ac (m:=setNextDrawn b _ _) ?_;unfold setNextDrawn;refine Ac (Mb o U a ?_);dsimp only;simp only[C9,Sa,E8,↓reduceIte,K];refine Aj (Ac (FW n Θ λD h j=>Aj ⟨_,U,Aj ?_⟩));have z:=q D h j;rw[K]at z;exact z
def YW {t:SetTable} (hh:A.handled=none)(y:Way w b es ep t f nw ys)(g:Gd w t)(ft:t.fits es.size=true)
  (hI:s.heap.get? I=some (Jt (f es.size) es.size b es.size ep))(hb:s.heap.get? b=some (EE es ep t))(hn:∀p∈nw,s.heap.get? p.1=some p.2)
  (q:∀h',(∀c o,c≠I->s.heap.get? c=some o->h'.get? c=some o)->Q none { s with heap:=h' }):wpAny (model prog w) A (pyNext (.ref I)) Q E s:=by
 have ty:s.TypeIs (.ref I) "set_iterator" := ⟨_,hI,U⟩
 unfold pyNext
 refine Ac (J9 (F0 (name:=Str.ofString "__next__") ty sl_next (DC sl_next ty Wc ?_ (Xa _))))
 unfold Builtin.«set_iterator.__next__»
 refine Ac (m:=slotArgs "__next__" 0 _) (Aj ?_)
 refine Ac (Ox hI U ?_)
 dsimp only
 refine Ac (Sq hb U ft ?_)
 rw[Ak Θ]
 have hps:t.place.size=es.size:=by unfold SetTable.fits at ft;simp only[BV,FC]at ft;exact ft.1
 have fin:∀(h1:Heap) (F:Fin->Shared->Prop),Heap.SameBut I s.heap h1->wpAny (model prog w) A.in1 (newExc (.type "StopIteration") [] >>= λe=>(raiseNew e:Sem Fin)) F (λe s'=>wpAny (model prog w) A (do
    let c <- isInstance e (Value.type "StopIteration")
    if c=true then pure none else throw e) Q E s') { s with heap:=h1 }:=by
  intro h1 F b1
  refine YT hh λh2 e k2 z=>?_
  obtain⟨o,ho,hc⟩:=z
  exact Ac (OI (T := "StopIteration") (b:=true) ⟨o,ho,hc⟩ isSubtype_stop (Aj (q _ λc o c1 e=>k2 _ _ (b1.extBut _ _ c1 e))))
 cases y with
 | text ht=>
  simp only[C9];have he:(pickOrder (w.params.setOrder b ep) es)[es.size]? = none:=by refine OW ?_;have:=(UU (w.params.setOrder b ep) es).length_eq;simp only[DF]at this;lia
  refine Ac (MK hb ft (λ_=>?_) (λhf=>by rw[ht]at hf;cases hf));rw[he];exact Ac (FW hI Θ λh1 o1 b1=>fin h1 _ b1)
 | slots hf hd=>simp only[C9];refine Ac (MK hb ft (λht=>by rw[ht]at hf;cases hf) (λ_=>⟨hd,by rw[g.led,hf];rfl,?_⟩));rw[Ua g.rs Ψ,OW (An _)];exact Ac (FW hI Θ λh1 o1 b1=>fin h1 _ b1)
 | drawn T ps hf hp=>
  simp only[C9];refine Ac (Kc (hn (T,N1 ps) (AR.mpr U)) U ?_);dsimp only;have e1:(ps.map λ(i:Nat)=>rawInt i).toArray[es.size]? = none:=by refine OW ?_;have:=hp.length_eq;simp at this ⊢;lia
  rw[e1];dsimp only;exact Ac (FW hI Θ λh1 o1 b1=>Ac (FW o1 Θ λh2 o2 b2=>fin h2 _ (b1.trans b2)))
end
def Uc:Slot "set_iterator" "__iter__" "set_iterator.__iter__" := .of (owner := "set_iterator") (n := "__iter__") (by rw[OC,OV];kernel_rfl)
 Δ Δ Δ (by first | exact .inl Δ | exact .inr Δ)
 (by rw[isSubtype_type];kernel_rfl)
def qF:entryFor table "set_iterator.__iter__" = some Builtin.«dict_keyiterator.__iter__»:=entryFor_alias (id' := "dict_keyiterator.__iter__") (by kernel_rfl) U Δ (by kernel_rfl)
def sV (v:Value):argsOk "set_iterator.__iter__" ⟨[v],[]⟩:=by kernel_rfl
def lL:typeLookup (.type "set") "__len__" = pure (some (.builtin "set.__len__")):=by rw[OC,OV];kernel_rfl
section
variable {prog:Program}{w:World}{A:Around}{E:Value->Shared->Prop}{s:Shared}
theorem Ta {t:SetTable} (n:A.handled=none)(y:Way w b es ep t f nw ys)(g:Gd w t)(m:t.fits es.size=true)(D:ys.length=es.size)(r:b≠I)(B:∀p∈nw,p.1≠I) :
  WalksS prog w A I (I::b::nw.map (·.1)) [I] (λx z=>x=z) es.size (λi v=>ys[i]? = some v)
   (λi s=>s.heap.get? I=some (Jt (f i) i b es.size ep)/\s.heap.get? b=some (EE es ep t)/\∀p∈nw,s.heap.get? p.1=some p.2) where
 sub:=λc h=>by rw[AR.mp h];exact A9
 grefl:=λ_=>rfl
 gtrans:=λ_ _ _ a b=>a.trans b
 frame:=λi s h' tk st _ k=>⟨k I A9 _ st.1,k b (AY _ A9) _ st.2.1,λp d=>k p.1 (AY _ (AY _ (CQ d))) _ (st.2.2 p d)⟩
 item:=λi s Q E C st q=>by refine YV (v:=ys[i]'Ψ) y g m st.1 st.2.1 st.2.2 (AJ _) λh' u j=>?_;refine q _ _ (AJ _) ⟨u,j.extBut _ _ r st.2.1,λp d=>j.extBut _ _ (B p d) (st.2.2 p d)⟩ ⟨λc o h e=>j.extBut _ _ (λz=>h (by rw[z];exact AR.mpr U)) e,U,U,U,An _⟩
 done:=λs Q E st q=>YW n y g m st.1 st.2.1 st.2.2 λh' k=>q _ ⟨λc o h e=>k c o (λz=>h (by rw[z];exact AR.mpr U)) e,U,U,U,An _⟩
 self:=λi s Q E st q=>by have l:s.TypeIs (.ref I) "set_iterator" := ⟨_,st.1,U⟩;refine OL l Uc (DC Uc l qF ?_ (sV _));show wpAny _ _ (ret (.ref I)) _ _ s;exact Aj ⟨_,U, "set_iterator",_,l,sl_next.lookup,q⟩
def mZ {t:SetTable} (g:Gd w t)(x:t.fits es.size=true)(M:es.size<=1000)(n:s.heap.get? b=some (EE es ep t))
  (q:∀(h':Heap) (d:Drawn) (I:Addr) (f:Nat->Value) (h:List (Addr×Obj)) (ys:List Value),Way w b es ep t f h ys->s.heap.objs.size<=I->(∀p∈h,s.heap.objs.size<=p.1/\p.1≠I/\h'.get? p.1=some p.2)->h'.get? I=some (Jt (f 0) 0 b es.size ep) -> (∀c o,s.heap.get? c=some o->h'.get? c=some o)->Q (.ref I) { s with heap:=h',drawn:=d }):wpAny (model prog w) A (pyIter (.ref b)) Q E s:=by
 have G:s.TypeIs (.ref b) "set" := ⟨_,n,U⟩
 refine OL G F.slot_set_iter (DC F.slot_set_iter G qG ?_ (F.args_set_iter_1 _))
 unfold Builtin.«frozenset.__iter__»
 refine Ac (m:=Builtin.Frozenset.slot0 "__iter__" _) (Aj ?_)
 refine Ac (m:=Builtin.Frozenset.sizeOf b) (Ac (Sq n U x (Aj ?_)))
 dsimp only
 have made:∀(f:Nat->Value) (h:List (Addr×Obj)) (ys:List Value) (j:Heap) (d:Drawn),Way w b es ep t f h ys->(∀p∈h,s.heap.objs.size<=p.1/\j.get? p.1=some p.2)->(∀c o,s.heap.get? c=some o->j.get? c=some o)->s.heap.objs.size<=j.objs.size ->
   wpAny (model prog w) A.in1 (do
    let z <- setEpoch b
    let u <- newFields "set_iterator" [f 0,rawInt 0,.ref b,rawInt es.size,rawInt z]
    ret u) (λfin s'=>∃v,fin=Fin.done (Flow.ret v)/\∃D r,s'.TypeIs v D/\typeLookup (.type D) "__next__" = pure (some r)/\Q v s') E { s with heap:=j,drawn:=d }:=by
  intro f h ys j d y B k le
  refine Ac (wpAny_setEpoch_of (k _ _ n) U x ?_)
  refine Ac (DZ (Aj ⟨_,U, "set_iterator",_,⟨_,Bs _ U,U⟩,sl_next.lookup,?_⟩))
  exact q _ d _ f h ys y le (λp a=>⟨(B p a).1,Bk (A0 (B p a).2),AV _ (B p a).2⟩) (Bs _ U) λc o e=>AV _ (k c o e)
 refine Ac (m:=setDrawn b) ?_
 unfold setDrawn setsByText
 refine Ac (Mb n U x ?_)
 dsimp only
 refine Ac (Ac (L9 (Aj (Aj ?_))))
 split
 ·rename_i c;have l:(!w.params.followText "set-order" && (!t.plain && decide (es.size > 1)))=true:=c
  have K:w.params.followText "set-order" = false:=by
   cases hq:w.params.followText "set-order" with
   | false=>rfl
   | true=>rw[hq]at l;cases l
  refine Ac (Wh es.size (List.range es.size) Em _ _ λps d C=>?_);have H:(ps.map λ(i:Nat)=>rawInt i).length<=sizeLine:=by have j:=C.length_eq;have L:sizeLine=16777216:=AF;rw[Em]at j;rw[Ai];lia
  refine Ac (wpAny_newTuple ?_ H);refine made (λ_=>.ref s.heap.objs.size) [(s.heap.objs.size,N1 ps)] _ _ d (.drawn _ ps K C) (λp a=>?_) (λc o e=>AV _ e) (by rw[G9];exact Fb _);rw[AR.mp a];exact⟨An _,Bs _ U⟩
 rename_i c
 refine Ac (Aj ?_)
 cases hq:w.params.followText "set-order" with
 | true=>exact made (λ_=>.int 0 0) [] _ s.heap s.drawn (.text hq) (λp a=>nomatch a) (λ_ _ e=>e) (An _)
 | false=>have l:¬(!w.params.followText "set-order" && (!t.plain && decide (es.size > 1)))=true:=c;rw[hq]at l;exact made (λi=>.int (Hi t i) 0) [] _ s.heap s.drawn (.slots hq (Bool.eq_false_iff.mpr l)) (λp a=>nomatch a) (λ_ _ e=>e) (An _)
def oB (a:s.TypeIs (.ref b) "set") (h:Q false s):wpAny (model prog w) A (Builtin.List.listLengthHint (.ref b)) Q E s:=by
 (unfold Builtin.List.listLengthHint);refine Ac (Ij a lL ?_);generalize hid:("set.__len__" : String)=id0;wp_delta;rw[show splitId id0=some ("set", "__len__") from by subst hid;decide +kernel];subst hid;refine Ac (OI (T := "set") (b:=true) a (by rw[isSubtype_type];kernel_rfl) ?_);rw[Ak Ξ];split
 ·exact Ac (J8 a (Aj h))
 rename_i c;exact absurd Δ c
def rJ {t:SetTable} (hh:A.handled=none)(g:Gd w t)(X:t.fits es.size=true)(hz:es.size<=1000)(D:s.heap.get? b=some (EE es ep t))
  (q:∀(h':Heap) (d:Drawn) (tk:Nat) (ys:List Value),ys.Perm (es.toList.map (·.2))->s.heap.objs.size<=h'.objs.size->(∀c o,s.heap.get? c=some o->h'.get? c=some o)->R ys { s with heap:=h',drawn:=d,toks:=tk }):wpAny (model prog w) A (collect (.ref b)) R E s:=by
 have r:b<s.heap.objs.size:=A0 D
 unfold collect
 (refine Ac (wpAny_runValue (EM F.entry_proto_collect ?_)))
 (rw[FY F.plain_proto_collect _])
 show wpAny _ A.in1 (newList [] >>= λl=>again (.builtin "list.__iadd__" ⟨[l,.ref b],[]⟩)) _ _ _
 refine Ac (DZ (Aj ⟨G7 F.plain_list_iadd _,EM F.entry_list_iadd ?_⟩))
 (rw[FY F.plain_list_iadd _])
 show wpAny _ A.in1 (Builtin.List.listExtendWith (.ref s.heap.objs.size) (.ref b) (.ref s.heap.objs.size)) _ _ _
 have n:(s.heap.push { cls:=.type "list",data:=.seq ([]:List Value).toArray }).get? b=some (EE es ep t):=AV _ D
 have ty:Shared.TypeIs { s with heap:=s.heap.push { cls:=.type "list",data:=.seq ([]:List Value).toArray } } (.ref b) "set" := ⟨_,n,U⟩
 (unfold Builtin.List.listExtendWith)
 refine Ac (J8 ty ?_)
 have e1:Builtin.List.listSameRef (.ref s.heap.objs.size) (.ref b)=false:=by simp[Builtin.List.listSameRef,Fc r]
 have e2:(Value.type "set" == Value.type "list")=false:=by decide
 have e3:(Value.type "set" == Value.type "tuple")=false:=by decide
 simp only[e1,e2,e3,Bool.or_false,E8,Es]
 have sz:(s.heap.push { cls:=.type "list",data:=.seq ([]:List Value).toArray }).objs.size=s.heap.objs.size+1:=G9 ..
 refine Ac (mZ g X hz n λh' d I f nw ys y G H oI k=>?_)
 rw[sz]at G H
 have P:Shared.TypeIs { s with heap:=h',drawn:=d } (.ref b) "set" := ⟨_,k _ _ n,U⟩
 refine Ac (Dj (oB P ?_))
 have K:h'.get? s.heap.objs.size=some { cls:=.type "list",data:=.seq ([]:List Value).toArray }:=k _ _ (Bs _ U)
 have hl:ys.length=es.size:=by have:=y.perm.length_eq;simpa using this
 have W:=Ta (prog:=prog) (A:=A.in1) (I:=I) hh y g X hl (λz=>DY _ (CJ (z ▸ r:I<s.heap.objs.size) (Nat.le_of_succ_le G))) (λp C=>(H p C).2.1)
 have M:s.heap.objs.size∉I::b::nw.map (·.1):=by
  intro z;rcases(Az.mp z)with z | z
  ·exact DY _ (CJ (G5 _) (z ▸ G))
  rcases(Az.mp z)with z | z
  ·exact DY _ (z ▸ r)
  obtain⟨p,C,z⟩:=Ba.mp z;have:=(H p C).1;lia
 have run:∀(B:Heap) (c:Nat) (L:Result->Shared->Prop),(∀b o,b≠s.heap.objs.size->h'.get? b=some o->B.get? b=some o)->B.get? s.heap.objs.size=some { cls:=.type "list",data:=.seq ([]:List Value).toArray c } ->
   (∀(h:Heap) (tk j:Nat) (a:Array Value),h.get? s.heap.objs.size=some { cls:=.type "list",dict:=none,data:=.seq a j,slots:=#[] }->a.toList=ys->(∀c o,s.heap.get? c=some o->h.get? c=some o)->L (.ok (.ret (.ref s.heap.objs.size))) { s with heap:=h,drawn:=d,toks:=tk }) ->
   codeAny (model prog w) A (.builtin "list.extend.loop" ⟨[.ref s.heap.objs.size,.ref I,.ref s.heap.objs.size],[]⟩) L { s with heap:=B,drawn:=d }:=by
  intro B c L k2 m fin
  have Q:I≠s.heap.objs.size:=Fc G
  refine codeAny_extend_loopS W (by rw[AF];lia) _ M _ es.size 0 _ _ _ U (Bn _) ⟨k2 _ _ Q oI,k2 _ _ (Bk r) (k _ _ n),λp C=>k2 _ _ (Fc (H p C).1) (H p C).2.2⟩ m (ItemsOf.nil _) λs3 a j hm x it=>?_
  obtain⟨h,g3,d3,T,N⟩:=s3
  obtain⟨m1,m2,m3,m4,m5⟩:=hm
  have eg:s.gens=g3:=m2
  have ed:d3=d:=m3
  have S:N=s.os:=m4
  subst eg ed S
  refine fin h T j a x ?_ λc o e=>m1 c o ?_ (k2 c o (Bk (A0 e)) (k c o (AV _ e)))
  ·refine ext_getElem (by rw[DF,it.1,hl]) λi h1 B=>?_
   have e:ys[i]? = some a.toList[i]:=it.2 i a.toList[i] (by rw[<- JP];exact AJ h1)
   rw[AJ B]at e
   exact(BG e).symm
  have lc:c<s.heap.objs.size:=A0 e
  intro z
  rcases(Az.mp z)with z | z
  ·exact DY _ (z ▸ lc)
  exact DY _ (JU lc (Nat.lt_of_succ_le ((AR.mp z) ▸ G)))
 have u:∀(h:Heap) (tk j:Nat) (a:Array Value),h.get? s.heap.objs.size=some { cls:=.type "list",dict:=none,data:=.seq a j,slots:=#[] }->a.toList=ys->(∀c o,s.heap.get? c=some o->h.get? c=some o) ->
   R a.toList { s with heap:=h,drawn:=d,toks:=tk }:=λh tk j a v e k3=>by
  rw[e]
  exact q h d tk ys y.perm (Ib (A0 v)) k3
 split
 ·refine Ac (G3 (Ac ?_));(show wpAny _ A.in1 (updateSeq s.heap.objs.size (·.push .none) >>= λ_=>updateSeq s.heap.objs.size (·.pop)) _ _ _);(refine Ac (wpAny_updateSeq K U ?_));have m:=Mh (Obj.mapSeq (·.push Value.none)) K U;refine wpAny_updateSeq m U ?_;have x:=Mh (Obj.mapSeq (·.pop)) m U;refine Aj ⟨G7 F.plain_extend_loop _,run _ _ _ (λb o D e=>(SD _ _ (ET D)).trans ((SD _ _ (ET D)).trans e)) x λh tk j a v e k3=>?_⟩;(show wpAny _ A (load s.heap.objs.size >>= _) _ _ _);exact Ac (wpAny_load v (Aj (u h tk j a v e k3)))
 refine Aj ⟨G7 F.plain_extend_loop _,run _ _ _ (λ_ _ _ e=>e) K λh tk j a v e k3=>?_⟩
 (show wpAny _ A (load s.heap.objs.size >>= _) _ _ _)
 exact Ac (wpAny_load v (Aj (u h tk j a v e k3)))
end
end SG
namespace SG
open PySem PyProof.Rows
section
variable {prog:Program}{w:World}{A:Around}{E:Value->Shared->Prop}{s:Shared}
def iv:Value->Int
 | .int i _=>i
 | _=>0
theorem VH:∀{vs:List Value},(∀v∈vs,∃t,v=.int (iv v) t)->IntsAre vs (vs.map iv)
 | [],_=>.nil
 | v::r,h=>by obtain⟨t,e⟩:=h v A9;rw[e];exact .cons _ t (VH λx a=>h x (AY _ a))
def sorted_set {t:SetTable} (F:A.handled=none)(g:Gd w t)(l:t.fits es.size=true)(H:es.size<64)(p:s.heap.get? b=some (EE es ep t))(n:∀e∈es.toList,∃t,e.2=.int (iv e.2) t)
  (q:∀(h':Heap) (d:Drawn) (tk e D:Nat) (out:Array Value) (ns:List Int),IntsAre out.toList ns->ns.Perm (es.toList.map λe=>iv e.2)->ns.Pairwise (·<=·)->h'.get? D=some (seqObj "list" out e)->s.heap.objs.size<=D->(∀c o,s.heap.get? c=some o->h'.get? c=some o) -> Q (.ref D) { s with heap:=h',drawn:=d,toks:=tk }):wpAny (model prog w) A (call (.builtin "sorted") [.ref b]) Q E s:=by
 (refine SO kind_sorted plain_sorted entry_sorted (args_sorted1 _) ?_)
 unfold Builtin.«sorted»
 (refine Ac (m:=checkCount "sorted" 1 1 _) (Aj ?_))
 refine Ac (rJ (A:=A.in1) F g l Ψ p λj d tk ys a B k1=>?_)
 have I:ys.length=es.size:=by have:=a.length_eq;simpa using this
 (refine Ac (wpAny_newList ?_ (by rw[AF];lia)))
 have G:∀v∈ys,∃t,v=.int (iv v) t:=λv C=>by obtain⟨e,f,rfl⟩:=Ba.mp (a.mem_iff.mp C);exact n e f
 have y:(ys.map iv).Perm (es.toList.map λe=>iv e.2):=by have:=a.map iv;rw[BD]at this;exact this
 have h:(j.push { cls:=.type "list",data:=.seq ys.toArray }).get? j.objs.size=some (seqObj "list" ys.toArray 0):=Bs _ U
 refine Ac (Dj (DC slot_list_sort ⟨_,h,U⟩ entry_list_sort (list_sort_tree h (VH G) Ψ λout ns x u r=>⟨_,U,?_⟩) (args_list_sort _)))
 obtain⟨e,f⟩:=sortedHeap_at (out:=out) h
 refine Aj ⟨_,U,q _ d tk e _ out ns x (u.trans y) r f B λc o z=>?_⟩
 have i:=A0 (k1 c o z)
 rw[sortedHeap_old (Bk i) (by rw[size_push'];exact G6 i)]
 exact AV _ (k1 c o z)
end
section
variable {prog:Program}{w:World}{κ:Type} [DecidableEq κ] {knd:KeyKind prog w κ}{A:Around}{R:Result->Shared->Prop}{I:Addr}{fp wr:List Addr}{G:Array GenState->Array GenState->Prop}{n:Nat}{P:Nat->Value->Prop}{St:Nat->Shared->Prop}
def kept (q:SetG knd h S f m)(e:∀o,h.get? S=some o->h'.get? S=some o):SetG knd h' S f m:=by obtain⟨es,ep,t,a,r⟩:=q;exact⟨es,ep,t,e _ a,r⟩
def Of {k:Nat}(q:SetG knd h S f m)(e:∀x,f x=g x)(a:m=k):SetG knd h S g k:=by have:=funext e;subst this a;exact q
def Rm (W:WalksS prog w A.in1 I fp wr G n P St)(S:Addr)(D:S∉fp)(val:Nat->κ)(K:∀i v,P i v->knd.is (val i) v=true/\v.scannable=true)(j:n+1<scanBound) :
  ∀(k i:Nat) (s:Shared),n-i=k->i<=n->St i s->SetG knd s.heap S (λx=>decide (x∈SK.dd val i)) (SK.dd val i).length ->
   (∀s',Moved (S::wr) G s s'->SetG knd s'.heap S (λx=>decide (x∈SK.dd val n)) (SK.dd val n).length->R (.ok (.ret .none)) s') ->
   (codeAny (model prog w) A (.builtin "set.update.loop" ⟨[.ref S,.ref I],[]⟩) R s):=by
 have C:S∉wr:=λh=>D (W.sub _ h)
 have sub:∀b∈wr,b∈S::wr:=λb z=>AY _ z
 intro k
 induction k with
 | zero=>
  intro i s L E st l fin;obtain rfl:i=n:=by lia
  refine EM On ?_;rw[FY JT _];refine Ac (m:=pyNext (.ref I)) (W.done s _ _ st λa d=>?_);exact Aj (fin a (d.mono sub) (kept l λo e=>d.heap S o C e))
 | succ k ih=>
  intro i s L E st l fin;have lt:i<n:=by lia
  refine EM On ?_;rw[FY JT _];refine Ac (m:=pyNext (.ref I)) (W.item i s _ _ lt st λv a H y d=>?_);obtain⟨c,sc⟩:=K i v H;refine Ac (m:=holding [v] (setAdd S v)) (Dj ?_);unfold setAdd;refine Dj (Ac (knd.pyHash (k:=val i) c ?_));have f:(SK.dd val i).length+1<scanBound:=by have:=SK.dd_le (val:=val) i;lia
  refine tH (knd:=knd) (s:={ a with toks:=a.toks+1 }) c sc (kept l λo e=>d.heap S o C e) f λr F u=>?_;have B:SetG knd r S (λx=>decide (x∈SK.dd val (i+1))) (SK.dd val (i+1)).length:=Of u (λx=>(SK.dd_step i x).symm) (SK.dd_size i).symm;have g:∀b o,b≠S->a.heap.get? b=some o->r.get? b=some o:=λb o z e=>(F.2 b z).trans e;refine Aj ⟨G7 JT _,ih (i+1) _ Ψ lt (W.frame _ a r (a.toks+1) y (Fb _) λb j o e=>g b o (λz=>D (z ▸ j)) e) B λs2 p q=>?_⟩;refine fin s2 (Moved.trans W.gtrans ((d.mono sub).then_heap (Fb _) λb o j e=>g b o (λz=>j (z ▸ A9)) e) p) q
end
section
variable {prog:Program}{w:World}{κ:Type} [DecidableEq κ] {knd:KeyKind prog w κ}{A:Around}{E:Value->Shared->Prop}{s:Shared}
abbrev Vp (w:World):Bool:=!w.params.followText "set-order"
abbrev CY (led:Bool):Obj:={ cls:=.type "set",dict:=none,data:=.set #[] 0 (.fresh 0 0 led) }
def rK (v:Value) (q:Q1 (.ref s.heap.objs.size) { s with heap:=s.heap.push (CY (Vp w)) }) :
  codeAny (model prog w) A (.call (.builtin "set.__new__") ⟨[.type "set",v],[]⟩) (wants Q1 E) s:=by
 apply codeAny_of_tree
 refine Ac (J0 (PySem.F.newCall_set_1 v) (Aj ⟨G7 PySem.F.plain_set_new _,EM PySem.F.entry_set_new ?_⟩))
 rw[FY PySem.F.plain_set_new _]
 (unfold Builtin.«set.__new__» Builtin.Frozenset.newClass)
 have a:=sub_set_self
 obtain⟨b,c,d,tk,os⟩:=s
 wp_walk
 (refine L9 (Aj ?_))
 simp[newObj]
 exact Ac (wpAny_alloc (Aj (Aj q)))
def make {val:Nat->κ} (X:A.handled=none)(hl:s.heap.IsList l items)(hv:∀i v,items[i]? = some v->knd.is (val i) v=true/\v.scannable=true)(W:items.size+1<scanBound)
  (q:∀(h':Heap) (tk:Nat),SetG knd h' s.heap.objs.size (λx=>decide (x∈SK.dd val items.size)) (SK.dd val items.size).length->(∀b o,s.heap.get? b=some o->h'.get? b=some o)->Q (.ref s.heap.objs.size) { s with heap:=h',toks:=tk }) :
  (wpAny (model prog w) A (call (.type "set") [.ref l]) Q E s):=by
 obtain⟨c,tl,P⟩:=DE.mro
 have B:=DE.made
 have K:=DE.sub
 refine JY (codeAny_of_tree (show wpAny _ _ (callAny (.type "set") _) _ _ _ from ?_))
 refine Aj ⟨Sj _ Δ,EM PySem.F.entry_type_call ?_⟩
 (rw[Around.under_plain (weight_type_call_type "set" [.ref l] []) rfl])
 have h1:=DE.notType
 have h2:=DE.canCreate
 have a3:=PySem.F.typeCall_set_1 (.ref l)
 (repeat (any_goals (first | assumption | wp_step)))
 refine F5 (rK (.ref l) (E:=E) (Q1:=λI N=>∃a:Bool,a=Vp w/\I=.ref s.heap.objs.size/\N={ s with heap:=s.heap.push (CY a) }) ⟨_,U,U,U⟩) λr N H=>?_
 cases r with
 | error e=>exact H
 | ok fl=>
  cases fl with
  | ret I=>
   obtain⟨a,n,rfl,rfl⟩:=H;have L:(s.heap.push (CY a)).get? s.heap.objs.size=some (CY a):=Bs _ U;have hT:Shared.TypeIs { s with heap:=s.heap.push (CY a) } (.ref s.heap.objs.size) "set" := ⟨_,L,U⟩;have a0:=DE.init.lookup;have a4:=DE.init.bind (.ref s.heap.objs.size);(repeat (any_goals (first | assumption | wp_step)));refine F5 (OS (R:=wants (λr s2=>r=.none/\∃h' tk,s2={ s with heap:=h',toks:=tk }/\SetG knd h' s.heap.objs.size (λx=>decide (x∈SK.dd val items.size)) (SK.dd val items.size).length /\ (∀b o,s.heap.get? b=some o->h'.get? b=some o)) E) DE.init.plain PySem.F.entry_set_init (check_set_init_1 hT ?_)) λr2 s2 f=>?_
   ·obtain⟨⟨T,h,D,d⟩,p,y,S,j⟩:=hl;simp only at y j;subst y j;have u:(s.heap.push (CY a)).get? l=some { cls:=.type "list",dict:=h,data:=.seq items S,slots:=d }:=AV _ p;have x1:=PySem.F.sub_list_set;have x2:=Xp;have x3:(Value.type "list" == Value.type "dict")=false:=by decide
    have m:(s.heap.push (CY a)).IsList l items:=⟨_,u,U,S,U⟩;(unfold Builtin.«set.__init__» noKeywords Builtin.Frozenset.updateFrom);generalize hPI:pyIter=PI;wp_walk;subst hPI;(refine Me m ?_);(refine Ac (wpAny_runValue ?_));have lt:l<s.heap.objs.size:=A0 p;have sz:(s.heap.push (CY a)).objs.size=s.heap.objs.size+1:=G9 ..;(have G:A.in1.in1.in1.handled=none:=by simp[X]);have C:l≠(s.heap.push (CY a)).objs.size:=by rw[sz];exact Bk (G6 lt)
    have nS:s.heap.objs.size∉[(s.heap.push (CY a)).objs.size,l]:=by rw[sz];simp only[Az,Bw,Bv,not_or];exact⟨Bk (G5 _),Fc lt⟩
    refine Rm (knd:=knd) ((Walks.list G _ l C items).toS) s.heap.objs.size nS val hv W (items.size-0) 0 _ Ψ (Bn _) ⟨⟨_,Bs _ U,U,U⟩,m.push _⟩ ?_ λs3 hm q3=>?_
    ·have g:=AV ({ cls:=.type "list_iterator",data:=.fields #[.ref l,.int 0 0] }:Obj) L;exact⟨_,_,_,g,λe he=>by simp at he,λx=>by simp[SK.dd],Ξ,Φ,U,ZV,n⟩
    obtain⟨h3,g3,d3,F,z⟩:=s3;obtain⟨m1,m2,m3,m4,m5⟩:=hm;have eg:g3=s.gens:=m2;have ed:d3=s.drawn:=m3;have es:z=s.os:=m4;subst eg ed es;refine Aj (Aj ⟨U,h3,F,U,q3,λb o e=>m1 b o ?_ (AV _ (AV _ e))⟩);have M:b<s.heap.objs.size:=A0 e;rw[sz];simp only[Az,Bw,Bv,not_or];exact⟨Bk M,Bk (G6 M)⟩
   cases r2 with
   | error e=>exact f
   | ok fl2=>
    cases fl2 with
    | ret r=>obtain⟨rfl,h',tk,rfl,a1,a2⟩:=f;(repeat (any_goals (first | assumption | wp_step)));exact q _ _ a1 a2
    | _=>exact f.elim
  | _=>exact H.elim
end
end SG
namespace L2
open PySem PyProof.Rows
section
variable {X:Cx}
def Inv.dr (d:Drawn)(I:Inv X dv σ H s):Inv X dv σ H { s with drawn:=d }:=⟨I.ok,I.os,I.bare,I.base,I.loc,I.cell,I.free,I.freeC,I.pin,I.hok,I.len⟩
def Vk {κ:Type}[DecidableEq κ](ks:List κ)(x:κ):Bool:=decide (x∈ks)
def memB_iff {a:Type}[DecidableEq a]{ks:List a}{x:a}:Vk ks x=true↔x∈ks:=decide_eq_true_iff
def Gf (P:Program)(w:World)(a:Addr)(ks:List Key):HO:=.ext λh=>SG.SetG (BE P w) h a (Vk ks) ks.length
def rV (D:X.calm=true):Cs X (.type "set") (λxs H Q=>∃p ks,xs=[.ref p]/\SqL X.K H p (ks.map kV)/\ks.length<=1000/\∀a,H a=none->Q (.ref a) (Y H a (Gf X.prog X.w a (SK.dd (Bx ks) ks.length)))):=by
 intro w s E H xs us Q I r h;obtain⟨p,ks,rfl,C,L,q⟩:=h;obtain⟨u,rfl,c⟩:=CM r;cases c;obtain⟨d,n,B,M⟩:=I.list C;have b:=n.length;rw[Ai]at b;refine SG.make (knd:=BE X.prog X.w) (val:=Bx ks) (I.ok.hd D) B.isList (λi v A=>?_) (by rw[BJ];unfold scanBound;lia) λh' tk l z=>?_
 ·have m:d[i]? = some v:=by simpa using A
  have g:i<ks.length:=by have:=(Ay.mp m).1;lia
  obtain⟨K,f,c⟩:=n.get (i:=i) (x:=kV ks[i]) (by simp[g]);rw[m]at f;cases f;have e:Bx ks i=ks[i]:=by simp[Bx,List.getD,g]
  rw[e];refine⟨EH c,?_⟩;cases hkk:ks[i]with
  | inl j=>rw[hkk]at c;obtain⟨t,rfl⟩:=c;rfl
  | inr y=>rw[hkk]at c;obtain⟨t,rfl⟩:=c;rfl
 have es:d.toArray.size=ks.length:=by simp[b]
 rw[es]at l;refine⟨.ref _,_,I.laid (a:=s.heap.objs.size) (o:=Gf X.prog X.w s.heap.objs.size (SK.dd (Bx ks) ks.length)) z (An _) ⟨l,?_,λG F f1 e=>SG.kept f1 e⟩,U,q _ (I.hok.fresh (An _))⟩;obtain⟨es,_,_,e,_⟩:=l;exact⟨_,e⟩
def XY:∀{ns:List Int}{us:List Value},IntsAre us ns->Vals (ns.map V.int) us:=Pf
def rT (T:X.calm=true):Cs X (.builtin "sorted") (λxs H Q=>∃(a:Addr) (ns:List Int),xs=[.ref a]/\H a=some (Gf X.prog X.w a (ns.map Sum.inl))/\ns.Nodup/\ns.length<64/\∀(l:Addr) (m:List Int),H l=none->m.Perm ns->m.Pairwise (·<=·)->Q (.ref l) (Y H l (.lst (m.map V.int)))):=by
 intro w s W H xs us Q I r h;obtain⟨a,ns,rfl,C,nd,hz,q⟩:=h;obtain⟨u,rfl,F⟩:=CM r;cases F;obtain⟨⟨es,ep,t,P,i⟩,_,_⟩:=I.hok a _ C;have sz:=i.sz;rw[Ai]at sz
 have v:∀e∈es.toList,∃n t,n∈ns/\e.2=.int n t:=λe g=>by
  obtain⟨⟨k,p,_⟩,_⟩:=i.el e g;have N:=memB_iff.mp ((i.me k).mpr ⟨e,g,p⟩);obtain⟨n,E,rfl⟩:=Ba.mp N;rcases DK (show Ei (.inl n) e.2=true from p)with⟨j,t,f,b⟩ | ⟨y,t,f,b⟩
  ·cases f;exact⟨n,t,E,b⟩
  cases f
 have L:(es.toList.map λe=>SG.iv e.2).Perm ns:=by
  refine SG.perm_of nd (λx K=>?_) (by rw[Ai,DF];lia);obtain⟨e,g,p⟩:=(i.me (.inl x)).mp (memB_iff.mpr (CQ K));rcases DK (show Ei (.inl x) e.2=true from p)with⟨j,t,f,b⟩ | ⟨y,t,f,b⟩
  ·cases f;exact Ba.mpr ⟨e,g,by rw[b];rfl⟩
  cases f
 refine SG.sorted_set (I.ok.hd T) i.gd i.ft Ψ P (λe g=>?_) λh' d tk c D out m S R M B z G=>?_
 ·obtain⟨n,t,_,b⟩:=v e g;exact⟨t,by rw[b];rfl⟩
 have A:=R.trans L;have hl:=A.length_eq;have hs:sizeLine=16777216:=AF;refine⟨.ref _,_,(I.laid (a:=D) (o:=.lst (m.map V.int)) (t':=tk) G z ⟨by rw[Ai];lia,out.toList,c,XY S,by simpa using B⟩).dr d,U,q _ _ (I.hok.fresh z) A M⟩
def cM (d:X.A.units+64<cLine):Bz X (compareOp .NotEq) (λx y H Q=>∃(a b:Addr) (us vs:List V) (ds es:List PyData),x=.ref a/\y=.ref b/\H a=some (.lst us)/\H b=some (.lst vs)/\RdVs H us ds/\RdVs H vs es /\
  PySem.SeqAt.shaped (.list ds)=true/\PySem.SeqAt.shaped (.list es)=true/\Q (.bl (!PyData.eqv (.list ds) (.list es))) H):=by
 intro c s r H x y v u Q I e j h
 obtain⟨a,b,us,vs,ds,es,rfl,rfl,o,f,rd,g,n,i,q⟩:=h
 cases e
 cases j
 obtain⟨p,l⟩:=NL I.hok o rd
 obtain⟨bs,m⟩:=NL I.hok f g
 exact Xr l m n i d ⟨.bl _,H,I,U,q⟩
end
section
variable {X:Cx}
def CL (v a:Addr):HO:=.ext λh=>h.IsItemsView v a
def kY:F9 X "dict.items" (λx xs H Q=>∃a kvs,x=.ref a/\xs=[]/\H a=some (.dK kvs)/\∀v,H v=none->Q (.ref v) (Y H v (CL v a))):=by rintro c s n H x xs v us Q I g m⟨a,kvs,rfl,rfl,l,q⟩;cases g;cases m;obtain⟨w,h,vs,i,d⟩:=FR I.hok l;refine Ig OX d.typeIs PySem.F.entry_dict_items (Xi _) (meets_dict_items (BE X.prog X.w) a h) ⟨⟨vs,d⟩,.ref s.heap.objs.size,_,I.laid (t':=s.toks) (o:=CL s.heap.objs.size a) (λb o e=>AV _ e) (An _) ⟨⟨_,Bs _ U,U,U⟩,⟨_,Bs _ U⟩,λu p f e=>?_⟩,U,q _ (I.hok.fresh (An _))⟩;obtain⟨o,j,r⟩:=f;exact⟨o,e o j,r⟩
def Kr (a:Addr)(o:Obj)(kvs:List (Key×V)):It:=
 ⟨λi H=>i<kvs.length/\H a=some (.frz o (.dK kvs)),λi H x H'=>∃p k v,x=.ref p/\H p=none/\H'=Y H p (.tup [kV k,v])/\kvs[i]? = some (k,v),λi H=>kvs.length<=i/\H a=some (.frz o (.dK kvs))⟩
theorem Tt {P:Program}{w:World}{K:W.Frag}{p:List Expr}{x1}{tp:Pos}(it a:Addr)(o:Obj)(kvs:List (Key×V))(es:Array DictEntry)(ep:Nat)(S:o.data=.dict es ep) :
  F8 P w K (.Tuple p x1 tp) (Kr a o kvs) [it] it (λi h=>∃ok l,IsItemIter h it a i kvs.length ep ok l) where
 mem:=by simp
 obj:=λi h st b hb=>by
  have e:b=it:=by simpa using hb
  subst e;obtain⟨_,_,st⟩:=st;exact⟨_,st,λv z=>nomatch z⟩
 keep:=λi h h' st k=>by obtain⟨ok,l,st⟩:=st;exact⟨ok,l,k it Θ _ st⟩
 item:=by
  intro X M N C f i r s σ H E I A st D;subst M N C;obtain⟨Q,G⟩:=D;obtain⟨ok,l,st⟩:=st;obtain⟨vs,d,g⟩:=Od I G S;have B:=d.length;have hx:kvs[i]? = some (kvs[i].1,kvs[i].2):=AJ Q;obtain⟨u,hu,ru⟩:=KV.get2 d hx;rw[B]at st;have tz:s.heap.objs.size≠it:=Fc (A0 st);refine wpAny_pyNext_items_item (knd:=BE X.prog X.w) st g hu λkey h' hk q ht hsz kk=>?_;refine⟨_,U,wpAny_letOwnedTupleGo_items (s:={ s with heap:=h' }) q λx T R=>?_⟩
  have rk:RelV (kV kvs[i].1) key:=by
   rcases DK (show Ei kvs[i].1 key=true from hk)with⟨j,t,L,F⟩ | ⟨y,t,L,F⟩
   ·rw[L,F];exact⟨t,U⟩
   rw[L,F];exact⟨t,U⟩
  have m:∀c o,c∉[it]->s.heap.get? c=some o->x.get? c=some o:=λc o f e=>by have n:c≠it:=λz=>f (by rw[z];exact AR.mpr U);exact R.extBut _ _ n (kk c o n e)
  have new:ObjOk X.prog X.w (Y H s.heap.objs.size (.tup [kV kvs[i].1,kvs[i].2])) x s.heap.objs.size (.tup [kV kvs[i].1,kvs[i].2]):=
   ⟨by show 2<=sizeLine;decide,[key,u],.cons rk (.cons ru .nil),_,R.extBut _ _ tz ht,U,0,U⟩
  have fr:H s.heap.objs.size=none:=I.hok.fresh (An _);rw[<- B]at T;refine⟨.ref s.heap.objs.size,_,I.stepN (t':=s.toks) A m new,U,⟨_,_,_,U,fr,U,hx⟩,⟨_,_,T⟩,λc f=>?_⟩;have e:c=it:=by simpa using f
  rw[Af (by rw[e];exact tz.symm)];exact(A c f).1
 done:=by intro X M N C f i r s σ H E I A st D;subst M N C;obtain⟨Q,G⟩:=D;obtain⟨ok,l,st⟩:=st;obtain⟨vs,d,g⟩:=Od I G S;have B:=d.length;rw[B]at st;exact wpAny_pyNext_items_end (knd:=BE X.prog X.w) (I.ok.hd f) st g (R8 Ψ) λh' eb=>⟨U,I.stepL (t':=s.toks) A λc o f e=>eb c o (λz=>f (by rw[z];exact AR.mpr U)) e⟩
 self:=λ_ _ _ _ _ st h=>by obtain⟨ok,l,st⟩:=st;refine OL ⟨_,st,U⟩ Xt (DC Xt ⟨_,st,U⟩ PySem.W.kcp_entry ?_ (PySem.F.args_dict_itemiterator_iter_1 _));show wpAny _ _ (ret (.ref it)) _ _ _;exact Aj ⟨_,U, "dict_itemiterator",_,⟨_,st,U⟩,PySem.F.slot_dict_itemiterator_next.lookup,h⟩
end
end L2
namespace EN
open PySem PyProof.Rows
theorem draws (u:A.handled=none)(c l:Addr)(e:l≠c)(items:Array Value) :
  Draws prog w A c [c,l] items.size (λi v=>items[i]? = some v) (λi h=>h.IsTupleIter c l i/\h.IsTuple l items) where
 live:=λ_ _ st=>by obtain⟨⟨o,f,_⟩,_⟩:=st;exact⟨o,f⟩
 frame:=λ_ _ _ st m=>by obtain⟨⟨o,f,r⟩,j,d,p⟩:=st;exact⟨⟨o,m c Θ o f,r⟩,j,m l Θ j d,p⟩
 item:=λi s Q E g st n=>by refine ZT.next_item st.1 st.2 (v:=items[i]) (by simp[g]) λh' a b=>?_;exact n _ h' s.toks (by simp[g]) ⟨a,st.2.extBut b.extBut e⟩ b
 done:=λs Q E st q=>ZT.next_end u st.1 st.2 Θ q
abbrev oE (it:Addr):Obj:={ cls:=.type "enumerate",data:=.fields #[.none,.bool false,.ref it,rawInt 0,.none,.none] }
def make (l:Addr)(items:Array Value) :
  Meets (Builtin.«enumerate.__new__» ⟨[.type "enumerate",.ref l],[]⟩) (λ_ R s=>s.heap.IsTuple l items /\ R (.ok (.ret (.ref (s.heap.push (ZT.zI l)).objs.size))) { s with heap:=(s.heap.push (ZT.zI l)).push (oE s.heap.objs.size) }):=
 .of_wp λprog w A R s h=>by
  (obtain⟨p,g,d,tk,os⟩:=s);obtain⟨j,h⟩:=h;have i:=sub_enumerate;have f:=j;obtain⟨⟨c,m,o,q⟩,a,e,n,b⟩:=id j;replace e:c=.type "tuple" := e;replace b:o=.seq items n:=(b);subst e b;wp_walk using O0 a;(refine wpAny_stack_any λst=>Aj ?_);split
  ·rename_i c _ _ _ _ _;cases ((c == Value.type "enumerate"))
   ·wp_walk using O0 a,Sf f;exact⟨_,U,h⟩
   wp_walk using O0 a,Sf f;exact⟨_,U,h⟩
  wp_walk using O0 a,Sf f;exact⟨_,U,h⟩
end EN
namespace L2
open PySem PyProof.Rows
section
variable {X:Cx}
def Ks (K:W.Frag)(a:Addr):It:=
 ⟨λi H=>∃xs x,SqT K H a xs/\xs[i]? = some x,λi H v H'=>∃p x,v=.ref p/\H p=none/\H'=Y H p (.tup [.int (i:Nat),x])/\∀xs,SqT K H a xs->xs[i]? = some x,λi H=>∃xs,SqT K H a xs/\xs.length=i⟩
theorem Yd {P:Program}{w:World}{K:W.Frag}{G:List Expr}{x1}{tp:Pos}(e f a:Addr)(j:e≠f):F8 P w K (.Tuple G x1 tp) (Ks K a) [e,f] e (λi h=>(∃old,IsEnum h e f (i:Nat) old)/\h.IsTupleIter f a i) where
 mem:=by simp
 obj:=λn h st c b=>by
  obtain⟨⟨old,g⟩,o4,r,_,d4⟩:=st;simp only[Az,Bw,Bv]at b;rcases b with rfl | rfl
  ·exact⟨_,g,λv e=>nomatch e⟩
  exact⟨_,r,λv e=>by rw[d4]at e;cases e⟩
 keep:=λn h h' st k=>by obtain⟨⟨old,g⟩,o4,r,r4⟩:=st;exact⟨⟨old,k e Θ _ g⟩,o4,k f Θ _ r,r4⟩
 item:=by
  intro X D hw hK b n C s σ H E I l st hg;subst D hw hK;obtain⟨xs,x,m,T⟩:=hg;obtain⟨⟨old,g⟩,M⟩:=st;obtain⟨d,rv,R,_⟩:=I.tuple m;obtain⟨u,hu,ru⟩:=rv.get T;have off:∀c∈[e,f],a≠c:=λc b z=>I.fpT m (z ▸ l c b);have Q:=off e Θ;have S:=off f Θ;have hl:n<d.toArray.size:=by have:=(Ay.mp hu).1;simpa using this
  have tz:s.heap.objs.size≠e:=Fc (A0 g);refine wpAny_pyNext_enum_itemD (EN.draws (A:=X.A.in1) (show X.A.in1.handled=none from I.ok.hd b) f a S d.toArray) g ⟨M,(show s.heap.IsTuple a d.toArray from R)⟩ hl j (by simp only[Az,Bw,Bv,not_or];exact⟨j,Q.symm⟩) λy h' tk D B F ht hsz kk=>?_
  have hy:y=u:=by
   have h2:d[n]? = some y:=by simpa using D
   rw[hu]at h2;exact(BG h2).symm
  subst hy;refine⟨_,U,wpAny_letOwnedTupleGo_enum (s:={ s with heap:=h',toks:=tk+1 }) B λL g6 sb=>?_⟩;have p:∀c o,c∉[e,f]->s.heap.get? c=some o->L.get? c=some o:=λc o b z=>by simp only[Az,Bw,Bv,not_or]at b;exact sb.extBut _ _ b.1 (kk c o b.1 b.2 z)
  have new:ObjOk X.prog X.w (Y H s.heap.objs.size (.tup [.int (n:Nat),x])) L s.heap.objs.size (.tup [.int (n:Nat),x]):=
   ⟨by show 2<=sizeLine;decide,[.int n tk,y],.cons ⟨tk,U⟩ (.cons ru .nil),_,sb.extBut _ _ tz ht,U,0,U⟩
  have fr:H s.heap.objs.size=none:=I.hok.fresh (An _);obtain⟨oi,ei,ri⟩:=F.1;have N:f<s.heap.objs.size:=by obtain⟨o4,r,_⟩:=M;exact A0 r
  refine⟨.ref s.heap.objs.size,_,I.stepN (t':=tk+1) l p new,U,⟨_,x,U,fr,U,λzs hz=>by rw[I.tuple_inj hz m];exact T⟩,⟨⟨_,by simpa using g6⟩,oi,sb.extBut _ _ j.symm ei,ri⟩,λc b=>?_⟩
  have a0:c≠s.heap.objs.size:=by
   simp only[Az,Bw,Bv]at b;rcases b with rfl | rfl
   ·exact tz.symm
   exact Bk N
  rw[Af a0];exact(l c b).1
 done:=by
  intro X D hw hK b n C s σ H E I l st hg;subst D hw hK;obtain⟨xs,m,T⟩:=hg;obtain⟨⟨old,g⟩,M⟩:=st;obtain⟨d,rv,R,_⟩:=I.tuple m;have hl:=rv.length;have hsz:d.toArray.size=n:=by simp;lia
  have off:∀c∈[e,f],a≠c:=λc b z=>I.fpT m (z ▸ l c b);refine wpAny_pyNext_enum_endD (EN.draws (A:=X.A.in1) (show X.A.in1.handled=none from I.ok.hd b) f a (off f Θ) d.toArray) g ⟨by rw[hsz];exact M,(show s.heap.IsTuple a d.toArray from R)⟩ λh' eb=>⟨U,I.stepL (t':=s.toks) l λc o b z=>eb c o (λq=>b (by rw[q];simp)) z⟩
 self:=λ_ _ _ _ _ st h=>by obtain⟨⟨old,g⟩,_⟩:=st;exact wpAny_pyIter_enum g h
def nZ (K:W.Frag)(ta:TA):TI:=λσ H R=>ta σ H λvs H1=>∃a,vs=[.ref a]/\(∃xs,SqT K H1 a xs)/\R (Ks K a) H1
def QS {x1}(r:Gl X "enumerate")(w:X.mg "enumerate" = none)(E:bootBuiltins "enumerate" = some (.type "enumerate"))(B:PA X [a] ta)
  (z:starEach [a] X.env=[(false,eval a X.env)]:=by rfl):PI X (.Tuple elts x1 tp) (.Call (.Name "enumerate" p) [a] [] pos) (nZ X.K ta):=by
 intro g s v H R I h
 refine Call_ (JC I r w E (O3 (thn (B pos g s v H _ I h) λus b l=>?_) (by rw[z];rfl) Φ))
 obtain⟨vs,A,j,y,K⟩:=l
 obtain⟨x,rfl,⟨xs,L⟩,q⟩:=K
 obtain⟨u,rfl,G⟩:=CM y
 cases G
 obtain⟨f,M,D,_⟩:=j.tuple L
 refine callType_new F.called_enumerate Ξ (F.typeCall_enumerate_1 _) (F.newCall_enumerate_1 _) (λm=>F.args_object_init_2 m _) F.entry_enumerate_new (EN.make x f.toArray) ⟨show b.heap.IsTuple x f.toArray from D,?_⟩
 have C:(b.heap.push (ZT.zI x)).objs.size=b.heap.objs.size+1:=G9 ..
 have g2:((b.heap.push (ZT.zI x)).push (EN.oE b.heap.objs.size)).get? (b.heap.push (ZT.zI x)).objs.size=some _:=Bs _ U
 have g1:((b.heap.push (ZT.zI x)).push (EN.oE b.heap.objs.size)).get? b.heap.objs.size=some _:=AV _ (Bs _ U)
 have kept:∀c o,b.heap.get? c=some o->((b.heap.push (ZT.zI x)).push (EN.oE b.heap.objs.size)).get? c=some o:=λc o e=>AV _ (AV _ e)
 show _/\_
 refine⟨⟨_,g2,U⟩,wpAny_pyIter_enum (i:=0) (old:=.none) g2 ⟨_,[_,_],_,_,A,U,j.kept (t':=b.toks) kept,Yd _ b.heap.objs.size x (by rw[C];exact Fc (G5 _)),⟨⟨_,g2⟩,_,g1,U,U⟩,λc n=>?_,q⟩⟩
 have d:b.heap.objs.size<=c:=by simp only[Az,Bw,Bv]at n;rcases n with e | e <;> (rw[e];show @LE.le Nat _ _ _;lia)
 exact j.fpOk d (j.hok.fresh d)
end
end L2
namespace DP
open PySem PyProof.Rows
def lR:typeLookup (.type "list") "keys" = pure none:=by rw[OC,OV];kernel_rfl
def We:entryFor table "dict.update.loop" = some Builtin.«dict.update.loop»:=entryFor_of_fast (by kernel_rfl)
def NO:plainId "dict.update.loop" = true:=by decide +kernel
section
variable {prog:Program}{w:World}{A:Around}{E:Value->Shared->Prop}{s:Shared}
def mK (h:A.handled=none)(e:s.heap.get? a=some { cls:=.type "list",dict:=none,data:=.seq its n,slots:=#[] })
  (q:∀h' t',(∀b u,s.heap.get? b=some u->h'.get? b=some u)->Q none { s with heap:=h',toks:=t' }):wpAny (model prog w) A (getAttr? (.ref a) "keys") Q E s:=by
 (obtain⟨i,g,d,tk,os⟩:=s)
 have f:∀k,(⟨i,g,d,k,os⟩:Shared).TypeIs (.ref a) "list" := λ_=>⟨_,e,U⟩
 have f1:=sub_AttributeError
 (have f3:=SL.lookup)
 (have f4:=SL.bind (.ref a))
 (have f5:=am_list_getattr_none)
 (unfold getAttr? getAttrBy? getAttrBy)
 repeat (any_goals (first | assumption | exact f _ | ((with_reducible show wpAny _ _ (call (Value.builtin "list.__getattribute__") _ _) _ _ _);refine G1 SL (f _) am_entry_list_getattribute (F.args_list_getattribute_2 _ _) (meets_getattribute_miss_list a its n #[] "keys" _ lR Δ (by rw[AF];decide +kernel)) ⟨e,h,λo j l c=>?_⟩) | wp_step))
 obtain⟨m,p,r⟩:=c.there
 have v:=c.of
 (show wpAny _ _ (getattributeRaised _ _ _ _ _ _ _) _ _ _)
 (repeat (any_goals (first | assumption | wp_step)))
 exact q _ _ c.keeps
end
section
variable {prog:Program}{w:World}{κ:Type} [DecidableEq κ] {knd:KeyKind prog w κ}{A:Around}{R:Result->Shared->Prop}
def put (kvs:List (κ×Value)):List (κ×Value):=kvs.foldl (λacc p=>stored acc p.1 p.2) []
def aR (kvs:List (κ×Value))(p:κ×Value):put (kvs++[p])=stored (put kvs) p.1 p.2:=by unfold put;rw[List.foldl_append];rfl
def YS (kvs:List (κ×Value))(k:κ)(v:Value):(stored kvs k v).length<=kvs.length+1:=by
 unfold stored;split
 ·rw[Ai];lia
 rw[AG];exact An _
def aS:∀kvs:List (κ×Value),(put kvs).length<=kvs.length:=by
 have b:∀(kvs a:List (κ×Value)),(kvs.foldl (λa p=>stored a p.1 p.2) a).length<=a.length+kvs.length:=by
  intro kvs;induction kvs with
  | nil=>exact λa=>An _
  | cons p r ih=>intro a;have c:=ih (stored a p.1 p.2);have d:=YS a p.1 p.2;(rw[JX,Cy]);lia
 intro kvs;have:=b kvs [];rw[length_nil,Os]at this;exact this
def loop {I l D:Addr}{items:Array Value}{kvs:List (κ×Value)}{h0:Heap}(P:A.in1.handled=none)(Q:l≠I)(E:D≠I)(X:D≠l)(hz:kvs.length<=1000000)(hl:items.size=kvs.length)
  (G:∀(i:Nat) (k:κ) (v:Value),kvs[i]? = some (k,v)->∃t c n o,items[i]? = some (.ref t)/\t≠D/\t≠I/\knd.is k c=true/\h0.get? t=some o/\o.cls=.type "tuple" /\ o.data=.seq #[c,v] n) :
  ∀(m i:Nat) (s:Shared),kvs.length-i=m->i<=kvs.length->s.heap.IsListIter I l i->s.heap.IsList l items->s.heap.DictOf knd D (put (kvs.take i))->(∀b o,b≠D->b≠I->h0.get? b=some o->s.heap.get? b=some o) ->
   (∀(h':Heap) (t':Nat),h'.DictOf knd D (put kvs)->(∀b o,b≠D->b≠I->s.heap.get? b=some o->h'.get? b=some o)->R (.ok (.ret .none)) { s with heap:=h',toks:=t' }) ->
   codeAny (model prog w) A (.builtin "dict.update.loop" ⟨[.ref D,.ref I,.int (i:Nat) 0,.none],[]⟩) R s:=by
 intro m
 induction m with
 | zero=>
  intro i s N L st r p B fin;obtain rfl:i=kvs.length:=by lia
  rw[Cd]at p;refine EM We ?_;rw[FY NO _];refine Ac (m:=pyNext (.ref I)) (wpAny_pyNext_list_end P st r (by simp[hl]) λx q=>?_);show wpAny _ _ (Builtin.Dict.addKeywords D [] >>= λ_=>ret Value.none) _ _ _;refine Ac (m:=Builtin.Dict.addKeywords D []) (Aj (Aj (fin x s.toks ?_ λb o f d e=>q b o d e)));exact p.extBut q E
 | succ m ih=>
  intro i s N L st r p B fin;have lt:i<kvs.length:=by lia
  obtain⟨t,c,n,o,H,M,K,hk,ht,F,y⟩:=G i kvs[i].1 kvs[i].2 (AJ lt);have z:=B t _ M K ht;refine EM We ?_;rw[FY NO _];refine Ac (m:=pyNext (.ref I)) (wpAny_pyNext_list_item st r H λx C g=>?_);have h:=g.extBut _ _ K z;have q:put (kvs.take (i+1))=stored (put (kvs.take i)) kvs[i].1 kvs[i].2:=by rw[BL lt,aR]
  have u:=aS (kvs.take i);rw[Bh]at u;refine Ac (Dj (Ac (wpAny_tryCatch ?_)));unfold Builtin.Dict.pairItems;refine Ac (J8 (T := "tuple") ⟨_,h,F⟩ ?_);rw[Ar Ξ];refine Ac (Kc h y (Aj ?_));refine Dj (wpAny_dictSet_pairs (s:={ s with heap:=x }) hk (p.sameBut g E) (λh2 j a=>?_) (by rw[AF];lia));rw[<- q]at j;refine Aj ⟨G7 NO _,ih (i+1) _ Ψ lt (C.extBut a.extBut E.symm) ((r.extBut g.extBut Q).extBut a.extBut X.symm) j (λb o f d e=>a.extBut _ _ f (g.extBut _ _ d (B b o f d e))) λW t3 S k3=>fin W t3 S λb o f d e=>k3 b o f d (a.extBut _ _ f (g.extBut _ _ d e))⟩
end
section
variable {prog:Program}{w:World}{κ:Type} [DecidableEq κ] {knd:KeyKind prog w κ}{A:Around}{E:Value->Shared->Prop}{s:Shared}
def make (y:A.handled=none)(z:s.heap.get? l=some { cls:=.type "list",dict:=none,data:=.seq items n,slots:=#[] })(S:kvs.length<=1000000)(W:items.size=kvs.length)
  (x:∀(i:Nat) (k:κ) (v:Value),kvs[i]? = some (k,v)->∃t c n o,items[i]? = some (.ref t)/\knd.is k c=true/\s.heap.get? t=some o/\o.cls=.type "tuple" /\ o.data=.seq #[c,v] n)
  (q:∀(h':Heap) (tk:Nat),h'.DictOf knd s.heap.objs.size (put kvs)->(∀b o,s.heap.get? b=some o->h'.get? b=some o)->Q (.ref s.heap.objs.size) { s with heap:=h',toks:=tk }) :
  wpAny (model prog w) A (call (.type "dict") [.ref l]) Q E s:=by
 refine callType_codes (Q₁:=λh C=>h=.ref s.heap.objs.size/\C={ s with heap:=s.heap.push { cls:=.type "dict",data:=.dict #[] } }) F.kt_called_dict (F.kt_typeCall_dict_1 _) F.entry_dict_init (kt_code_dict_new _ ⟨U,U⟩) ?_
 rintro h C ⟨rfl,rfl⟩
 (have a:(s.heap.push { cls:=.type "dict",data:=.dict #[] }).DictOf knd s.heap.objs.size []:=Heap.DictOf.new s.heap)
 (refine⟨a.typeIs,F.args_dict_init_2 _ _,?_⟩)
 (unfold Builtin.«dict.__init__»)
 refine Ac ?_
 (unfold Builtin.Dict.selfAndRest)
 (refine Ac (wpAny_notOrdered_dict a.typeIs ?_))
 show wpAny _ _ (pure (s.heap.objs.size,[Value.ref l])) _ _ _
 refine Aj ?_
 show wpAny _ _ (Builtin.Dict.updateFrom "dict.__init__" s.heap.objs.size (.ref l) [] .none) _ _ _
 (unfold Builtin.Dict.updateFrom)
 have f:(s.heap.push { cls:=.type "dict",data:=.dict #[] }).get? l=some { cls:=.type "list",dict:=none,data:=.seq items n,slots:=#[] }:=AV _ z
 refine Ac (J8 (T := "list") ⟨_,f,U⟩ ?_)
 rw[Ar Ξ]
 refine Ac (mK (show A.in1.in1.handled=none from y) f λg t2 k2=>?_)
 rw[Ar (show(none:Option Value).isNone=true from U)]
 refine Ac (G3 ?_)
 have j:g.IsList l items:=⟨_,k2 _ _ f,U,n,U⟩
 refine Ac (Me j ?_)
 have m:s.heap.objs.size<g.objs.size:=by obtain⟨H,_,_,d,_⟩:=a;exact A0 (k2 _ _ d)
 have G:l<s.heap.objs.size:=A0 z
 have B:∀b o,s.heap.get? b=some o->(g.push { cls:=.type "list_iterator",data:=.fields #[.ref l,.int 0 0] }).get? b=some o:=λb o e=>AV _ (k2 _ _ (AV _ e))
 have u:(g.push { cls:=.type "list_iterator",data:=.fields #[.ref l,.int 0 0] }).DictOf knd s.heap.objs.size []:=by obtain⟨H,es,ep,d,r⟩:=a;exact⟨H,es,ep,AV _ (k2 _ _ d),r⟩
 refine Aj ⟨G7 NO _,loop (knd:=knd) (kvs:=kvs) (h0:=s.heap) (I:=g.objs.size) (l:=l) (D:=s.heap.objs.size) (items:=items) (show A.in1.in1.handled=none from y) (Bk (JU G m)) (Bk m) (Fc G) S W (λi k v e=>?_) (kvs.length-0) 0 _ U (Bn _) ⟨_,Bs _ U,U,U⟩ (j.push _) u (λb o _ _ e=>B b o e) λM X L k3=>⟨U,q M X L λb o e=>k3 b o (Bk (A0 e)) (Bk (JU (A0 e) m)) (B b o e)⟩⟩
 obtain⟨t,c,n,o,R,P,p,K,N⟩:=x i k v e
 exact⟨t,c,n,o,R,Bk (A0 p),Bk (JU (A0 p) m),P,p,K,N⟩
end
end DP
namespace L2
open PySem PyProof.Rows
section
variable {X:Cx}
def putAll (kvs:List (Key×V)):List (Key×V):=kvs.foldl (λacc p=>BW acc p.1 p.2) []
def KV.putAll:∀{kvs:List (Key×V)}{vs:List (Key×Value)},KV kvs vs->KV (L2.putAll kvs) (DP.put vs):=by
 have f:∀{kvs:List (Key×V)}{vs:List (Key×Value)}{a:List (Key×V)}{b:List (Key×Value)},KV kvs vs->KV a b->KV (kvs.foldl (λc p=>BW c p.1 p.2) a) (vs.foldl (λc p=>stored c p.1 p.2) b):=by
  intro kvs;induction kvs with
  | nil=>intro vs a b r d;cases r;exact d
  | cons p r ih=>
   intro vs a b e d;cases e with
   | cons h t=>rw[JX,JX,<- h.1];exact ih t (d.put _ h.2)
 intro kvs vs r;exact f r .nil
theorem Td:∀{a:List Addr}{us:List Value},Vals (a.map V.ref) us->us=a.map Value.ref
 | [],_,r=>by cases r;rfl
 | t::a,_,r=>by
  cases r with
  | cons h q=>cases h;rw[Td q];rfl
def aT (kvs:List (Key×V)):(L2.putAll kvs).length<=kvs.length:=by
 have c:∀(kvs a:List (Key×V)),(kvs.foldl (λb p=>BW b p.1 p.2) a).length<=a.length+kvs.length:=by
  intro kvs;induction kvs with
  | nil=>exact λa=>An _
  | cons p r ih=>intro a;have d:=ih (BW a p.1 p.2);have e:=JA a p.1 p.2;(rw[JX,Cy]);lia
 have:=c kvs [];rw[length_nil,Os]at this;exact this
theorem U6 (ok:HOk P w H h):∀(b:List Addr) (kvs:List (Key×V)),b.length=kvs.length->(∀(i:Nat) (t:Addr) (k:Key) (v:V),b[i]? = some t->kvs[i]? = some (k,v)->H t=some (.tup [kV k,v])) ->
  ∃vs:List (Key×Value),KV kvs vs/\∀(i:Nat) (k:Key) (v:Value),vs[i]? = some (k,v)->∃t a n o,b[i]? = some t/\(BE P w).is k a=true/\h.get? t=some o/\o.cls=.type "tuple" /\ o.data=.seq #[a,v] n
 | [],[],_,_=>⟨[],.nil,λi k v e=>by simp at e⟩
 | [],_::_,hl,_=>by cases hl
 | _::_,[],hl,_=>by cases hl
 | t::b,(k,v)::kvs,hl,hh=>by
  obtain⟨vs,r,q⟩:=U6 ok b kvs (J7 hl) λi t' c f A x=>hh (i+1) t' c f (by simpa using A) (by simpa using x);obtain⟨z,g,C,o,B,D,n,p⟩:=ok t _ (hh 0 t k v U U);obtain⟨y,u,rfl,l,d⟩:=Kt C;refine⟨(k,u)::vs,.cons ⟨U,d⟩ r,λi c f e=>?_⟩;cases i with
  | zero=>cases e;exact⟨t,y,n,o,U,EH l,B,D,p⟩
  | succ i=>obtain⟨t',a,j,m,s,E⟩:=q i c f (by simpa using e);exact⟨t',a,j,m,by simpa using s,E⟩
def WW (M:X.calm=true):Cs X (.type "dict") (λxs H Q=>∃(p:Addr) (c:List Addr) (kvs:List (Key×V)),xs=[.ref p]/\H p=some (.lst (c.map V.ref))/\c.length=kvs.length/\kvs.length<=1000 /\
  (∀(i:Nat) (t:Addr) (k:Key) (v:V),c[i]? = some t->kvs[i]? = some (k,v)->H t=some (.tup [kV k,v]))/\∀d,H d=none->Q (.ref d) (Y H d (.dK (putAll kvs)))):=by
 intro g s T H xs us Q I r h
 obtain⟨p,c,kvs,rfl,F,P,W,D,q⟩:=h
 obtain⟨u,rfl,E⟩:=CM r
 cases E
 obtain⟨z,m,n,y,b,e⟩:=I.lstM F
 obtain⟨vs,j,at'⟩:=U6 I.hok c kvs P D
 have C:=Td y
 subst C
 have R:=j.length
 rw[Ai]at b
 refine DP.make (knd:=BE X.prog X.w) (kvs:=vs) (I.ok.hd M) e Ψ (by rw[BJ,Ai];lia) (λi k v N=>?_) λh' tk w A=>?_
 ·obtain⟨t,f,l,o,x,L,B,S,G⟩:=at' i k v N;exact⟨t,f,l,o,by rw[R7,AQ,x];rfl,L,B,S,G⟩
 have K:=aT kvs
 have hs:sizeLine=16777216:=AF
 have big:=I.big
 refine⟨.ref _,_,I.laid (a:=s.heap.objs.size) (o:=.dK (putAll kvs)) (t':=tk) A (An _) ⟨Ψ,?_,_,KV.putAll j,w⟩,U,q _ (I.hok.fresh (An _))⟩
 exact GV.mpr (Fc big)
end
end L2
namespace LP
open PySem PyProof.Rows
section
variable {prog:Program}{w:World}{A:Around}{E:Value->Shared->Prop}{s:Shared}
def store {k:Int}{t:Tok} (b:s.heap.get? l=some { cls:=.type "list",data:=.seq its n })(h0:0<=k)(c:k<2^63)(f:k<its.size)
  (q:Q () { s with heap:=s.heap.update l (Obj.mapSeq (·.setIfInBounds k.toNat v)) }):wpAny (model prog w) A (setItem (.ref l) (.int k t) v) Q E s:=by
 have a:s.TypeIs (.ref l) "list" := ⟨_,b,U⟩
 unfold setItem
 try with_reducible refine Dj ?_
 first | refine Ac (Aj ?_) | skip
 refine Ac (wpAny_sequenceKey a Ξ ?_)
 refine Ac (F0 (name:=Str.ofString "__setitem__") a slot_list_setitem (DC slot_list_setitem a entry_list_setitem ?_ (args_list_setitem _ _ _)))
 (show wpAny _ _ (Builtin.List.listSubscript? (.int k t) >>= _) _ _ s)
 refine Ac (wpAny_listSubscript_int (fitsIndex_of h0 c) ?_)
 clear c
 (obtain⟨j,rfl⟩:=Int.eq_ofNat_of_zero_le h0)
 have e:j<its.size:=by lia
 have d:its[j]? = some its[j]:=ES e
 (show wpAny _ _ ((seqItemAt l j >>= λr=>pure (r.map (j,·))) >>= _) _ _ s)
 (refine Ac (Ac (wpAny_seqItemAt b U (Aj ?_))))
 rw[d]
 (show wpAny _ _ (setSeqItemAt l j v >>= _) _ _ s)
 (refine Ac (wpAny_setSeqItemAt b U ?_))
 first
  | exact Ac (Aj (Aj ⟨.none,U,Aj q⟩))
  | exact Aj ⟨.none,U,Aj q⟩
end
end LP
namespace L2
open PySem PyProof.Rows
section
variable {X:Cx}
theorem Vals.setAt:∀{xs:List V}{us:List Value}(j:Nat) {y:V}{u:Value},Vals xs us->RelV y u->Vals (xs.set j y) (us.set j u)
 | [],_,j,_,_,r,_=>by cases r;exact .nil
 | x::xs,_,j,y,u,r,ry=>by
  cases r with
  | cons h t=>
   cases j with
   | zero=>exact .cons ry t
   | succ j=>exact .cons h (Vals.setAt j t ry)
def ZO (tl ti tv:TE):TS:=λD σ H=>tv σ H λv H1=>tl σ H1 λx H2=>ti σ H2 λy H3=>∃(a:Addr) (xs:List V) (j:Nat),x=.ref a/\y=.int (j:Nat)/\H3 a=some (.lst xs)/\j<xs.length/\D.nx σ (Y H3 a (.lst (xs.set j v)))
def bA (B:PE X o tl)(m:PE X i ti)(L:PE X value tv)(S:swapsWith value (some (.Subscript o i pos')) pos.line X.env=pure false):PS X (.Assign [.Subscript o i pos'] value pos) (ZO tl ti tv):=by intro b s c H D I h;refine wpAny_Assign_Subscript (thn (L b s c H _ I h) λr F f=>?_) S;obtain⟨v,C,w,E,P⟩:=f;refine thn (B b F c C _ w P) ?_;rintro u s2⟨x,N,Q,p,G⟩;refine thn (m b s2 c N _ Q G) ?_;rintro iv s3⟨y,T,l,A,M⟩;obtain⟨a,xs,j,rfl,rfl,g,W,q⟩:=M;cases p;obtain⟨t,rfl⟩:=A;obtain⟨z,d,n,K,hl,e⟩:=l.lstM g;have R:=AF;exact LP.store e (Int.natCast_nonneg j) Ψ (by rw[BJ];lia) ⟨c,_,l.lset (its':=d.set j r) (t':=s3.toks) g e Θ (K.setAt j E) (by rw[FU];exact z),q⟩
end
end L2
namespace SI
open PySem PySem.W PyProof.Rows
def run {α:Type}(f:Nat->Nat->Bool):KasT α->α
 | .ret a=>a
 | .ask i j k=>run f (k (f i j))
def good {α:Type}(n:Nat):KasT α->Bool
 | .ret _=>true
 | .ask i j k=>(decide (i<n) && decide (j<n) && decide (i≠j)) && (good n (k true) && good n (k false))
def VP {a:Type}{n:Nat}{k:Bool->KasT a}(h:(good n (k true) && good n (k false))=true)(b:Bool):good n (k b)=true:=by
 rw[BV]at h;cases b with
 | true=>exact h.1
 | false=>exact h.2
theorem Up {c:Type}{n:Nat}{f:Nat->Nat->Bool}{a:Nat->Nat->(Bool->Shared->Prop)->Shared->Prop}{Q:c->Shared->Prop}{s:Shared}(b:∀i j (C:Bool->Shared->Prop),i<n->j<n->i≠j->C (f i j) s->a i j C s) :
  ∀t:KasT c,good n t=true->Q (run f t) s->t.kasWp a Q s
 | .ret _,_,h=>h
 | .ask i j k,g,h=>by unfold good at g;rw[BV,BV,BV]at g;have g2:=g.2;exact b i j _ (Bf g.1.1.1) (Bf g.1.1.2) (Bf g.1.2) (Up b (k (f i j)) (VP g2 _) h)
theorem NF {b:Type}{n:Nat}{f g:Nat->Nat->Bool}(a:∀i j,i<n->j<n->i≠j->f i j=g i j):∀t:KasT b,good n t=true->run f t=run g t
 | .ret _,_=>rfl
 | .ask i j k,q=>by unfold good at q;rw[BV,BV,BV]at q;have g2:=q.2;show run f (k (f i j))=run g (k (g i j));rw[a i j (Bf q.1.1.1) (Bf q.1.1.2) (Bf q.1.2)];exact NF a _ (VP g2 _)
def VT:good 2 (kas_sort 2)=true:=by decide +kernel
def VS:good 3 (kas_sort 3)=true:=by decide +kernel
def VR:good 4 (kas_sort 4)=true:=by decide +kernel
def f4 (a b c d e g:Bool):Nat->Nat->Bool
 | 0,1=>a
 | 1,0=>!a
 | 0,2=>b
 | 2,0=>!b
 | 0,3=>c
 | 3,0=>!c
 | 1,2=>d
 | 2,1=>!d
 | 1,3=>e
 | 3,1=>!e
 | 2,3=>g
 | 3,2=>!g
 | _,_=>false
def Iw (a b c:Bool):Bool:=!(a && c && !b) && !(!a && !c && b)
def f3 (a b c:Bool):Nat->Nat->Bool
 | 0,1=>a
 | 1,0=>!a
 | 0,2=>b
 | 2,0=>!b
 | 1,2=>c
 | 2,1=>!c
 | _,_=>false
def Ge (f:Nat->Nat->Bool)(p:List Nat)(n:Nat):Bool:=decide (p.Perm (List.range n)) && (p.zip p.tail).all λq=>f q.1 q.2
def s2:∀a:Bool,Ge (f3 a false false) (run (f3 a false false) (kas_sort 2)).toList 2=true:=by decide +kernel
def s3:∀a b c:Bool,(!(a && c && !b) && !(!a && !c && b))=true->Ge (f3 a b c) (run (f3 a b c) (kas_sort 3)).toList 3=true:=by decide +kernel
def s4:∀a b c d e g:Bool,(Iw a b d && Iw a c e && Iw b c g && Iw d e g)=true->Ge (f4 a b c d e g) (run (f4 a b c d e g) (kas_sort 4)).toList 4=true:=by decide +kernel
section
variable {prog:Program}{w:World}{A:Around}{E:Value->Shared->Prop}{s:Shared}
def Y6 (D:s.heap.get? a=some (seqObj "list" vs.toArray n))(h3:vs.length<=4)
  (H:2<=vs.length->∀h',(∀b o,b≠a->s.heap.get? b=some o->h'.get? b=some o)->wpAny (model prog w) A (keyKind' vs.toArray) (λN s'=>s'={ s with heap:=h' }/\∀i j (C:Bool->Shared->Prop),i<vs.length->j<vs.length->i≠j->C (f i j) s'->kas_ask prog w A N vs i j C s') (λ_ _=>False) { s with heap:=h' })
  (fin:∀h' c (p:List Nat),p.length=vs.length->(2<=vs.length->p=(run f (kas_sort vs.length)).toList)->(vs.length<2->p=List.range vs.length)->(∀b o,b≠a->s.heap.get? b=some o->h'.get? b=some o)->h'.get? a=some (seqObj "list" (p.map λi=>vs.getD i Value.none).toArray c)->P (.done (.ret .none)) { s with heap:=h' }) :
  (wpAny (model prog w) A (Builtin.«list.sort» ⟨[.ref a],[]⟩) P E s):=by
 (have X:a<s.heap.objs.size:=A0 D)
 have R:=FX s.heap a (Obj.mapSeq λ_=>(#[]:Array Value))
 (obtain⟨B,v⟩:∃B,(s.heap.update a (Obj.mapSeq λ_=>(#[]:Array Value))).get? a=some (seqObj "list" #[] B):=⟨_,get?_update_seq D λ_=>#[]⟩)
 rw[list_sort_plain]
 (refine Ac (listItems_at D U ?_))
 (refine Ac (listUpdate_at D U ?_ (by rw[BJ,AF];lia) (Bn _)))
 (refine Ac (seqEpoch_at v U ?_))
 (refine Ac (wpAny_newTuple ?_ (by show vs.length<=_;rw[AF];lia)))
 (refine Ac (wpAny_newList ?_ (Bn _)))
 refine Dj ?_
 have keep:∀b o,b≠a->s.heap.get? b=some o->(((s.heap.update a (Obj.mapSeq λ_=>(#[]:Array Value))).push (seqObj "tuple" vs.toArray 0)).push (seqObj "list" #[] 0)).get? b=some o:=λb o q e=>AV _ (AV _ ((R.2 b q).trans e))
 have d:(((s.heap.update a (Obj.mapSeq λ_=>(#[]:Array Value))).push (seqObj "tuple" vs.toArray 0)).push (seqObj "list" #[] 0)).get? a=some (seqObj "list" #[] B):=AV _ (AV _ v)
 (show wpAny (model prog w) A _ P E { s with heap:=((s.heap.update a (Obj.mapSeq λ_=>(#[]:Array Value))).push (seqObj "tuple" vs.toArray 0)).push (seqObj "list" #[] 0) })
 generalize ((s.heap.update a (Obj.mapSeq λ_=>(#[]:Array Value))).push (seqObj "tuple" vs.toArray 0)).push (seqObj "list" #[] 0)=l at keep d ⊢
 dsimp only
 by_cases y:vs.length<2
 ·have h:vs.toArray.size<2:=by rw[BJ];exact y
  rw[Ar h,Ar h];refine Ac (Aj ?_);refine Ac (J0 (a:=((),SortSt.mk' general' (vs.toArray.zip vs.toArray) #[] 7 none)) U ?_);dsimp only;have g:(arrOf (SortSt.mk' general' (vs.toArray.zip vs.toArray) #[] 7 none)).map (·.2)=((List.range vs.length).map λi=>vs.getD i Value.none).toArray:=by show((vs.toArray.zip vs.toArray).map (·.2))=_;apply Ke.mp;rw[Array.toList_map,Array.toList_zip,List.toList_toArray,List.map_snd_zip (An _)];refine ext_getElem Θ λk l y=>?_;simp[CA,l]
  rw[g];have L:(List.range vs.length).length=vs.length:=Em;have F:=FX l a (Obj.mapSeq λ_=>((List.range vs.length).map λi=>vs.getD i Value.none).toArray);obtain⟨r,u⟩:∃r,(l.update a (Obj.mapSeq λ_=>((List.range vs.length).map λi=>vs.getD i Value.none).toArray)).get? a=some (seqObj "list" ((List.range vs.length).map λi=>vs.getD i Value.none).toArray r):=⟨_,get?_update_seq d λ_=>((List.range vs.length).map λi=>vs.getD i Value.none).toArray⟩;refine Ac (seqEpoch_at d U ?_);refine Ac (listUpdate_at d U ?_ (Bn _) (by rw[BJ,Ai,AF];lia));show wpAny _ _ (if (B != B)=true then _ else _) _ _ _;rw[Ak Θ];exact Aj (fin _ r _ L (λz=>absurd y Ψ) (λ_=>U) (λb o q e=>(F.2 b q).trans (keep b o q e)) u)
 have h:¬vs.toArray.size<2:=by rw[BJ];exact y
 rw[Ak h,Ak h]
 refine Ac (CZ (H Ψ l keep) (λN s0 I=>?_) λ_ _ x=>x.elim)
 obtain⟨rfl,I⟩:=I
 refine Ac (CZ (kat_run (Q:=λm s'=>s'={ s with heap:=l }/\∃p:Array Nat,p.size=vs.length/\arrOf m=p.map (kas_item (vs.toArray.zip vs.toArray))/\failedOf m=none/\p=run f (kas_sort vs.length)) (G:=λp s'=>s'={ s with heap:=l }/\p=run f (kas_sort vs.length)) U Ψ Ψ (λp m s' W T S M=>⟨M.1,p,W,T,S,M.2⟩) (Up I _ ?_ ⟨U,U⟩)) ?_ λ_ _ e=>e)
 ·rcases(by lia:vs.length=2\/vs.length=3\/vs.length=4)with e | e | e
  ·rw[e];exact VT
  ·rw[e];exact VS
  rw[e];exact VR
 rintro⟨⟨⟩,m⟩ s' ⟨rfl,p,L,har,hf,hpe⟩
 dsimp only
 have g:=kat_snds U har
 have K:p.toList.length=vs.length:=by rw[DF];exact L
 rw[g]
 have F:=FX l a (Obj.mapSeq λ_=>(p.toList.map λi=>vs.getD i Value.none).toArray)
 obtain⟨r,u⟩:∃r,(l.update a (Obj.mapSeq λ_=>(p.toList.map λi=>vs.getD i Value.none).toArray)).get? a=some (seqObj "list" (p.toList.map λi=>vs.getD i Value.none).toArray r):=⟨_,get?_update_seq d λ_=>(p.toList.map λi=>vs.getD i Value.none).toArray⟩
 refine Ac (seqEpoch_at d U ?_)
 refine Ac (listUpdate_at d U ?_ (Bn _) (by rw[BJ,Ai,AF];lia))
 rw[hf]
 (simp only[Sa,E8,Es])
 exact Aj (fin _ r _ K (λ_=>by rw[hpe]) (λz=>absurd z y) (λb o q e=>(F.2 b q).trans (keep b o q e)) u)
def O8 (h:Heap)(as:List Addr)(ks:List Str):Prop:=as.length=ks.length/\∀(i:Nat) a k,as[i]? = some a->ks[i]? = some k->∃t x,h.get? a=some { cls:=.type "tuple",data:=.seq #[.str k t,x] }
def lt (ks:List Str)(i j:Nat):Bool:=decide ((ks.getD i Str.empty).cps.toList<(ks.getD j Str.empty).cps.toList)
theorem Tu :∀{c:List Addr}{ks:List Str},O8 h c ks->∃fs:List Value,KatTups h (c.map Value.ref) fs/\fs.length=ks.length/\∀v∈fs,∃k t,v=.str k t
 | [],[],_=>⟨[],.nil,U,λv d=>nomatch d⟩
 | [],_::_,h=>by have:=h.1;simp at this
 | _::_,[],h=>by have:=h.1;simp at this
 | a::c,k::ks,hp=>by
  obtain⟨t,x,e⟩:=hp.2 0 a k U U;obtain⟨fs,f1,f2,f3⟩:=Tu ⟨by have:=hp.1;simpa using this,λi b l f g=>hp.2 (i+1) b l (by simpa using f) (by simpa using g)⟩;refine⟨.str k t::fs,.cons e U U U f1,by simp[f2],λv d=>?_⟩;rcases(Az.mp d)with e | e
  ·exact⟨k,t,e⟩
  exact f3 v e
def Ye (a:O8 s.heap as ks)(nd:ks.Nodup)(p:2<=as.length) :
  wpAny (model prog w) A (keyKind' (as.map Value.ref).toArray) (λh s'=>s'=s/\∀i j (C:Bool->Shared->Prop),i<(as.map Value.ref).length->j<(as.map Value.ref).length->i≠j->C (lt ks i j) s'->kas_ask prog w A h (as.map Value.ref) i j C s') E s:=by
 obtain⟨fs,f1,f2,f3⟩:=Tu a
 have D:=a.1
 refine kat_kind (T:=.type "str") f1 Ψ (λv n o r B s' _ q=>?_) Ξ ⟨U,λi j C c g e b=>?_⟩
 ·obtain⟨k,t,rfl⟩:=f3 v n;exact J8 (T := "str") U q
 rw[Ai]at c g
 obtain⟨t,x,m⟩:=a.2 i as[i] (ks[i]'Ψ) (AJ c) (AJ Ψ)
 obtain⟨u,y,l⟩:=a.2 j as[j] (ks[j]'Ψ) (AJ g) (AJ Ψ)
 have f:ks[i]'Ψ≠ks[j]'Ψ:=λz=>e ((F3 nd).mp z)
 unfold kas_ask
 have g1:(as.map Value.ref).getD i Value.none=.ref as[i]:=by simp[CA,c]
 have g2:(as.map Value.ref).getD j Value.none=.ref as[j]:=by simp[CA,g]
 rw[g1,g2]
 refine kat_lt m U l U ?_
 show KatLex prog w A true _ C [(.str _ t,.str _ u),(x,y)] 0 s
 refine kat_cons (wpAny_eqBool_str ?_)
 rw[BR f]
 refine kat_no ?_
 have d:C (decide ((ks[i]'Ψ).cps.toList<(ks[j]'Ψ).cps.toList)) s:=by unfold lt at b;rw[show ks.getD i Str.empty=ks[i]'Ψ by simp[CA,(by lia:i<ks.length)],show ks.getD j Str.empty=ks[j]'Ψ by simp[CA,(by lia:j<ks.length)]]at b;exact b
 exact oneLt_str d
end
def Dz (nd:ks.Nodup)(h:i<ks.length)(o:j<ks.length)(g:i≠j):lt ks j i=!lt ks i j:=by
 have m:ks.getD i Str.empty=ks[i]:=by simp[CA,h]
 have l:ks.getD j Str.empty=ks[j]:=by simp[CA,o]
 have c:ks[i]≠ks[j]:=λz=>g ((F3 nd).mp z);unfold lt;rw[m,l];generalize ks[i]=a at c;generalize ks[j]=b at c;by_cases f:a.cps.toList<b.cps.toList
 ·have d:¬b.cps.toList<a.cps.toList:=List.lt_asymm f;rw[AU f,BR d];rfl
 have d:b.cps.toList<a.cps.toList:=by refine Decidable.byContradiction λd=>c ?_;have e:a.cps.toList=b.cps.toList:=List.le_antisymm (not_lt.mp d) (not_lt.mp f);have n:a.cps=b.cps:=Ke.mp e;cases a;cases b;cases n;rfl
 rw[BR f,AU d];rfl
def N6 {ks:List Str}{i j k:Nat}(a:lt ks i j=true)(b:lt ks j k=true):lt ks i k=true:=AU (List.lt_trans (Bf a) (Bf b))
def Y5 (nd:ks.Nodup)(C:2<=ks.length)(D:ks.length<=4):Ge (lt ks) (run (lt ks) (kas_sort ks.length)).toList ks.length=true:=by
 have b:∀(g:Nat->Nat->Bool) (n:Nat) (p:List Nat),(∀i j,i<n->j<n->i≠j->lt ks i j=g i j)->Ge g p n=true->Ge (lt ks) p n=true:=λg n p c l=>by
  unfold Ge at l ⊢;rw[BV]at l ⊢;refine⟨l.1,?_⟩;have a:=Bf l.1;rw[DB]at l ⊢;have z:=l.2;intro q s;have x:=z q s;have F:q.1∈p:=(L0 s).1;have E:q.2∈p:=List.mem_of_mem_tail (L0 s).2;have o:p.Nodup:=a.nodup_iff.mpr R4;have y:q.1≠q.2:=λe=>by obtain⟨k,v⟩:=EL s;rw[LX,List.getElem?_tail]at v;obtain⟨L,I⟩:=Ay.mp v.1;obtain⟨K,G⟩:=Ay.mp v.2;have:=(F3 o).mp (I.trans (e.trans G.symm));lia
  rw[c q.1 q.2 (Do.mp (a.mem_iff.mp F)) (Do.mp (a.mem_iff.mp E)) y];exact x
 rcases(by lia:ks.length=2\/ks.length=3\/ks.length=4)with e | e | e
 ·rw[e]
  have c:∀i j,i<2->j<2->i≠j->lt ks i j=f3 (lt ks 0 1) false false i j:=λi j w B r=>by
   rcases(by lia:(i=0/\j=1)\/(i=1/\j=0))with⟨rfl,rfl⟩ | ⟨rfl,rfl⟩
   ·rfl
   exact Dz nd Ψ Ψ Ψ
  rw[NF c _ VT];exact b _ 2 _ c (s2 _)
 ·rw[e]
  have c:∀i j,i<3->j<3->i≠j->lt ks i j=f3 (lt ks 0 1) (lt ks 0 2) (lt ks 1 2) i j:=λi j w B r=>by
   rcases(by lia:(i=0/\j=1)\/(i=1/\j=0)\/(i=0/\j=2)\/(i=2/\j=0)\/(i=1/\j=2)\/(i=2/\j=1))with⟨rfl,rfl⟩ | ⟨rfl,rfl⟩ | ⟨rfl,rfl⟩ | ⟨rfl,rfl⟩ | ⟨rfl,rfl⟩ | ⟨rfl,rfl⟩
   ·rfl
   ·exact Dz nd Ψ Ψ Ψ
   ·rfl
   ·exact Dz nd Ψ Ψ Ψ
   ·rfl
   exact Dz nd Ψ Ψ Ψ
  rw[NF c _ VS];refine b _ 3 _ c (s3 _ _ _ ?_);have f:=Dz (i:=0) (j:=1) nd Ψ Ψ Ψ;have d:=Dz (i:=0) (j:=2) nd Ψ Ψ Ψ;have h:=Dz (i:=1) (j:=2) nd Ψ Ψ Ψ;have A:=@N6 ks 0 1 2;have m:=@N6 ks 2 1 0;rw[f,d,h]at m;revert A m;cases lt ks 0 1 <;> cases lt ks 0 2 <;> cases lt ks 1 2 <;> simp
 rw[e]
 have c:∀i j,i<4->j<4->i≠j->lt ks i j=f4 (lt ks 0 1) (lt ks 0 2) (lt ks 0 3) (lt ks 1 2) (lt ks 1 3) (lt ks 2 3) i j:=λi j w B r=>by
  rcases(by lia:(i=0/\j=1)\/(i=1/\j=0)\/(i=0/\j=2)\/(i=2/\j=0)\/(i=0/\j=3)\/(i=3/\j=0)\/(i=1/\j=2)\/(i=2/\j=1)\/(i=1/\j=3)\/(i=3/\j=1)\/(i=2/\j=3)\/(i=3/\j=2))with⟨rfl,rfl⟩ | ⟨rfl,rfl⟩ | ⟨rfl,rfl⟩ | ⟨rfl,rfl⟩ | ⟨rfl,rfl⟩ | ⟨rfl,rfl⟩ | ⟨rfl,rfl⟩ | ⟨rfl,rfl⟩ | ⟨rfl,rfl⟩ | ⟨rfl,rfl⟩ | ⟨rfl,rfl⟩ | ⟨rfl,rfl⟩
  ·rfl
  ·exact Dz nd Ψ Ψ Ψ
  ·rfl
  ·exact Dz nd Ψ Ψ Ψ
  ·rfl
  ·exact Dz nd Ψ Ψ Ψ
  ·rfl
  ·exact Dz nd Ψ Ψ Ψ
  ·rfl
  ·exact Dz nd Ψ Ψ Ψ
  ·rfl
  exact Dz nd Ψ Ψ Ψ
 rw[NF c _ VR];refine b _ 4 _ c (s4 _ _ _ _ _ _ ?_);have u:∀i j k,i<4->j<4->k<4->i≠j->i≠k->j≠k->Iw (lt ks i j) (lt ks i k) (lt ks j k)=true:=λi j k w B v H C D=>by have f:=Dz (i:=i) (j:=j) nd Ψ Ψ H;have d:=Dz (i:=i) (j:=k) nd Ψ Ψ C;have h:=Dz (i:=j) (j:=k) nd Ψ Ψ D;have A:=@N6 ks i j k;have m:=@N6 ks k j i;rw[f,d,h]at m;unfold Iw;revert A m;cases lt ks i j <;> cases lt ks i k <;> cases lt ks j k <;> simp
 rw[u 0 1 2 Ξ Ξ Ξ Ξ Ξ Ξ,u 0 1 3 Ξ Ξ Ξ Ξ Ξ Ξ,u 0 2 3 Ξ Ξ Ξ Ξ Ξ Ξ,u 1 2 3 Ξ Ξ Ξ Ξ Ξ Ξ];rfl
section
variable {prog:Program}{w:World}{A:Around}{E:Value->Shared->Prop}{s:Shared}
def items_sorted {H:Type}[DecidableEq H]{knd:PySem.KeyKind prog w H}{kvs:List (H×Value)}{ep:Nat}{r d:Addr}{ks:List Str}{Q:Value->Shared->Prop}(hh:A.handled=none)(hv:s.heap.IsItemsView r d)(hm:s.heap.DictAt knd d kvs ep)(hn:kvs.length<=4)(D:ks.length=kvs.length)
  (G:∀(j:Nat) k x g,kvs[j]? = some (k,x)->knd.is k g=true->∃y t,ks[j]? = some y/\g=.str y t)(nd:ks.Nodup)
  (h:∀(l h':Heap) (tk:Nat) (n:List Addr) (p:List Nat) (c:Nat),(∀b o,s.heap.get? b=some o->l.get? b=some o)->n.length=kvs.length->KdxG knd kvs s.heap.objs.size l n->p.Perm (List.range kvs.length)->((p.zip p.tail).all λq=>lt ks q.1 q.2)=true->(∀b o,l.get? b=some o->h'.get? b=some o) -> h'.get? l.objs.size=some (seqObj "list" (p.map λi=>(n.map Value.ref).getD i Value.none).toArray c)->Q (.ref l.objs.size) { s with heap:=h',toks:=tk }):wpAny (model prog w) A (call (.builtin "sorted") [.ref r]) Q E s:=by
 have X:=args_sorted1 (.ref r)
 refine SO kind_sorted plain_sorted entry_sorted X ?_
 unfold Builtin.«sorted»
 (refine Ac (m:=checkCount "sorted" 1 1 _) (Aj ?_))
 have a0:sizeLine=16777216:=AF
 refine Ac (kdx_collect (A:=A.in1) (knd:=knd) (kvs:=kvs) (ep:=ep) hh hv hm Ψ λl tk n hk F K=>?_)
 refine Ac (wpAny_newList ?_ (by rw[Ai];lia))
 have C:(l.push (seqObj "list" (n.map Value.ref).toArray 0)).get? l.objs.size=some (seqObj "list" (n.map Value.ref).toArray 0):=Bs _ U
 have T:O8 l n ks:=⟨by rw[F,D],λi a k v u=>by obtain⟨g,k2,x,e1,e2,W⟩:=K.pairs i a v;obtain⟨y,t,R,rfl⟩:=G i k2 x g e1 e2;rw[u]at R;cases R;exact⟨t,x,W⟩⟩
 have N:∀a∈n,a≠l.objs.size:=λa v=>Bk (K.there v)
 refine Ac (Dj (DC slot_list_sort ⟨_,C,U⟩ entry_list_sort ?_ (args_list_sort _)))
 refine Y6 (f:=lt ks) (s:={ s with heap:=l.push (seqObj "list" (n.map Value.ref).toArray 0),toks:=tk }) C (by rw[Ai];lia) (λI h' M=>?_) (λh' c p hp P S M hB=>?_)
 ·rw[Ai]at I;have L:O8 h' n ks:=⟨T.1,λi a k v u=>by obtain⟨t,x,e⟩:=T.2 i a k v u;exact⟨t,x,M a _ (N a (Br v)) (AV _ e)⟩⟩;exact Ye (s:={ s with heap:=h',toks:=tk }) L nd I
 rw[Ai]at hp P S
 have ext:∀b o,l.get? b=some o->h'.get? b=some o:=λb o e=>M b o (Bk (A0 e)) (AV _ e)
 have g:p.Perm (List.range kvs.length)/\((p.zip p.tail).all λq=>lt ks q.1 q.2)=true:=by
  by_cases I:2<=kvs.length
  ·have e:=P Ψ;have B:=Y5 nd Ψ Ψ;rw[D,<- F,<- e]at B;unfold Ge at B;rw[BV]at B;rw[<- F];exact⟨Bf B.1,B.2⟩
  have e:=S Ψ;rw[e,F];refine⟨.refl _,?_⟩;rcases(by lia:kvs.length=0\/kvs.length=1)with z | z <;> (rw[z];rfl)
 exact⟨_,U,Aj ⟨_,U,h l h' tk n p c hk F K g.1 g.2 ext hB⟩⟩
end
end SI
namespace L2
open PySem PySem.W PyProof.Rows
section
variable {X:Cx}{dv:List (Addr×Obj)}{σ:St}
def O7 (H:Hp)(as:List Addr)(ps:List (Str×V)):Prop:=as.length=ps.length/\∀(i:Nat) a p,as[i]? = some a->ps[i]? = some p->H a=some (.tup [.str p.1,p.2])
def FpOk.off (h:FpOk X dv H a)(n:a≠b):FpOk X dv (Y H b o) a:=⟨(Af n)▸h.1,h.2⟩
theorem TC :∀(c:List Addr) (ps:List (Str×V)) (H:Hp),Inv X dv σ H s->c.Nodup->c.length=ps.length->(∀a∈c,FpOk X dv H a) ->
  (∀(i:Nat) a p,c[i]? = some a->ps[i]? = some p->∃u t,RelV p.2 u/\s.heap.get? a=some { cls:=.type "tuple",data:=.seq #[.str p.1 t,u] })->∃H',Inv X dv σ H' s/\Same H H'/\O7 H' c ps
 | [],[],H,I,_,_,_,_=>⟨H,I,Same.refl _,U,λi a p h=>by simp at h⟩
 | [],_::_,_,_,_,h,_,_=>by simp at h
 | _::_,[],_,_,_,h,_,_=>by simp at h
 | a::c,p::ps,H,I,nd,hl,hf,hp=>by
  obtain⟨u,t,n,e⟩:=hp 0 a p U U;have j:=hf a A9;have f:=B6.mp nd;have l:Inv X dv σ (Y H a (.tup [.str p.1,p.2])) s:=I.trackF j ⟨by show 2<=sizeLine;decide,[.str p.1 t,u],.cons ⟨t,U⟩ (.cons n .nil),_,e,U,0,U⟩;obtain⟨H',o,s',m⟩:=TC c ps _ l f.2 (by simpa using hl) (λb d=>(hf b (AY _ d)).off λz=>f.1 (z ▸ d)) (λi b q d g=>hp (i+1) b q (by simpa using d) (by simpa using g));refine⟨H',o,(Qw j.1).trans s',hl,λi b q d g=>?_⟩;cases i with
  | zero=>cases d;cases g;exact s' _ _ Ag
  | succ i=>exact m.2 i b q (by simpa using d) (by simpa using g)
def N7 (zs:List (Str×V)):Bool:=(zs.zip zs.tail).all λq=>decide (q.1.1.cps.toList<q.2.1.cps.toList)
def rS (hc:X.calm=true):Cs X (.builtin "sorted") (λxs H Q=>∃(v d:Addr) (ps:List (Str×V)),xs=[.ref v]/\H v=some (CL v d)/\H d=some (.dK (ps.map λp=>(Sum.inr p.1,p.2)))/\ps.length<=4 /\
  ∀(l:Addr) (f:List Addr) (zs:List (Str×V)) (H':Hp),Same H H'->H l=none->zs.Perm ps->N7 zs=true->H' l=some (.lst (f.map V.ref))->O7 H' f zs->Q (.ref l) H'):=by
 intro dv s σ H xs us Q I r h
 obtain⟨v,d,ps,rfl,hv,hd,h3,q⟩:=h
 obtain⟨u,rfl,ru⟩:=CM r
 cases ru
 obtain⟨W,hm,vs,A,o,es,ep,ho,ex,a1,hK,hP,m⟩:=FR I.hok hd
 have a0:s.heap.DictAt (BE X.prog X.w) d vs ep:=⟨o,es,ho,ex,a1,hK,hP,m⟩
 obtain⟨L,_,_⟩:=I.hok v _ hv
 have F:=A.length
 rw[Ai]at F
 have a6:sizeLine=16777216:=AF
 have at':∀(j:Nat) k x,vs[j]? = some (k,x)->∃p,ps[j]? = some p/\k=Sum.inr p.1/\RelV p.2 x:=λj k x D=>by
  have a5:=(Ay.mp D).1;have G:j<ps.length:=by lia
  obtain⟨u,hu,ru⟩:=KV.get2 (i:=j) A (show(ps.map λp=>((Sum.inr p.1:Key),p.2))[j]? = some (Sum.inr (ps[j]).1,(ps[j]).2) by rw[AQ,AJ G];rfl);rw[D]at hu;cases hu;exact⟨ps[j],AJ G,U,ru⟩
 refine SI.items_sorted (knd:=BE X.prog X.w) (ks:=ps.map (·.1)) (I.ok.hd hc) L a0 Ψ (by rw[Ai];lia) (λj k x B D K=>?_) ?_ λC h' tk f p c E hl T hp hs ext hB=>?_
 ·obtain⟨pp,M,n,_⟩:=at' j k x D;subst n;rcases DK (show Ei (Sum.inr pp.1) B=true from K)with⟨i,t,w,n⟩ | ⟨y,t,w,n⟩
  ·cases w
  cases w;exact⟨_,t,by rw[AQ,M];rfl,n⟩
 ·have ek:=A.keys;rw[<- ek,BD]at m;have e:ps.map ((λx:Key×V=>x.1) ∘ λp=>((Sum.inr p.1:Key),p.2))=(ps.map (·.1)).map Sum.inr:=by rw[BD];rfl
  rw[e]at m;exact Su Sum.inr (λa b h z=>h (by rw[z])) m
 have I1:Inv X dv σ H { s with heap:=C,toks:=tk }:=I.kept (t':=tk) E
 have hf:∀a∈f,FpOk X dv H a:=λa g=>I.fpOk (Ib (T.above a g)) (I.hok.fresh (Ib (T.above a g)))
 obtain⟨H2,I2,s2,pr⟩:=TC f ps H I1 (T.rise.imp λz=>Bk z) Ψ hf (λi a pp g a2=>by
  obtain⟨B,k,x,M,n,e3⟩:=T.pairs i a g;obtain⟨p2,f1,f2,f3⟩:=at' i k x M;rw[a2]at f1;cases f1;subst f2;rcases DK (show Ei (Sum.inr pp.1) B=true from n)with⟨i',t,g1,g2⟩ | ⟨y,t,g1,g2⟩
  ·cases g1
  cases g1;rw[g2]at e3;exact⟨x,t,f3,e3⟩)
 have N:∀i∈p,i<f.length:=λi S=>by have:=Do.mp (hp.mem_iff.mp S);lia
 have a4:p.length=f.length:=by rw[hp.length_eq,Em,hl]
 have R:∀q:List Nat,(∀i∈q,i<f.length)->Vals ((q.map λi=>f.getD i 0).map V.ref) (q.map λi=>(f.map Value.ref).getD i Value.none):=λq=>by
  induction q with
  | nil=>exact λ_=>.nil
  | cons i q ih=>
   intro hq;have S:=hq i A9;refine .cons ?_ (ih λj D=>hq j (AY _ D));have M:f.getD i 0=f[i]:=by simp[CA,S]
   have n:(f.map Value.ref).getD i Value.none=.ref f[i]:=by simp[CA,S]
   show RelV (.ref (f.getD i 0)) ((f.map Value.ref).getD i Value.none);rw[M,n];rfl
 have P:H2 C.objs.size=none:=I2.hok.fresh (An _)
 have I3:Inv X dv σ (Y H2 C.objs.size (.lst ((p.map λi=>f.getD i 0).map V.ref))) { s with heap:=h',toks:=tk }:=
  I2.laid (t':=tk) (a:=C.objs.size) (o:=.lst ((p.map λi=>f.getD i 0).map V.ref)) ext (An _) ⟨by rw[Ai,Ai];lia,_,c,R p N,hB⟩
 refine⟨.ref C.objs.size,_,I3,U,q _ (p.map λi=>f.getD i 0) (p.map λi=>ps.getD i (Str.empty,.non)) _ (s2.trans (Qw P)) (I1.hok.fresh (An _)) ?_ ?_ Ag ⟨by rw[Ai,Ai],λi a z g W=>?_⟩⟩
 ·refine(hp.map _).trans ?_;have e:(List.range vs.length).map (λi=>ps.getD i (Str.empty,.non))=ps:=by refine ext_getElem (by simp[F]) λk C h2=>?_;simp[CA,h2]
  rw[e]
 ·unfold N7;rw[<- List.map_tail,List.zip_map,List.all_map];rw[DB]at hs ⊢;intro x hx;have:=hs x hx;unfold SI.lt at this;have eg:∀i,(ps.map (·.1)).getD i Str.empty=(ps.getD i (Str.empty,.non)).1:=λi=>by (rw[CA,CA,AQ]);cases ps[i]? <;> rfl
  rw[eg,eg]at this;exact this
 rw[AQ]at g W
 cases K:p[i]? with
 | none=>rw[K]at g;cases g
 | some k=>
  rw[K]at g W;have a3:=N k (Br K);have ea:f[k]? = some a:=by have e9:f.getD k 0=a:=BG g;rw[<- e9,CA,AJ a3];rfl
  have ez:ps[k]? = some z:=by have e9:ps.getD k (Str.empty,.non)=z:=BG W;rw[<- e9,CA,AJ Ψ];rfl
  exact Qw P _ _ (pr.2 k a z ea ez)
end
end L2
namespace L2
open PySem PySem.Spec PyProof.Rows PySem.W
abbrev Fp (X:Cx)(N:List Str)(scope:Scope)(C:Addr)(s:Shared)(H:Hp)(fp:List Addr)(xe:Value->Shared->Prop):Cx:=(DJ X N scope C s H fp).at' [] xe
def lY (b:Value->Shared->Prop)(u:∀e t,b e t->notedBy (model prog w) A env (λe s'=>R (.error e) s') e t)(a:Nat->Shared->Prop)
  (d:∀n s,a n s->wpAny (model prog w) A (pyNext it) (λr g=>match r with
   | none=>R (.ok .next) g
   | some v=>wpAny (model prog w) A (letOwnedTupleGo tg it v) (λ_ s2=>wpAny (model prog w) A (assign tg env v) (λ_ s3=>
     wpAny (model prog w) A (forIn ifs true λc r=>if r=true then do let ok <- isTrue c env (eval c env);pure (ForInStep.yield ok)else pure (ForInStep.yield r)) (λok s4=>
      if ok=true then wpAny (model prog w) A (eval elt env) (λx l=>wpAny (model prog w) A (call (.builtin "list.append") [acc,x]) (λ_ i=>∃m,m<n/\a m i) b l) b s4
      else ∃m,m<n/\a m s4) b s3) b s2) b g) b s)
  (n:Nat)(h:a n s):codeAny (model prog w) A (.compLoop (.ListComp elt [⟨tg,iter,ifs,0⟩] scope pos) 0 it acc env) R s:=by
 refine codeAny_loop U a (λn s p=>?_) n h
 refine wpAny_noted (CZ ?_ (λ_ _ q=>q) u)
 rw[compTurn_list]
 refine Ac (wpAny_standAt (Ac (CZ (d n s p) (λr g o=>?_) λ_ _ f=>f)))
 cases r with
 | none=>exact Aj o
 | some v=>
  refine Ac (CZ o (λ_ s2 y=>Ac (CZ y (λ_ s3 C=>Ac (CZ C (λok s4 j=>?_) λ_ _ f=>f)) λ_ _ f=>f)) λ_ _ f=>f);cases ok with
  | false=>exact Aj ⟨U,j⟩
  | true=>exact Ac (Ac (CZ j (λx l z=>Ac (CZ z (λ_ i B=>Aj (Aj ⟨U,B⟩)) λ_ _ f=>f)) λ_ _ f=>f))
def Vq {X:Cx}{N:List Str}{sc scope:Scope}{own fr:List Str}{js:List Nat}{v:List (Addr×Obj)}{σ:St}{H:Hp}{s:Shared}{j:List Addr}{tg G R:Expr}{Q:List Expr}{pos:Pos}{f:It}{it:Addr}{tn:Nat->Heap->Prop}
  {g:TG}{tc:TT}{te:TE}{RR:Value->Env->Result->Shared->Prop}{E:Value->Shared->Prop}{Zf:Cx->Value->Shared->Prop}{fin:Addr->Hp->Prop}
  (L:LcOk X N sc scope own fr js)(hc:X.calm=true)(I:Inv X v σ H s)(T:F8 X.prog X.w X.K tg f j it tn)(st:tn 0 s.heap)(B:∀b∈j,FpOk X v H b)
  (hg:∀C s H j,PG (Fp X N scope C s H j (Zf (DJ X N scope C s H j))) tg g)(hi:∀C s H j,Mp (Fp X N scope C s H j (Zf (DJ X N scope C s H j))) Q tc)(he:∀C s H j,(DJ X N scope C s H j).Ok->PE (Fp X N scope C s H j (Zf (DJ X N scope C s H j))) R te)
  (h:∀D,H D=none->∃W:Nat->Nat->List V->Hp->Prop,(∃m,W 0 m [] (Y H D (.lst [])))/\ID f D (Fy own.length js σ) g tc te (fin D) W)
  (ac:∀D w s' H',(∃m,s'.heap.Ns w.locals m)->Inv X v σ H' s'->FpOk X v H' w.locals->fin D H'->RR (.ref D) w (.ok .next) s')
  (af:∀D w a1 e t,s.heap.objs.size+1=w.locals->w.frame=X.env.frame->a1.frame=X.env.frame->Zf (DJ X N scope (s.heap.objs.size+1) s H j) e t -> wpAny (model X.prog X.w) X.A (noteFrame e a1) (λ_ t=>RR (.ref D) w (.error e) t) (λe t=>RR (.ref D) w (.error e) t) t) :
  wpAny (model X.prog X.w) X.A (newList []) (λa7 s3=>wpAny (model X.prog X.w) X.A (newFunctionEnv scope X.env.globals (CG X.env.cells scope.names []) [] X.env.qual none .none (some X.env)) (λK s4=>codeAny (model X.prog X.w) X.A (.compStart (.ListComp R [⟨tg,G,Q,0⟩] scope pos) 0 (.ref it) a7 { K with scope:=relabel scope X.env }) (RR a7 K) s4) E s3) E s:=by
 have P:∀b∈j,b<s.heap.objs.size:=λb p=>by obtain⟨o,e,_⟩:=T.obj 0 _ st b p;exact A0 e
 refine DZ (wpAny_newFunctionEnv L.nocell (λ_ z=>nomatch z) (λh1 n1 b1=>?_) L.kind)
 dsimp only at n1 b1 ⊢
 have hsz:(s.heap.push { cls:=.type "list",dict:=none,data:=.seq ([]:List Value).toArray }).objs.size=s.heap.objs.size+1:=G9 ..
 rw[hsz]at n1 b1
 rw[hsz]
 have kept:∀b o,s.heap.get? b=some o->h1.get? b=some o:=λb o e=>b1.extBut b o (Bk (G6 (A0 e))) (AV _ (AV _ e))
 have aa:h1.get? s.heap.objs.size=some { cls:=.type "list",data:=.seq ([]:List Value).toArray }:=b1.extBut _ _ (Bk (G5 _)) (AV _ (Bs _ U))
 have IY:=lX (tk:=s.toks+([]:List (Str×Value)).length) L I B P n1 kept aa
 have fresh:H s.heap.objs.size=none:=I.hok.fresh (An _)
 obtain⟨W,⟨m0,w0⟩,a3⟩:=h s.heap.objs.size fresh
 obtain⟨a,eZ⟩:∃a:Value->Shared->Prop,a=Zf (DJ X N scope (s.heap.objs.size+1) s H j):=⟨_,U⟩
 replace hg:=hg (s.heap.objs.size+1) s H j
 replace hi:=hi (s.heap.objs.size+1) s H j
 replace he:=he (s.heap.objs.size+1) s H j IY.ok
 rw[<- eZ]at hg hi he
 have A:∀{H':Hp},(∀b∈j,H' b=none)->∀b∈j,FpOk (Fp X N scope (s.heap.objs.size+1) s H j a) [] H' b:=λhn b p=>
  ⟨hn b p,Bk (G6 (P b p)),λz=>by
   rcases Az.mp (I.stkSub b z)with q | q
   ·exact(B b p).2.1 q
   exact(B b p).2.2.1 q,.inl p,λx c e=>(B b p).2.2.2.2.1 x c (L.sub I.ok e),λ_ z=>nomatch z⟩
 have a4:tn 0 h1:=T.keep 0 _ _ st λb _ o e=>kept b o e
 have loop:∀w:Env,w.locals=s.heap.objs.size+1->w.frame=X.env.frame->∀s2:Shared,s2={ s with heap:=h1,toks:=s.toks+([]:List (Str×Value)).length } ->
   codeAny (model X.prog X.w) X.A (.compLoop (.ListComp R [⟨tg,G,Q,0⟩] scope pos) 0 (.ref it) (.ref s.heap.objs.size) (Fp X N scope (s.heap.objs.size+1) s H j a).env) (RR (.ref s.heap.objs.size) w) s2:=by
  rintro w hl ag s2 rfl
  refine lY a (λe t hz=>?_) (λn s'=>∃i ys H',Inv (Fp X N scope (s.heap.objs.size+1) s H j a) [] (Fy own.length js σ) H' s'/\tn i s'.heap/\(∀b∈j,H' b=none)/\W i n ys H') ?_ m0
   ⟨0,[],_,IY.at' a,a4,λb p=>by rw[Af (Bk (P b p))];exact(B b p).1,w0⟩
  ·exact af _ w _ e t hl.symm ag U (eZ ▸ hz)
  rintro n s3 ⟨i,ys,H3,I3,a6,a5,w3⟩
  rcases a3 i n ys H3 w3 with⟨a2,qn⟩ | ⟨go,Nx,hN,step⟩
  ·refine thn (T.done (Fp X N scope (s.heap.objs.size+1) s H j a) U U U hc i [] s3 _ H3 _ I3 (A a5) a6 a2) λr s4 l=>?_
   obtain⟨hr,I4⟩:=l
   subst hr
   have IX:Inv X v σ H3 s4:=I.call' (ch:=j) I4.os I4.base I4.hok I4.bare λb p=>⟨(B b p).2.2.2.1,(B b p).2.1,(B b p).2.2.2.2.1,(B b p).2.2.2.2.2⟩
   obtain⟨m,hm,_⟩:=I4.loc
   exact ac _ w s4 H3 ⟨m,by rw[hl];exact hm⟩ IX (by rw[hl];exact I.fpOk (Fb _) I4.free) qn
  refine thn (T.item (Fp X N scope (s.heap.objs.size+1) s H j a) U U U hc i [] s3 _ H3 _ I3 (A a5) a6 go) λr s4 l=>?_
  obtain⟨u,hr,h4⟩:=l
  subst hr
  refine thn h4 λ_ s5 l=>?_
  obtain⟨x,H5,I5,r5,y5,a0,ae⟩:=l
  have ad:=I5.pinned (A ae) (T.obj _ _ a0)
  refine thn (hg _ s5 _ H5 x u _ ad r5 (step x H5 y5)) λ_ s6 l=>?_
  obtain⟨F,H6,I6,⟨a9,a8⟩,q6⟩:=l
  have next:∀{s7:Shared}{M:Hp}{S:List V},Inv (Fp X N scope (s.heap.objs.size+1) s H j a) ([]++K5 j s5.heap) F M s7->Nx S M ->
    ∃m,m<n/\∃i ys H',Inv (Fp X N scope (s.heap.objs.size+1) s H j a) [] (Fy own.length js σ) H' s7/\tn i s7.heap/\(∀b∈j,H' b=none)/\W i m ys H':=λ{s7 M S} I7 n7=>by
   obtain⟨m',hm,w7⟩:=hN S M n7
   refine⟨m',hm,i+1,S,M,I7.unpinned.weak a9.symm a8,T.keep _ _ _ a0 λb p o e=>(I7.pin (b,o) (En _ (En _ (N4 p e)))).1,λb p=>?_,w7⟩
   obtain⟨o,e,d⟩:=T.obj _ _ a0 b p
   exact(I7.pin (b,o) (En _ (En _ (N4 p e)))).2.1
  refine thn (hi _ s6 F H6 _ I6 q6) λok s7 l=>?_
  obtain⟨M,I7,q7⟩:=l
  cases ok with
  | false=>
   rw[Ak BO]at q7
   exact next I7 q7
  | true=>
   rw[Ar rfl]at q7
   rw[Ar rfl]
   refine thn (he _ s7 F M _ I7 q7) λy s8 l=>?_
   obtain⟨v8,H8,I8,r8,S,hz,ab,q8⟩:=l
   refine thn (FL _ s8 F H8 (.ref s.heap.objs.size) [v8] _ [y] (λ_ H9=>Nx (S++[v8]) H9) I8 U (.cons r8 .nil) ⟨_,S,v8,U,U,hz,ab,q8⟩) λ_ s9 l=>?_
   obtain⟨_,H9,I9,_,q9⟩:=l
   exact next I9 q9
 have go:=loop (newEnv scope (s.heap.objs.size+1) X.env.globals (CG X.env.cells scope.names []) X.env.qual none Value.none (some X.env) builtinsNs) U U _ U
 exact codeAny_compStart_list go (T.self X.A 0 _ _ _ a4 go)
def Dx 
  (L:LcOk X N sc scope own fr js)(R:X.calm=true)(E:PI X tg iter wi)
  (p:∀C s H c,PG (DJ X N scope C s H c) tg g)(l:∀C s H c,Mp (DJ X N scope C s H c) ifs tc)(K:∀C s H c,PE (DJ X N scope C s H c) elt te)
  (w:∀x,foldedSetIterable iter X.env x=pure x:=by intro _;rfl):PE X (.ListComp elt [⟨tg,iter,ifs,0⟩] scope pos) (tLc wi own.length js g tc te):=by
 intro d s j H Q I h
 rw[eval_ListComp]
 refine wpAny_comprehension_free (use:=none) U w (WL (L.cellAt I.ok)) L.kind L.loc ?_
 refine thn (E d s j H _ I h) λv W y=>thn y λA s2 u=>?_
 obtain⟨it,c,tn,a,H2,e,P,T,st,f2,q⟩:=u
 subst e
 refine Vq (Zf:=λ_ _ _=>False) (RR:=λi M=>compPost (model X.prog X.w) X.A X.xe none (EP X d j Q) i M.locals) (fin:=λD H'=>Q (.ref D) H') L R P T st f2 p l (λC s H c _=>K C s H c) q ?_ λ_ _ _ _ _ _ _ _ z=>z.elim
 intro D C s' H' f G F S
 obtain⟨m,f⟩:=f
 obtain⟨B,f1,_,f3,f4,f5⟩:=F
 exact⟨m,f,λh' r=>⟨.ref D,H',G.turned (t':=s'.toks) (λb o n e=>(r.2 b n).trans e) B f1 f3 f4 f5,U,S⟩⟩
def Ez 
  (hN:X.N.Nodup)(P:X.N[i]? = some y)(w:X.env.scope.names.lookup y=some .local)
  (L:LcOk X N sc scope own fr js)(hc:X.calm=true)(hI:PI X tg iter wi)
  (F:∀C s H f,PG (DJ X N scope C s H f) tg g)(A:∀C s H f,Mp (DJ X N scope C s H f) ifs tc)(he:∀C s H f,PE (DJ X N scope C s H f) elt te)
  (hw:swapsWith (.ListComp elt [⟨tg,iter,ifs,0⟩] scope pos) (some (.Name y py)) spos.line X.env=pure true:=by rfl)
  (M:∀x,foldedSetIterable iter X.env x=pure x:=by intro _;rfl):PS X (.Assign [.Name y py] (.ListComp elt [⟨tg,iter,ifs,0⟩] scope pos) spos) (Yv i wi own.length js g tc te):=by
 intro d s u H E I h
 rw[exec_Assign_Name_used _ _ _ _ hw]
 (refine Ac (wpAny_standAt (Ac ?_)))
 show wpAny _ X.A (do let _ <- comprehension (.ListComp elt [⟨tg,iter,ifs,0⟩] scope pos) scope X.env _ (newList []) false (eval iter X.env) (some (assign (.Name y py) X.env))) _ _ s
 refine Ac (CZ (wpAny_comprehension_free (use:=some (assign (.Name y py) X.env)) (Q:=λ_ s'=>SP X d E .next s') U M (WL (L.cellAt I.ok)) L.kind L.loc ?_) (λ_ s' q=>Aj (Aj q)) λ_ _ e=>e)
 refine thn (hI d s u H _ I h) λv s1 R=>thn R λS s2 K=>?_
 obtain⟨it,f,tn,c,H2,e,I2,T,st,f2,q⟩:=K
 subst e
 refine Vq (Zf:=λ_ _ _=>False) (RR:=λr ce=>compPost (model X.prog X.w) X.A X.xe (some (assign (.Name y py) X.env)) (λ_ s'=>SP X d E .next s') r ce.locals) (fin:=λD H'=>E.nx (u.set i (some (.ref D))) H') L hc I2 T st f2 F A (λC s H f _=>he C s H f) q ?_ λ_ _ _ _ _ _ _ _ z=>z.elim
 intro D C s' H' l IX fC q'
 obtain⟨m,l⟩:=l
 obtain⟨W,f1,_,f3,f4,f5⟩:=fC
 show wpAny _ X.A (assign (.Name y py) X.env (.ref D)) _ _ s'
 refine wpAny_assign_Name (T4 IX hN P (.inl w) (v:=.ref D) U (λs3 I3 n=>?_) (.inr w))
 obtain⟨a,G,n⟩:=n
 have j:C.locals≠a:=by
  rcases n with z | z
  ·rw[z];exact f1
  exact λq=>f4 y a z q.symm
 refine⟨m,l.sameBut G j,λh' p=>⟨_,H',I3.turned (t':=s3.toks) (λb o B e=>(p.2 b B).trans e) W f1 f3 f4 f5,q'⟩⟩
section
variable {X:Cx}
abbrev TJ:=Str->St->Hp->VK->Prop
def PJ (X:Cx)(es:List Expr)(t:TJ):Prop:=∀(dv:List (Addr×Obj)) (s:Shared) (σ:St) (H:Hp) (out:Str) (Q:VK),Inv X dv σ H s->out.length<=500000->t out σ H Q ->
 wpAny (model X.prog X.w) X.A (joinParts out (evalEach es X.env)) (EP X dv σ Q) X.xe s
def YQ (a b:Str):(a++b).length=a.length+b.length:=by (show(a.cps++b.cps).size=_);rw[Sb];rfl
def US:PJ X [] (λout _ H Q=>Q (.str out) H):=by intro a s b H out Q I c h;have d:=AF;exact joinParts_nil ⟨.str out,H,I.tok _,⟨_,U⟩,h⟩ Ψ
def UR {t:TJ}(m:PJ X r t):PJ X (.Constant (.str a) j p::r) (λout c H Q=>(out++a).length<=500000/\t (out++a) c H Q):=by intro b s c H out Q I w h;have x:=AF;obtain⟨q,n⟩:=h;refine Oy (thn (Aw b s c H (λv d=>v=.str a/\d=H) I ⟨U,U⟩) λu g e=>?_);obtain⟨v,d,i,l,f,o⟩:=e;subst f o;obtain⟨t,rfl⟩:=l;exact⟨Ψ,m b g c d _ Q i q n⟩
def U2 {t:TJ}(h:PJ X (c::e2::r) t):PE X (.JoinedStr (c::e2::r) pos) (λb H Q=>t Str.empty b H Q):=by intro a s b H Q I d;exact JoinedStr_many (h a s b H Str.empty Q I (Bn _) d)
end
end L2
namespace L2
open PySem PyProof.Rows
section
variable {X:Cx}
def kX:F9 X "dict.items" (λx xs H Q=>∃a kvs,x=.ref a/\xs=[]/\Rd H a (.dK kvs)/\∀v,H v=none->Q (.ref v) (Y H v (CL v a))):=by rintro c s n H x xs v us Q I g m⟨a,kvs,rfl,rfl,l,q⟩;cases g;cases m;obtain⟨w,h,vs,i,d⟩:=Fu I.hok l;refine Ig OX d.typeIs PySem.F.entry_dict_items (Xi _) (meets_dict_items (BE X.prog X.w) a h) ⟨⟨vs,d⟩,.ref s.heap.objs.size,_,I.laid (t':=s.toks) (o:=CL s.heap.objs.size a) (λb o e=>AV _ e) (An _) ⟨⟨_,Bs _ U,U,U⟩,⟨_,Bs _ U⟩,λu p f e=>?_⟩,U,q _ (I.hok.fresh (An _))⟩;obtain⟨o,j,r⟩:=f;exact⟨o,e o j,r⟩
def Yz (to:TE):TE:=λσ H Q=>to σ H λx H1=>∃a kvs,x=.ref a/\Rd H1 a (.dK kvs)/\∀v,H1 v=none->Q (.ref v) (Y H1 v (CL v a))
def QT (n:PE X o to)(d:attributeBase o "items" X.env (eval o X.env)=eval o X.env:=by rfl)(c:(apos.endLine == cpos.line)=true:=by rfl):PE X (.Call (.Attribute o "items" apos) [] [] cpos) (Yz to):=by intro b s i H Q I h;refine wpAny_Call_method0_late d c (thn (n b s i H _ I h) λv j f=>?_);obtain⟨x,r,g,l,a,kvs,e,rd,q⟩:=f;subst e;cases l;obtain⟨p,m,_⟩:=VE g (.inl ⟨_,rd⟩);exact⟨"dict", "dict.items",Ml,OX,PySem.F.type_dict_items,p,m,Mj U (PySem.evalArgs_none (kX b j i r (.ref a) [] _ [] Q g U .nil ⟨a,kvs,U,U,rd,q⟩))⟩
def nY (tl:TE):TI:=λσ H R=>tl σ H λx H1=>∃v a kvs,x=.ref v/\H1 v=some (CL v a)/\((H1 a=some (.dK kvs)/\∀o,R (Kr a o kvs) (Y H1 a (.frz o (.dK kvs))))\/∃o,H1 a=some (.frz o (.dK kvs))/\R (Kr a o kvs) H1)
def QR {x1} (N:PE X l tl):PI X (.Tuple elts x1 tp) l (nY tl):=by
 intro y s E H R I h;refine thn (N y s E H _ I h) λu c A=>?_;obtain⟨x,C,d,G,L⟩:=A;obtain⟨v,a,kvs,rfl,K,q⟩:=L;cases G;obtain⟨f,_,_⟩:=d.hok v _ K;rcases q with⟨n,q⟩ | ⟨D,n,q⟩
 ·obtain⟨M,F,vs,m,o,es,ep,i,B,p,r⟩:=FR d.hok n;have g:c.heap.DictAt (BE X.prog X.w) a vs ep:=⟨o,es,i,B,p,r⟩;have j:=m.length;refine wpAny_pyIter_items (knd:=BE X.prog X.w) f g ⟨c.heap.objs.size,[c.heap.objs.size],_,_,Y C a (.frz o (.dK kvs)),U,(d.freeze n i).kept (t':=c.toks) (λb o e=>AV _ e),Tt _ a o kvs es ep p,⟨.none,.none,?_⟩,λb z=>?_,q o⟩
  ·rw[j];exact Bs _ U
  have e:b=c.heap.objs.size:=by simpa using z
  subst e;exact(d.freeze n i).fpOk (An _) ((d.freeze n i).hok.fresh (An _))
 obtain⟨i,M,F,vs,m,P,es,ep,w,B,p,r⟩:=d.hok a _ n;rw[i]at w;cases w;have g:c.heap.DictAt (BE X.prog X.w) a vs ep:=⟨D,es,i,B,p,r⟩;have j:=m.length;refine wpAny_pyIter_items (knd:=BE X.prog X.w) f g ⟨c.heap.objs.size,[c.heap.objs.size],_,_,C,U,d.kept (t':=c.toks) (λb o e=>AV _ e),Tt _ a D kvs es ep p,⟨.none,.none,?_⟩,λb z=>?_,q⟩
 ·rw[j];exact Bs _ U
 have e:b=c.heap.objs.size:=by simpa using z
 subst e;exact d.fpOk (An _) (d.hok.fresh (An _))
end
end L2
namespace L2
open PySem PySem.Spec PyProof.Rows PySem.W
end L2
namespace DPT
open PySem PyProof.Rows
end DPT
namespace L2
open PySem PySem.Spec PyProof.Rows PySem.W
section
variable {X:Cx}
def rQ:Cs X (.type "tuple") (λxs H Q=>∃p ys,xs=[.ref p]/\SqL X.K H p ys/\∀l o,H l=none->o.dict=none->Q (.ref l) (Y H l (.frz o (.tup ys)))):=by
 intro a s f H xs us Q I r h;obtain⟨p,ys,rfl,j,q⟩:=h;obtain⟨u,rfl,m⟩:=CM r;cases m;obtain⟨c,i,n,w⟩:=I.list j;have g:=i.length;refine call_tuple_list n.isList (λh' x=>?_) (by simp only[BJ] <;> lia);have d:Inv X a f H { s with heap:=h' }:=I.kept (t':=s.toks) x
 have v:Inv X a f (Y H h'.objs.size (.frz { cls:=.type "tuple",data:=.seq c.toArray } (.tup ys))) { s with heap:=h'.push { cls:=.type "tuple",data:=.seq c.toArray } }:=
  d.laid (t':=s.toks) (λb o e=>AV _ e) (An _) (show ObjOk X.prog X.w _ _ _ (.frz _ (.tup ys)) from ⟨Bs _ U,w,c,i,IsTup.new _ _⟩)
 exact⟨.ref h'.objs.size,_,v,U,q _ _ (d.hok.fresh (An _)) U⟩
end
end L2
namespace RV
open PySem PyProof.Rows
end RV
namespace L2
open PySem PySem.Spec PyProof.Rows PySem.W
section
variable {X:Cx}{tg:Expr}
def UT {t:TJ}(o:PE X e te)(j:PJ X r t) :
  PJ X (.FormattedValue e (-1) none p2::r) (λout b H Q=>te b H λv n=>∃i:Int,v=.int i/\i.natAbs.log2<1920/\out.length<=400000/\t (out++Str.ofString (toString i)) b n Q):=by
 intro a s b H out Q I z h
 have A:=AF
 refine Oy (FormattedValue_plain (thn (o a s b H _ I h) λu s2 c=>?_))
 obtain⟨w,l,m,g,i,f,d,lo,q⟩:=c
 subst f
 obtain⟨p,rfl⟩:=g
 have y:=int_text_len_1921 d
 have x:=YQ out (Str.ofString (toString i))
 apply wpAny_formatField_int d
 exact⟨Ψ,j a _ b l _ Q (m.tok _) Ψ q⟩
end
end L2
namespace DR
open PySem PyProof.Rows
section
variable {prog:Program}{w:World}{A:Around}{E:Value->Shared->Prop}{s:Shared}
def RawAt (h:Heap)(d:Addr)(es:Array DictEntry)(ep:Nat):Prop:=∃o,h.get? d=some o/\o.ExactDict/\o.data=.dict es ep
def RawAt.typeIs (x:RawAt s.heap d es ep):s.TypeIs (.ref d) "dict" := let ⟨o,ho,hc,_⟩:=x;⟨o,ho,hc.1⟩
def RawAt.lt (x:RawAt h d es ep):d<h.objs.size:=let ⟨_,ho,_⟩:=x;A0 ho
def RawAt.at (x:RawAt h d es ep)(k:∀o,h.get? d=some o->h'.get? d=some o):RawAt h' d es ep:=let ⟨o,ho,r⟩:=x;⟨o,k o ho,r⟩
def iter_raw (f:(d == sysModules)=false)(e:RawAt s.heap d es ep)
  (g:Q (.ref s.heap.objs.size) { s with heap:=s.heap.push { cls:=.type "dict_keyiterator",data:=.fields #[.ref d,.int 0 0,.int es.size 0,.int ep 0] } }):wpAny (model prog w) A (pyIter (.ref d)) Q E s:=by
 obtain⟨o,c,h,a⟩:=id e
 have b:= e.typeIs
 (refine OL b F.slot_dict_iter (DC F.slot_dict_iter b F.entry_dict_iter ?_ (F.args_dict_iter_1 _)))
 (unfold Builtin.«dict.__iter__»)
 apply Ac
 (unfold Builtin.Dict.dictSlotNone)
 (refine Ac (wpAny_notOrdered_dict b ?_))
 (show wpAny _ _ (pure (Value.ref d)) _ _ s)
 apply Aj
 (show wpAny _ _ (Builtin.Dict.showsAll d >>= _) _ _ s)
 unfold Builtin.Dict.showsAll
 (rw[Ak (f▸BO)])
 refine Ac (Aj ?_)
 (refine Ac (OK c a ?_))
 (refine Ac (wpAny_dictEpoch c a ?_))
 (refine Ac (DZ (Aj ⟨_,U, "dict_keyiterator",_,⟨_,Bs _ U,U⟩,LY.lookup,?_⟩)))
 simpa [rawInt] using g
def next_raw (a:s.heap.IsKeyIter it d i es.size ep)(l:RawAt s.heap d es ep)(g:i<es.size)
  (m:∀h',h'.IsKeyIter it d (i+1) es.size ep->Heap.SameBut it s.heap h'->Q (some es[i].key) { s with heap:=h' }):wpAny (model prog w) A (pyNext (.ref it)) Q E s:=by
 (obtain⟨o,j,p,h⟩:=id a)
 obtain⟨q,e,n,c⟩:=id l
 unfold pyNext
 refine Ac (J9 (F0 (name:=Str.ofString "__next__") a.typeIs LY (DC LY a.typeIs F.entry_dict_keyiterator_next ?_ (F.args_dict_keyiterator_next_1 _))))
 refine Ac (Aj ?_)
 refine Ac ?_
 refine Ac ?_
 (first | refine Ac (O5 a.typeIs (Aj ?_)) | refine Ac (OZ a.typeIs (Aj ?_)))
 (refine Ac (Ox j h ?_))
 (have f:Builtin.Dict_items.ownsTuple "dict_keyiterator" = false:=by decide)
 (simp only[f,E8,Es])
 (show wpAny _ _ (if (Value.ref d == Value.none)=true then _ else _) _ _ s)
 (rw[Ak (show ¬((Value.ref d == Value.none)=true) from BO)])
 refine Ac (Aj ?_)
 (refine Ac (OK e c ?_))
 rw[Ak Θ]
 refine Ac (Aj ?_)
 (refine Ac (wpAny_dictEpoch e c ?_))
 rw[Ak Θ]
 refine Aj ?_
 (simp only[show ¬((i:Int)<0) from by lia,Es,C9,ES g])
 refine Ac ?_
 (first | refine Ac (O5 a.typeIs (Aj ?_)) | refine Ac (OZ a.typeIs (Aj ?_)))
 (refine Ac (wpAny_isOneOf_keyiter a.typeIs ?_))
 (show wpAny _ _ (setField (.ref it) 1 (rawInt ((i:Int)+1)) >>= _) _ _ s)
 (refine Ac (OA j h Θ ?_))
 have b:(s.heap.update it (Obj.mapFields (·.setIfInBounds 1 (rawInt ((i:Int)+1))))).IsKeyIter it d (i+1) es.size ep:=
  ⟨_,Mh _ j (Obj.isFreed_of_fields (ON h _)),(Obj.cls_mapFields ..).trans p,by rw[ON h];simp[rawInt]⟩
 (refine Ac (Dj ?_))
 (refine Ac (wpAny_isOneOf_keyiter (s:={ s with heap:=s.heap.update it (Obj.mapFields (·.setIfInBounds 1 (rawInt ((i:Int)+1)))) }) b.typeIs ?_))
 (show wpAny _ _ (pure es[i].key) _ _ _)
 exact Aj (Aj ⟨_,U,Aj (m _ b (FX ..))⟩)
def end_raw (q:A.handled=none)(c:s.heap.IsKeyIter it d i es.size ep)(p:RawAt s.heap d es ep)(h:es.size<=i)
  (r:∀h',Heap.ExtBut it s.heap h'->Q none { s with heap:=h' }):wpAny (model prog w) A (pyNext (.ref it)) Q E s:=by
 (obtain⟨o,j,u,l⟩:=id c)
 obtain⟨v,g,n,e⟩:=id p
 unfold pyNext
 refine Ac (J9 (F0 (name:=Str.ofString "__next__") c.typeIs LY (DC LY c.typeIs F.entry_dict_keyiterator_next ?_ (F.args_dict_keyiterator_next_1 _))))
 refine Ac (Aj ?_)
 refine Ac ?_
 refine Ac ?_
 (first | refine Ac (O5 c.typeIs (Aj ?_)) | refine Ac (OZ c.typeIs (Aj ?_)))
 (refine Ac (Ox j l ?_))
 (have f:Builtin.Dict_items.ownsTuple "dict_keyiterator" = false:=by decide)
 (simp only[f,E8,Es])
 (show wpAny _ _ (if (Value.ref d == Value.none)=true then _ else _) _ _ s)
 (rw[Ak (show ¬((Value.ref d == Value.none)=true) from BO)])
 refine Ac (Aj ?_)
 (refine Ac (OK g e ?_))
 rw[Ak Θ]
 refine Ac (Aj ?_)
 (refine Ac (wpAny_dictEpoch g e ?_))
 rw[Ak Θ]
 refine Aj ?_
 (simp only[show ¬((i:Int)<0) from by lia,Es,C9,OW h])
 refine Ac ?_
 (first | refine Ac (O5 c.typeIs (Aj ?_)) | refine Ac (OZ c.typeIs (Aj ?_)))
 (show wpAny _ _ (setField (.ref it) 0 .none >>= _) _ _ s)
 (refine Ac (OA j l Θ ?_))
 (show wpAny _ _ (newExc (.type "StopIteration") [] >>= _) _ _ _)
 refine Ac ?_
 simp only[newExc,newTuple]
 (refine Ac (DZ ?_ (by size_fits)))
 (refine Ac (m:=firstArgMember _ _) (J0 (a:=Value.none) (by first | rfl | (simp only[firstArgMember];rfl)) ?_))
 (refine DZ ?_ (by size_fits))
 simp only[raiseNew]
 (refine Ac (wpAny_handled ?_))
 (rw[show A.in1.handled=none from q])
 (refine Ac (Aj (wpAny_throw ?_)))
 (refine Ac (OI (T := "StopIteration") (b:=true) ⟨_,Bs _ U,U⟩ isSubtype_stop ?_))
 (exact Aj (r _ (((FX ..).extBut.push _).push _)))
theorem XX (p:A.handled=none)(I d:Addr)(j:d≠I)(es:Array DictEntry)(ep:Nat) :
  Walks prog w A I [I,d] [I] es.size (λi v=>∃e,es[i]? = some e/\v=e.key) (λi h=>h.IsKeyIter I d i es.size ep/\RawAt h d es ep) where
 sub:=λb a=>by simp at a;simp[a]
 frame:=λ_ _ _ st n=>⟨st.1.at λo e=>n I Θ o e,st.2.at λo e=>n d Θ o e⟩
 item:=λi s Q E m st f=>by refine next_raw st.1 st.2 m λh' c g=>?_;exact f _ h' s.toks ⟨es[i],ES m,U⟩ ⟨c,st.2.at λo e=>g.extBut d o j e⟩ λb o a e=>g.extBut b o (λh=>a (by simp[h])) e
 done:=λs Q E st f=>end_raw p st.1 st.2 (An _) λh' l=>f h' s.toks λb o a e=>l b o (λh=>a (by simp[h])) e
 self:=λ_ _ _ _ st f=>wpAny_pyIter_keyiter st.1 f
theorem src_raw (lo:(d == sysModules)=false):PySem.W.KdlSrc prog w "dict" d d es.size (λi v=>∃e,es[i]? = some e/\v=e.key) (λh=>RawAt h d es ep) where
 type:=λ_ a=>a.typeIs
 there:=λ_ a=>⟨a.lt,a.lt⟩
 keep:=λ_ _ a c=>a.at λo e=>c d (.inl U) o e
 notList:=by decide
 notTuple:=by decide
 hint:=λ_ _ _ _ a b=>PySem.W.kdl_hint_dict a.typeIs b
 iter:=λ_ _ f a=>⟨_,_,(λ_ _ b=>iter_raw lo a b),XX f _ d (Bk a.lt) es ep,⟨⟨_,Bs _ U,U,U⟩,a.at λo e=>AV _ e⟩⟩
def lB (c:(d == sysModules)=false):MeetsIn prog w (Builtin.«dict.__len__» ⟨[.ref d],[]⟩) (λ_ R s=>∃es ep,RawAt s.heap d es ep/\R (.ok (.ret (.int es.size s.toks))) { s with toks:=s.toks+1 }):=
 .of_wp λA R s ⟨es,ep,e,h⟩=>by obtain⟨o,b,f,a⟩:=e;(show wpAny _ _ (dictSize d >>= _) _ _ s);(refine Ac (Ac (OK b a (Aj ?_))));(show wpAny _ _ (Builtin.Dict.pendingCount d >>= _) _ _ s);(refine Ac (wpAny_pendingCount_other c ?_));apply wpAny_ret_mkInt;rw[Nat.add_zero];exact h
def len_raw (c:(d == sysModules)=false)(a:RawAt s.heap d es ep)(b:(es.size:Int)<2^63)
  (h:Q (.int es.size (s.toks+1)) { s with toks:=s.toks+1+1 }):wpAny (model prog w) A (call (.builtin "len") [.ref d]) Q E s:=by
 (apply SO kind_len plain_len entry_len (args_len1 _))
 (refine Ac (Aj ?_))
 refine Ac (F0 a.typeIs F.slot_dict_len (Ig F.slot_dict_len a.typeIs F.entry_dict_len (F.args_dict_len_1 _) (lB c) ⟨es,ep,a,?_⟩))
 (show wpAny _ _ _ _ _ { s with toks:=s.toks+1 })
 (refine Ac (Dj (Aj ?_)))
 refine Ac (wpAny_letGo ?_)
 (show wpAny _ _ (if ((es.size:Nat):Int)<0 then _ else _) _ _ _)
 rw[Ak Ψ]
 (show wpAny _ _ (if ((es.size:Nat):Int)≥2^63 then _ else _) _ _ _)
 rw[Ak Ψ]
 (exact Ac (wpAny_mkInt (Aj ⟨_,U,h⟩)))
end
end DR
namespace L2
open PySem PySem.Spec PyProof.Rows
section
variable {X:Cx}
theorem KT.getT :∀{kvs:List (PyData×V)}{xs:List (PyData×Addr×Value)}{i:Nat}{k:PyData}{v:V},KT H kvs xs->kvs[i]? = some (k,v)->∃b u,xs[i]? = some (k,b,u)/\RdT H b k/\RelV v u
 | _,_,_,_,_,.nil,e=>by simp at e
 | _,_,0,k,v,.cons (a:=p) (b:=q) r _,e=>by obtain⟨c,g,l⟩:=r;obtain⟨m,f,h⟩:=q;simp at e;subst e;simp only at c;subst c;exact⟨f,h,U,g,l⟩
 | _,_,i+1,_,_,.cons _ t,e=>by obtain⟨b,u,d,j⟩:=KT.getT (i:=i) t (by simpa using e);exact⟨b,u,by simpa using d,j⟩
def K0 (x:ObjOk P w H h a (.dT kvs)):kvs.length<=sizeLine/\(a == sysModules)=false/\∃xs o es ep,KT H kvs xs/\h.get? a=some o/\o.ExactDict/\o.data=.dict es ep/\es.toList=xs.map (entryOfKey (WK.dataKind P w))/\es.size=kvs.length:=by obtain⟨z,y,xs,r,o,es,ep,d,c,e,b,f⟩:=x;refine⟨z,y,xs,o,es,ep,r,d,c,e,b,?_⟩;rw[size_of_entries b,<- G8 r]
def Vw {P:Program}{w:World}{es:Array DictEntry}{xs:List (PyData×Addr×Value)}{i:Nat}{k:PyData}{b:Addr}{u:Value}(h:es.toList=xs.map (entryOfKey (WK.dataKind P w)))(a:xs[i]? = some (k,b,u)):∃e,es[i]? = some e/\e.key=.ref b/\e.val=u:=by refine⟨_,by rw[entry_at h,a];rfl,U,U⟩
structure S2 (H:Hp)(as:List Addr)(kvs:List (PyData×V)):Prop where
 len:as.length=kvs.length
 at':∀(i:Nat) a k v,as[i]? = some a->kvs[i]? = some (k,v)->RdT H a k
def KT.ky (r:KT H kvs xs):S2 H (xs.map λx=>x.2.1) kvs:=by refine⟨by rw[Ai];exact(G8 r).symm,λi a k v c d=>?_⟩;obtain⟨b,u,e,t,_⟩:=KT.getT r d;rw[AQ,e]at c;cases c;exact t
def WV (R:X.calm=true):Cs X (.type "list") (λxs H Q=>∃p kvs,xs=[.ref p]/\Rd H p (.dT kvs)/\∀l j,H l=none->S2 H j kvs->Q (.ref l) (Y H l (.lst (j.map V.ref)))):=by
 intro m s T H xs us Q I r h;obtain⟨p,kvs,rfl,P,q⟩:=h;obtain⟨u,rfl,M⟩:=CM r;cases M;obtain⟨hz,A,ys,o,es,ep,n,D,L,z,E,B⟩:=K0 (P.ok I.hok);refine PySem.W.kdl_call (DR.src_raw (es:=es) (ep:=ep) A) (I.ok.hd R) ⟨o,D,L,z⟩ Ψ λh' tk f c N w d=>?_;have S:=G8 n;have ky:=n.ky;refine⟨.ref _,_,I.laid (a:=s.heap.objs.size) (o:=.lst ((ys.map λx=>x.2.1).map V.ref)) N (An _) ⟨by rw[Ai,Ai];lia,f.toList,c,Pg ?_ λi x u g G=>?_,w⟩,U,q _ _ (I.hok.fresh (An _)) ky⟩
 ·have F:f.toList.length=f.size:=by simp
  rw[Ai,Ai,F,d.1,B,S]
 obtain⟨e,K,C⟩:=d.2 i u (by simpa using G);rw[AQ,AQ]at g;cases hy:ys[i]? with
 | none=>rw[hy]at g;cases g
 | some y=>obtain⟨k,b,v⟩:=y;rw[hy]at g;cases g;obtain⟨W,f1,f2,_⟩:=Vw E hy;rw[K]at f1;cases f1;rw[C,f2];rfl
def Oi:Cs X (.builtin "len") (λxs H Q=>∃a kvs,xs=[V.ref a]/\Rd H a (.dT kvs)/\Q (.int kvs.length) H):=by rintro b s m H xs us Q I r⟨a,kvs,rfl,j,q⟩;obtain⟨u,rfl,g⟩:=CM r;cases g;obtain⟨i,d,ys,o,es,ep,l,h,e,c,n,f⟩:=K0 (j.ok I.hok);refine DR.len_raw d ⟨o,h,e,c⟩ (by rw[AF]at i;lia) ?_;rw[f];exact⟨.int kvs.length,H,I.tok _,⟨_,U⟩,q⟩
def Inv.freezeT (I:Inv X dv σ H s)(h:H a=some (.dT kvs))(j:s.heap.get? a=some o):Inv X dv σ (Y H a (.frz o (.dT kvs))) s:=by
 have g:∀b,H b=none->b≠a:=λb e z=>by rw[z,h]at e;cases e
 have keep:∀b u,H b=some u->u≠.dT kvs->Y H a (.frz o (.dT kvs)) b=some u:=λb u e d=>by rw[Af (A8 e h d)];exact e
 have st:Inv X dv σ (Y H a (.frz o (.dT kvs))) { s with heap:=s.heap,gens:=s.gens,drawn:=s.drawn,toks:=s.toks }:=by
  refine I.step (g':=s.gens) (t':=s.toks) (d':=s.drawn) (ch:=[]) (λb f=>nomatch f) (λb o _ _ _ e _=>e) (λb o _ _ _ e _=>⟨o.slots,e⟩) (λb o _ e n=>by rw[Af (g b n)];exact n) (λb o _ e=>⟨o,e⟩)
   (λb xs e=>keep b _ e (by intro z;cases z)) (λb o u e=>keep b _ e (by intro z;cases z)) (λb ps e=>⟨#[],by rw[keep b _ e (by intro z;cases z)];simp⟩) (λm i=>i) (λb u e=>?_) I.bare
  by_cases f:b=a
  ·subst f;rw[Ag]at e;cases e;exact⟨j,(I.hok _ _ h).stay (λc v _ q=>q) (λc q=>keep c _ q (by intro z;cases z)) λc xs q=>keep c _ q (by intro z;cases z)⟩
  rw[Af f]at e;exact(I.hok b u e).stay (λc v _ q=>q) (λc q=>keep c _ q (by intro z;cases z)) λc xs q=>keep c _ q (by intro z;cases z)
 exact st
def Ir (a:Addr)(o:Obj)(kvs:List (PyData×V)):It:=
 ⟨λi H=>i<kvs.length/\H a=some (.frz o (.dT kvs)),λi H x H'=>H'=H/\∃k v b,kvs[i]? = some (k,v)/\x=.ref b/\RdT H b k,λi H=>kvs.length<=i/\H a=some (.frz o (.dT kvs))⟩
def UF (I:Inv X dv σ H s)(l:H a=some (.frz o (.dT kvs)))(c:o.data=.dict es ep) :
  ∃xs,KT H kvs xs/\DR.RawAt s.heap a es ep/\es.toList=xs.map (entryOfKey (WK.dataKind X.prog X.w))/\es.size=kvs.length:=by
 obtain⟨e,q⟩:=(I.hok a _ l)
 obtain⟨r,p,ys,n,i,j,f,d,g,b,m,h⟩:=K0 q
 rw[e]at d
 cases d
 rw[c]at b
 cases b
 exact⟨ys,f,⟨o,e,g,c⟩,m,h⟩
theorem Ts {P:Program}{w:World}{K:W.Frag}{tg:Expr}(it a:Addr)(o:Obj)(kvs:List (PyData×V))(es:Array DictEntry)(ep:Nat)(G:o.data=.dict es ep) :
  F8 P w K tg (Ir a o kvs) [it] it (λi h=>h.IsKeyIter it a i kvs.length ep) where
 mem:=by simp
 obj:=λi h st b f=>by
  have e:b=it:=by simpa using f
  subst e;obtain⟨o,e,c,d⟩:=st;exact⟨o,e,λv z=>by rw[d]at z;cases z⟩
 keep:=λi h h' st k=>by obtain⟨o,e,r⟩:=st;exact⟨o,k it Θ o e,r⟩
 item:=by
  intro X C D q N i m s S H E I p st y;subst C D q;obtain⟨A,f1,f2,f3,f4,f5⟩:=p it Θ;obtain⟨F,B⟩:=y;obtain⟨xs,M,g,L,n⟩:=UF I B G;have Q:=AJ F;obtain⟨b,u,T,rb,_⟩:=KT.getT M Q;obtain⟨e0,k1,k2,_⟩:=Vw L T;rw[<- n]at st;have l:i<es.size:=by lia
  refine DR.next_raw st g l λh' j R=>?_;obtain⟨o',e,c,d⟩:=id j;rw[n]at j;have x:RelV (V.ref b) es[i].key:=by rw[ES l]at k1;cases k1;exact k2
  exact⟨_,U,LJ e c d Ξ ⟨.ref b,H,I.turned (t':=s.toks) (λb o f e=>(R.2 b f).trans e) A f1 f3 f4 f5,x,⟨U,_,_,b,Q,U,rb⟩,j,λb f=>(p b f).1⟩⟩
 done:=by intro X C D q N i m s S H E I p st y;subst C D q;obtain⟨A,f1,f2,f3,f4,f5⟩:=p it Θ;obtain⟨F,B⟩:=y;obtain⟨xs,M,g,L,n⟩:=UF I B G;rw[<- n]at st;exact DR.end_raw (I.ok.hd N) st g Ψ λh' eb=>⟨U,I.turned (λb o f e=>eb b o f e) A f1 f3 f4 f5⟩
 self:=λ_ _ _ _ _ st h=>wpAny_pyIter_keyiter st h
def VM (tl:TE):TI:=λσ H R=>tl σ H λx H1=>∃a kvs,x=.ref a/\((H1 a=some (.dT kvs)/\∀o,R (Ir a o kvs) (Y H1 a (.frz o (.dT kvs))))\/∃o,H1 a=some (.frz o (.dT kvs))/\R (Ir a o kvs) H1)
def UW (K:PE X l tl):PI X tg l (VM tl):=by
 intro j s A H R I h;refine thn (K j s A H _ I h) ?_;rintro u d⟨x,y,c,B,F⟩;obtain⟨a,kvs,rfl,q⟩:=F;cases B;rcases q with⟨m,q⟩ | ⟨z,m,q⟩
 ·obtain⟨G,p,ys,o,es,ep,E,i,w,f,C,r⟩:=K0 (c.hok a _ m);have v:=c.freezeT m i;refine DR.iter_raw p ⟨o,i,w,f⟩ ⟨d.heap.objs.size,[d.heap.objs.size],_,_,Y y a (.frz o (.dT kvs)),U,v.kept (λb o e=>AV _ e),Ts _ a o kvs es ep f,⟨_,Bs _ U,U,by rw[r] <;> rfl⟩,λb n=>?_,q o⟩;obtain rfl:b=d.heap.objs.size:=by simpa using n
  exact v.fpOk (An _) (v.hok.fresh (An _))
 obtain⟨i,D⟩:=(c.hok a _ m);obtain⟨G,p,ys,o,es,ep,E,g,w,f,C,r⟩:=K0 D;rw[i]at g;cases g;refine DR.iter_raw p ⟨z,i,w,f⟩ ⟨d.heap.objs.size,[d.heap.objs.size],_,_,y,U,c.kept (λb o e=>AV _ e),Ts _ a z kvs es ep f,⟨_,Bs _ U,U,by rw[r] <;> rfl⟩,λb n=>?_,q⟩;obtain rfl:b=d.heap.objs.size:=by simpa using n
 exact c.fpOk (An _) (c.hok.fresh (An _))
end
section
variable {X:Cx}
def rR:Cs X (.builtin "sorted") (λxs H Q=>∃(p:Addr) (ns:List Int),xs=[.ref p]/\SqL X.K H p (ns.map V.int)/\ns.length<64/\∀(l:Addr) (d:List Int),H l=none->d.Perm ns->d.Pairwise (·<=·)->Q (.ref l) (Y H l (.lst (d.map V.int)))):=by rintro f s z H xs us Q I r⟨p,ys,rfl,n,B,q⟩;obtain⟨u,rfl,j⟩:=CM r;cases j;obtain⟨b,g,i,v⟩:=I.list n;have a:=g.length;rw[Ai]at a;refine sorted_ints i.isList (nK g) Ψ λout c m h y=>?_;obtain⟨e,x⟩:=sortedAll_at s.heap b out;have A:=AF;have w:=h.length_eq;refine⟨.ref _,_,I.laid (o:=.lst (c.map V.int)) (λ_ _=>sortedAll_old) (Fb _) ⟨by rw[Ai];lia,out.toList,e,Pf m,by simpa using x⟩,U,q _ _ (I.hok.fresh (Fb _)) h y⟩
end
end L2
namespace L2
open PySem PySem.Spec PyProof.Rows PySem.W Builtin Builtin.ObjectAttr
section
variable {prog:Program}{w:World}{A:Around}{E:Value->Shared->Prop}{s:Shared}{K:Frag}{x C:Addr}
def rM (X:K.In s.heap)(a:Looks (model prog w) s.heap (typeOf (.ref x)) (.ref C))(c:PySem.W.mroIn K C (.type "object")=some true)(h:R (.ok (.ret (.ref C))) s) :
  codeAny (model prog w) A (.call (.builtin "getset_descriptor.__get__") { pos:=[.builtin "object.__class__",.ref x,tp] }) R s:=by
 (obtain⟨d,g,dr,t,os⟩:=s)
 (have b:=looks_mroIn (M:=model prog w) X c)
 refine OS KF.slot_gs.plain KF.entry_gs (KF.slot_gs.check (model prog w) A.in1 _ _ (.builtin "object.__class__") [.ref x,tp] [] _ KF.type_class (KF.args_gs (.builtin "object.__class__") (.ref x) tp) ?_)
 unfold Builtin.«getset_descriptor.__get__»
 unfold Getset_descriptor.descrGet
 rw[dga_obj (.builtin "object.__class__") tp x]
 refine Ac (Aj ?_)
 show wpAny _ _ (Getset_descriptor.descrGetter (.builtin "object.__class__") (some (.ref x))) _ _ _
 unfold Getset_descriptor.descrGetter
 dsimp only
 refine Ac ?_
 unfold Getset_descriptor.descrCheckInstance
 unfold Getset_descriptor.descrNameAndClass
 dsimp only
 rw[KF.owner_class]
 refine Ac (Aj ?_)
 dsimp only
 unfold PySem.isInstance
 refine Ac (Ac (a.at (b.at ?_)))
 refine Aj ?_
 refine Aj ⟨Sj { pos:=[Value.ref x] } Δ,EM KF.entry_class ?_⟩
 unfold Builtin.«object.__class__»
 dsimp only
 unfold shownTypeOf
 refine Ac (Ac (a.at ?_))
 dsimp only
 (exact Aj (Aj h))
structure Ip (K:W.Frag)(D:Addr):Prop where
 ga:findIn K (.ref D) "__getattribute__" = some (some (.builtin "BaseException.__getattribute__"))
 gh:findIn K (.ref D) "__getattr__" = some none
 hi:subIn K (.ref D) (.type "BaseException")=some true
 ha:findIn K (.ref D) "__class__" = some (some (.builtin "object.__class__"))
 hn:specialIn K (.builtin "object.__class__") "__get__" = some (some (.builtin "getset_descriptor.__get__"))
 ht:takesIn K (.builtin "object.__class__")=some true
 hm:PySem.W.mroIn K D (.type "object")=some true
 hc:(clsIn K D).isSome=true
def pY (X:K.In s.heap)(n:Ip K C):Looks (model prog w) s.heap (Builtin.ObjectAttr.find (.ref x) (.ref C) "__class__") (.bind (.builtin "getset_descriptor.__get__") (.builtin "object.__class__")):=by refine(looks_findIn X n.ha).andThen ((looks_specialIn X n.hn).andThen (Looks.andThen (a:=some (.builtin "getset_descriptor.__get__",.builtin "object.__class__")) ?_ (.tag .now)));exact(looks_takesIn X n.ht).andThen .now
def pB (X:K.In s.heap)(b:∀M,Looks M s.heap (typeOf (.ref x)) (.ref C))(n:Ip K C)(h:Q (some (.ref C)) { s with toks:=s.toks+1 }):wpAny (model prog w) A (getAttr? (.ref x) "__class__") Q E s:=by
 have c:(Value.builtin "BaseException.__getattribute__" == Value.builtin "object.__getattribute__")=false:=by decide +kernel
 unfold getAttr?;(refine Ac (wpAny_mkText ?_));unfold getAttrBy?;(refine Ac (J9 ?_));unfold getAttrBy;refine Dj (Ac (b _ _ _ _ _ (λ_ _ e=>e) (Ac (looks_findIn X n.ga _ _ _ _ (λ_ _ e=>e) ?_))));dsimp only;rw[c,Bool.and_false,Ak Ξ];refine Ac (looks_hook (mc:=.ref C) X (r:=none) (by rw[Ar Φ];exact n.gh) _ _ _ _ (λ_ _ e=>e) (Ac (J9 (Dj ?_))));unfold callGetattribute;rw[show(false && onTheHeap (Value.builtin "BaseException.__getattribute__"))=false from U,Ak Ξ];unfold boundAndCalled;rw[Xn.ga.bind];refine Ac (Aj ?_);show wpAny _ _ (call (.builtin "BaseException.__getattribute__") [.ref x,.str "__class__" s.toks]) _ _ _;refine JY (OS Xn.ga.plain PySem.F.entry_bexc_ga ?_);refine @check_slot (model prog w) _ _ { s with toks:=s.toks+1 } "BaseException.__getattribute__" "BaseException" "__getattribute__" (.ref x) [.str "__class__" s.toks] [] _ Δ Δ ((b _).andThen (looks_subIn X n.hi)) (PySem.F.args_bexc_ga _ _) ?_;have i:=pY (prog:=prog) (w:=w) (x:=x) X n;have a:=b (model prog w);obtain⟨f,g,d,t,os⟩:=s;refine Ac (Aj (Ac (Aj (Ac (a.at (Ac (i.at ?_)))))));dsimp only;unfold bindTo;dsimp only;refine Ac (Dj (JY (rM (s:={ heap:=f,gens:=g,drawn:=d,toks:=t+1,os:=os }) X a n.hm ?_)));refine Aj ?_;show wpAny _ _ (handedOut (.ref C)) _ _ _;exact handed_on U (Aj h)
end
section
variable {X:Cx}
def rZ:Cs X (.builtin "isinstance") (λxs H Q=>∃(a D b:Addr),xs=[.ref a,.ref b]/\H a=some (GH a D)/\Ip X.K D/\kin_not X.K D b=true/\Q (.bl false) H):=by
 intro l s y H xs us Q I r h;obtain⟨a,D,b,rfl,u,n,d,q⟩:=h;obtain⟨F,C,rfl,m,v⟩:=Kt r;cases m;cases v;obtain⟨⟨o,p,x⟩,_⟩:=I.hok a _ u;unfold kin_not at d;simp only[BV,Kh,FC]at d;obtain⟨⟨⟨k1,k2⟩,k3⟩,i⟩:=d;have c:∀M,Looks M s.heap (typeOf (.ref a)) (.ref D):=λM A Q E s' f q=>OG (f _ _ p) (by rw[x];exact q)
 have j:∀(B:Addr),(clsIn X.K B).isSome=true->∀M,Looks M s.heap (isType (.ref B)) true:=λB g M A Q E s' f q=>by
  unfold clsIn at g;split at g
  ·rename_i Be;exact Ac (wpAny_loadPart (f _ _ (I.kIn _ _ Be)) (Aj q))
  cases g
 refine call_isinstance_of ?_ (by intro e;cases e);(unfold Builtin.«isinstance.nested»);dsimp only;refine Ac ((c _).at ?_);rw[Ak (by intro z;exact k1 (Value.ref.inj (JW z)))];refine Ac ((looks_typeIn I.kIn k3).at ?_);rw[Ar Φ];refine Ac (Ac ((j b k2 _).at ?_));dsimp only;have w:Looks (model X.prog X.w) s.heap (PySem.isInstance (.ref a) (.ref b)) false:=(c _).andThen (looks_subIn I.kIn i);refine Ac (w.at ?_);rw[Ak Ξ];refine Ac (pB (s:={ s with }) I.kIn c n ?_);dsimp only;refine Ac ((j D n.hc _).at ?_);rw[Ak Ξ];refine Ac (G3 ?_);refine(looks_subIn I.kIn i).at ?_;refine Aj ?_;exact⟨.bl false,H,I.tok _,U,q⟩
def sC:Cs X (.builtin "isinstance") (λxs H Q=>∃(a D c:Addr),xs=[.ref a,.ref c]/\H a=some (GH a D)/\((D=c/\Q (.bl true) H)\/(Ip X.K D/\kin_not X.K D c=true/\Q (.bl false) H))):=by
 rintro b s d H xs us Q I r⟨a,D,c,rfl,e,h⟩;rcases h with⟨rfl,q⟩ | ⟨n,f,q⟩
 ·exact sA b s d H _ us Q I r ⟨a,D,U,e,q⟩
 exact rZ b s d H _ us Q I r ⟨a,D,c,U,e,n,f,q⟩
def bZ :PE X e (λ_ _ _=>False):=λ_ _ _ _ _ _ h=>h.elim
end
end L2
namespace L2
open PySem PySem.Spec PyProof.Rows
def AA (h:Nat.ble n 16777216=true:=by rfl):n<=sizeLine:=by rw[AF];exact Nat.le_of_ble_eq_true h
abbrev Cj (a b:List Str):List Str:=a++b
def AO (c:sc.kind=.function:=by rfl)(f:sc.isCoroutine=false:=by rfl)(d:sc.isGenerator=false:=by rfl)(g:N.Nodup:=by decide +kernel)(e:N.take ps.length=ps:=by rfl)
  (a:∀x∈ps,sc.names.lookup x=some .local\/sc.names.lookup x=some .cell:=by decide +kernel)(b:∀y∈sc.names,y.2≠.free:=by decide +kernel):AI N ps sc:=⟨c,f,d,g,e,a,b⟩
def B0 (a:X.env.scope=sc:=by rfl)(f:N=own++fr:=by rfl)(i:scope.kind=.function:=by rfl)(h:sc.kind=.function:=by rfl)(c:∀y∈scope.names,y.2≠NameKind.cell:=by decide +kernel)
  (g:∀y∈scope.names,y.2=NameKind.free->sc.names.lookup y.1=some NameKind.cell:=by decide +kernel)(e:∀y∈scope.names,y.2=NameKind.local->scope.names.lookup y.1=some NameKind.local:=by decide +kernel)(b:js.map (λj=>X.N[j]?)=fr.map some:=by rfl)
  (d:∀x∈fr,sc.names.lookup x=some NameKind.cell/\scope.names.lookup x=some NameKind.free:=by decide +kernel):LcOk X N sc scope own fr js:=⟨a,f,i,h,c,g,e,b,d⟩
section
variable {X:Cx}{i:Nat}{x:Str}{pos pos':Pos}
def AD (f:X.N.Nodup)(b:PE X e te)(c:X.N[i]? = some x:=by rfl)(a:Kp X.env.scope x:=by exact .inl U)(d:swapsWith e (some (.Name x pos')) pos.line X.env=pure false:=by rfl)(g:X.fn x=true\/X.env.scope.names.lookup x=some .local:=by first | exact .inl U | exact .inr U | assumption) :
  PS X (.Assign [.Name x pos'] e pos) (Po te (E4 i)):=Gq f c a b d g
def AS (c:X.N.Nodup)(a:X.N[i]? = some x:=by rfl)(b:Kp X.env.scope x:=by exact .inl U)(d:X.fn x=true\/X.env.scope.names.lookup x=some .local:=by first | exact .inl U | exact .inr U | assumption):PG X (.Name x pos) (E4 i):=bX c a b d
end
section
variable {P:Program}{w:World}{K:W.Frag}{mg:Str->Option Value}{base:Heap}{x qual:Str}{st:Stmt}{f:Addr}{fd:FuncData}{N ps:List Str}{k:Nat}{sp:Sp}
def Fun.oq (F:Fun K x qual st f fd)(S:AI N ps (Aq st))
  (a:∀(cdv:Value) (A:Around) (outer:List Env) (s:Shared) (H:Hp) (vs:List V) (Q:VK) (E:XK),Room k (A.deeper (envOfC qual (Aq st) s.heap.objs.size f cdv))->sp vs H Q E->∃t,PSs (DO CX0 P w K mg base N qual (Aq st) f cdv A outer s H E).nox (B9 st) t/\t { nx:=λ_ H'=>Q .non H',rt:=Q } (start N vs) H)
  (len:∀vs H Q E,sp vs H Q E->vs.length=ps.length:=by intro _ _ _ _ h;cases h;subst_vars;rfl):FnOk P w K mg base CX0 (k+1) f fd ps sp:=F.ok S len a
def Fun.oqE (F:Fun K x qual st f fd)(S:AI N ps (Aq st))
  (a:∀(cdv:Value) (A:Around) (outer:List Env) (s:Shared) (H:Hp) (vs:List V) (Q:VK) (E:XK),Room k (A.deeper (envOfC qual (Aq st) s.heap.objs.size f cdv))->sp vs H Q E->∃t,PSs (DO (CXe P w) P w K mg base N qual (Aq st) f cdv A outer s H E) (B9 st) t/\t { nx:=λ_ H'=>Q .non H',rt:=Q } (start N vs) H)
  (len:∀vs H Q E,sp vs H Q E->vs.length=ps.length:=by intro _ _ _ _ h;cases h;subst_vars;rfl):FnOk P w K mg base (CXe P w) (k+1) f fd ps sp:=F.okE S len a
end
def Dg (h:H p=none):∃H',Y H p o=H'/\Same H H'/\H' p=some o:=⟨_,U,Same.new h,Ag⟩
inductive Qf (K:W.Frag)(x:Str)(s:Stmt)(f:Addr):Prop
 | mk {od an:Option Addr}{sl:Array (Option Value)}{oc kV dc pm cd ct:Value}(a:PySem.W.nsIn K mainGlobals x=some (some (.ref f))) (l:K.lookup f=some ⟨oc,od,.func (PySem.W.fnOf x x (Fv s) (B9 s) (Aq s) .none kV dc pm an cd ct),sl⟩)
   (c:PySem.W.codeIn K cd x=true) (k:PySem.W.keepIn K (.ref f)=true):Qf K x s f
def Qf.df {K:W.Frag}{h:Heap}{mg:Str->Option Value}{x:Str}{s:Stmt}{f:Addr}(q:Qf K x s f)(X:K.In h)(G:h.Ns mainGlobals mg)(ps:List Str)
  (e:∀(kV b d:Value) (g:Option Addr) (cdv ct:Value) (us:List Value),us.length=ps.length->bindArgs (PySem.W.fnOf x x (Fv s) (B9 s) (Aq s) .none kV b d g cdv ct) ⟨us,[]⟩=pure (ps.zip us)):∃fd,Df K mg x s ps f fd:=by
 obtain⟨a,l,c,k⟩:=q
 exact⟨_,EI l c k,Cb X G a,(EI l c k).binds e⟩
inductive Qm (K:W.Frag)(C:Addr)(x q:Str)(s:Stmt)(f:Addr):Prop
 | mk {od an:Option Addr}{sl:Array (Option Value)}{oc kV dc pm cd ct:Value}(a:PySem.W.findIn K (.ref C) x=some (some (.ref f))) (i:PySem.W.isFn K (.ref f)=true) (l:K.lookup f=some ⟨oc,od,.func (PySem.W.fnOf x q (Fv s) (B9 s) (Aq s) .none kV dc pm an cd ct),sl⟩)
   (c:PySem.W.codeIn K cd q=true) (k:PySem.W.keepIn K (.ref f)=true):Qm K C x q s f
def Qm.df {K:W.Frag}{C:Addr}{x b:Str}{s:Stmt}{f:Addr}(q:Qm K C x b s f)(ps:List Str)
  (h:∀(kV d g:Value) (j:Option Addr) (cdv ct:Value) (us:List Value),us.length=ps.length->bindArgs (PySem.W.fnOf x b (Fv s) (B9 s) (Aq s) .none kV d g j cdv ct) ⟨us,[]⟩=pure (ps.zip us)):∃e,Fun K x b s f e/\Binds K e ps []/\Dv K C x f:=by
 obtain⟨a,i,l,c,k⟩:=q
 exact⟨_,EI l c k,(EI l c k).binds h,a,i,k⟩
inductive Ca (P:Program)(w:World)(K:W.Frag)(mg:Str->Option Value)(base:Heap)(CX:DT)(k:Nat)(x:Str)(st:Stmt)(ps:List Str)(sp:Sp):Prop
 | mk {f:Addr}{fd:FuncData}(D:Df K mg x st ps f fd) (G:FnOk P w K mg base CX k f fd ps sp):Ca P w K mg base CX k x st ps sp
section
variable {X:Cx}{CX:DT}{k:Nat}{ps:List Str}{sp:Sp}{E:XK}{x:Str}{st:Stmt}{p pos:Pos}{e:Expr}{es:List Expr}{t:TA}
def AN (c:Ca X.prog X.w X.K X.mg X.base CX k x st ps sp)(i:Room k X.A)(g:EU CX X E)(d:PA X (e::es) t)(f:Gl X x:=by rfl)(b:(x == ("__debug__" : Str))=false:=by decide)(h:starEach (e::es) X.env=(false,eval e X.env)::starEach es X.env:=by rfl)
  (a:(backTo pos (starEach es X.env)).any (·.1)=false:=by rfl):PE X (.Call (.Name x p) (e::es) [] pos) (MI sp [] E t):=by
 obtain⟨D,G⟩:=c
 exact Bc G i f D.m D.F.kp D.b .nil g d b h a
end
end L2
namespace K21
open PySem L2 Tx Rk PyProof.Rows PySem.SeqAt
open PySem.PyData (strOk)
section
variable {P:Program}{w:World}{K:W.Frag}{mg:Str->Option Value}{base:Heap}
def top (i:Nat):Stmt:=PySem.Challenge.pw_grope_k21_no_atlas.main.body.getD i (.Pass ⟨0,0,0,0⟩)
abbrev IK:Stmt:=top 10
abbrev ZL:Stmt:=top 11
abbrev IU:Stmt:=top 17
abbrev Gk:Stmt:=top 18
abbrev IT:Stmt:=top 19
abbrev IS:Stmt:=top 20
abbrev KS:Stmt:=top 21
abbrev KU:Stmt:=top 22
abbrev KI:Stmt:=top 23
abbrev Nd:Stmt:=top 24
abbrev Ng:Stmt:=top 25
abbrev IR:Stmt:=top 26
abbrev IW:Stmt:=Fs (top 27) 0
abbrev Hn:Stmt:=top 29
abbrev Gh:Stmt:=top 30
abbrev KE:Stmt:=top 34
abbrev Hk:Stmt:=top 35
abbrev Ni:Stmt:=top 36
abbrev Na:Stmt:=top 37
abbrev Nf:Stmt:=top 38
abbrev Nj:Stmt:=top 42
abbrev Nt:Stmt:=top 43
abbrev IQ:Stmt:=top 44
abbrev KP:Stmt:=top 45
abbrev Nz:Stmt:=top 46
abbrev Nn:Stmt:=top 47
abbrev IZ:Stmt:=top 48
abbrev Nk:Stmt:=top 51
abbrev IM:Stmt:=top 52
abbrev Nq:Stmt:=top 53
abbrev Nu:Stmt:=top 54
abbrev M9:Stmt:=top 55
abbrev Nr:Stmt:=top 56
abbrev KG:Stmt:=top 57
abbrev Nw:Stmt:=top 59
abbrev Nh:Stmt:=top 60
abbrev NC:Stmt:=top 61
abbrev IV:Stmt:=top 62
abbrev KR:Stmt:=top 63
abbrev KJ:Stmt:=top 64
abbrev KM:Stmt:=top 65
abbrev NB:Stmt:=Fs (top 66) 0
abbrev QD:Stmt:=Fs (top 66) 3
abbrev KQ:Stmt:=top 74
abbrev KH:Stmt:=top 75
abbrev IL:Stmt:=top 76
abbrev Nb:Stmt:=top 77
abbrev Nc:Stmt:=top 78
abbrev Ny:Stmt:=top 79
abbrev QC:Stmt:=Fs (top 80) 0
abbrev Qy:Stmt:=Fs (top 80) 1
abbrev ZM:Stmt:=Fs (top 80) 2
abbrev QA:Stmt:=Fs (top 80) 3
abbrev Qz:Stmt:=Fs (top 80) 4
abbrev QB:Stmt:=Fs (top 80) 5
abbrev Qx:Stmt:=Fs (top 80) 6
abbrev EW:Stmt:=top 82
abbrev Gj:Stmt:=top 83
abbrev KL:Stmt:=top 84
abbrev Nl:Stmt:=top 85
abbrev Gg:Stmt:=top 86
abbrev Nm:Stmt:=top 87
abbrev IJ:Stmt:=top 88
abbrev IP:Stmt:=top 89
abbrev Np:Stmt:=top 90
abbrev Gi:Stmt:=top 91
abbrev KO:Stmt:=top 92
abbrev Hm:Stmt:=top 93
abbrev Fe:Stmt:=top 94
abbrev Hl:Stmt:=top 95
structure Bl (mg:Str->Option Value):Prop where
 len:mg "len" = none
 range:mg "range" = none
 tuple:mg "tuple" = none
 zip:mg "zip" = none
 isi:mg "isinstance" = none
 str:mg "str" = none
 list:mg "list" = none
 set:mg "set" = none
 all:mg "all" = none
 sorted:mg "sorted" = none
 int:mg "int" = none
 bool:mg "bool" = none
 reversed:mg "reversed" = none
 max:mg "max" = none
 sum:mg "sum" = none
 enumerate:mg "enumerate" = none
 dict:mg "dict" = none
 any:mg "any" = none
 ve:mg "ValueError" = none
 min:mg "min" = none
abbrev CO:List Str:=["_law_script", "_law_k", "_law_many"]
def LR (ns:List Int)(k:Int):Int:=if 0<ns.length then ns.getD (k % (ns.length:Int)).toNat 0 else 0
def pk (ns:List Int)(k m:Int):Int:=(LR ns k % 10^(12:Int).toNat+104729)*(k*k+48271*k+11) % 2147483647*742938285 % 2147483629 % m
def Jc (ns:List Int)(k:Int) (h:0<m):0<=pk ns k m:=JZ _ Ψ
def Jd (ns:List Int)(k:Int) (h:0<m):pk ns k m<m:=Ka _ h
inductive MS (K:W.Frag)(vs:List V)(H:Hp)(Q:VK)(E0_:XK):Prop
 | mk (a:Addr) (ns:List Int) (k m:Int) (c0:vs=[.ref a,.int k,.int m]) (c1:SqL K H a (ns.map V.int)) (c2:ns.length<=63) (c3:0<=k) (c4:k<1000000) (c5:0<m) (c6:Q (.int (pk ns k m)) H):MS K vs H Q E0_
inductive FG (K:W.Frag)(vs:List V)(H:Hp)(Q:VK)(E0_:XK):Prop
 | mk (a:Addr) (ns:List Int) (k m:Int) (c0:vs=[.ref a,.int k,.int m]) (c1:SqL K H a (ns.map V.int)) (c2:ns.length<=63) (c3:0<=k) (c4:k<1000000) (c5:0<m) (c6:∀r:Int,0<=r->r<m->Q (.int r) H):FG K vs H Q E0_
inductive Qb (vs:List V)(H:Hp)(Q:VK)(E0_:XK):Prop
 | mk (x:Str) (c0:vs=[.str x]) (c1:∀(H':Hp),Same H H'->Q (.bl (decide (x∈fixedS))) H'):Qb  vs H Q E0_
inductive PR (K:W.Frag)(vs:List V)(H:Hp)(Q:VK)(E0_:XK):Prop
 | mk (a:Addr) (ns:List Int) (k m:Int) (c0:vs=[.ref a,.int k,.int m]) (c1:SqL K H a (ns.map V.int)) (c2:ns.length<=63) (c3:0<=k) (c4:k<1000) (c5:0<=m) (c6:m<=12) (c7:∀(l:Addr) (xs:List Str) (H':Hp),Same H H'->H l=none->H' l=some (.lst (xs.map V.str))->(xs.length:Int)=m->(∀x∈xs,Nv x)->xs.Nodup->Q (.ref l) H'):PR K vs H Q E0_
def WR (c:Int):-(2^64)<c % 10^(12:Int).toNat+104729/\c % 10^(12:Int).toNat+104729<2^64:=by
 have e:(10:Int)^(12:Int).toNat=1000000000000:=by decide +kernel
 rw[e];lia
def scPick:AI ["_law_script", "_law_k", "_law_many", "_law_cell", "_law_number"] CO (Aq EW):=AO
def scFixed:AI ["_law_text", "_law_words"] ["_law_text"] (Aq Gj):=AO
def NT (vs:List V)(h:es.all JF=true)(a:es.map IE=vs):PA X es (λ_ H Q=>Q vs H):=by subst a;exact U7 h
def S9:List Expr:=match (B9 Gj).getD 0 (.Pass ⟨0,0,0,0⟩)with
 | .Assign _ (.List es _) _=>es
 | _=>[]
def V6 (es:List Expr):List Stmt:=match B9 Gj with
 | [.Assign a (.List _ p2) p3,r]=>[.Assign a (.List es p2) p3,r]
 | l=>l
def pW:V6 S9=B9 Gj:=by rfl
abbrev jC:List Str:=["_law_script", "_law_k", "_law_many", "_law_signs", "_law_at", "_law_i", "_law_size", "_law_alike", "_law_names_here", "_law_name", "_law_j", "_law_number"]
def scNames:AI jC CO (Aq KL):=AO
def Dy (ns:List Int)(k al at':Int)(i j:Nat):Int:=if (j:Int)=at' then(pk ns (k+12) 26+5*(i:Int)) % 26 else pk ns (k+3+(j:Int)*al) 26
def N3 (ns:List Int)(k a at':Int)(i j:Nat):0<=Dy ns k a at' i j/\Dy ns k a at' i j<26:=by
 unfold Dy;split
 ·exact⟨JZ _ Ξ,Ka _ Ξ⟩
 exact⟨Jc _ _ Ξ,Jd _ _ Ξ⟩
def Cw (ns:List Int)(k al at':Int)(i n:Nat):List Nat:=(List.range n).map λj=>97+(Dy ns k al at' i j).toNat
def Fm (ns:List Int)(k al at':Int)(n i:Nat):Str:=Gb ⟨(Cw ns k al at' i n).toArray⟩
def Zb (ns:List Int)(k a at':Int)(i n:Nat):Cw ns k a at' i (n+1)=Cw ns k a at' i n++[97+(Dy ns k a at' i n).toNat]:=by unfold Cw;rw[G0,AW];rfl
def RG (l:List Nat):cs ⟨l.toArray⟩=l:=rfl
def Zc {k at':Int} (h:c∈Cw ns k al at' i n):97<=c/\c<=122:=by obtain⟨j,_,rfl⟩:=Ba.mp h;have:=N3 ns k al at' i j;lia
def II (ns:List Int)(k a at':Int)(i n:Nat):(Cw ns k a at' i n).length=n:=by unfold Cw;rw[Ai,Em]
def Jx (l:List Nat):(Str.mk l.toArray).length=l.length:=by rw[<- Cq,RG]
def iM (ns:List Int)(k d at':Int) (i:Nat)(a:1<=n)(e:n<=8):Nv (Fm ns k d at' n i):=
 XN (λc b=>Zc b) (by rw[Jx,II];exact a) (by rw[Jx,II];exact e)
def iN {k:Int}{a:Nat}(g:a<n)(d:i<26)(l:j<26)(h:Fm ns k al (a:Int) n i=Fm ns k al (a:Int) n j):i=j:=by
 have e:=XO (by rw[Jx,Jx,II,II]) h;have f:Cw ns k al a i n=Cw ns k al a j n:=by have:=BQ cs e;rwa [RG,RG]at this
 have b:(Cw ns k al a i n)[a]? = (Cw ns k al a j n)[a]?:=by rw[f]
 unfold Cw at b;rw[AQ,AQ,List.getElem?_range g]at b;have p:97+(Dy ns k al a i a).toNat=97+(Dy ns k al a j a).toNat:=BG b;have o:=N3 ns k al a i a;have m:=N3 ns k al a j a;have c:Dy ns k al a i a=Dy ns k al a j a:=by lia
 unfold Dy at c;rw[Ar U,Ar rfl]at c;exact pX d l c
def Ho (at':Int)(i:Nat):Str:=Txt.mul ⟨#[97+((at'+(i:Int) / 8) % 23).toNat]⟩ (1+(i:Int) % 8)
def rG (e:1<=i):cs (Txt.mul ⟨#[c]⟩ i)=replicate i.toNat c:=by
 have b:¬i<1:=by lia
 unfold Txt.mul;rw[Ak b];by_cases a:(i == 1 || (⟨#[c]⟩:Str).length == 0)=true
 ·rw[Ar a]
  have:i=1:=by
   rw[R0]at a;rcases a with q | q
   ·exact JW q
   cases q
  subst this;rfl
 rw[Ak a];have d:=V0 #[c] i.toNat #[];show(List.foldl (λx y=>x++y) #[] (replicate i.toNat #[c])).toList=_;rw[d]
 have:∀n:Nat,(replicate n [c]).flatten=replicate n c:=λn=>by
  induction n with
  | zero=>rfl
  | succ n ih=>rw[OQ,Im,ih,OQ];rfl
 simpa using this i.toNat
def QH (at':Int)(i:Nat):cs (Ho at' i)=replicate (1+(i:Int) % 8).toNat (97+((at'+(i:Int) / 8) % 23).toNat):=rG Ψ
def Z0 (at':Int)(i:Nat):Nv (Ho at' i):=iH (QH at' i) Ψ Ψ Ψ Ψ
def Z1 {at':Int} (b:i<16)(d:j<16)(h:Ho at' i=Ho at' j):i=j:=by
 have e:=BQ cs h;rw[QH,QH]at e;have l:=BQ List.length e;rw[Fz,Fz]at l;have a:97+((at'+(i:Int) / 8) % 23).toNat∈replicate (1+(j:Int) % 8).toNat (97+((at'+(j:Int) / 8) % 23).toNat):=by rw[<- e];exact HZ.mpr ⟨Ψ,U⟩
 have c:=(HZ.mp a).2;lia
def nodup_range (inj:∀i j,i<n->j<n->f i=f j->i=j):((List.range n).map f).Nodup:=by rw[List.nodup_iff_pairwise_ne,Oq];refine SJ (λ{a b} ha hb ne e=>ne (inj a b (Do.mp ha) (Do.mp hb) e)) (R4)
def eE (F:Fun K "_law_pick" "_law_pick" EW f fd)(T:Bl mg):FnOk P w K mg base CX0 1 f fd CO (MS K):=by
 refine F.oq scPick λcdv A outer s H vs Q E v h=>?_;obtain⟨a,ns,k,m,rfl,g,u,k0,k1,r,q⟩:=h;refine⟨_,Ah (AD (i:=3) scPick.nd Ae) (Ah (AL (AM Fk (AX BI Φ T.len Bj (Aa (pv 0) Ab)) Ae (AE _)) (Am (AD (i:=3) scPick.nd (Av Bb (pv 0) (As Eg (pv 1) (AX BI Φ T.len Bj (Aa (pv 0) Ab))) (λ_ _=>U)))) AK) (Ah (AD (i:=4) scPick.nd (As Eg (As GA (As Bq (As Eg (pv 3) (As NX Ae Ae)) Ae) (As Bq (As Bq (As GA (pv 1) (pv 1)) (As GA Ae (pv 1))) Ae)) Ae)) (Am (AC (As Eg (As Eg (As GA (pv 4) Ae) Ae) (pv 2)))))),?_⟩;refine⟨_,U,_,_,U,.inl ⟨_,g,U⟩,_,_,U,U,_,U,?_⟩;have e:(ns.map V.int).length=ns.length:=Ai ..;refine Bi (λo=>?_) (λo=>?_)
 ·have n:0<ns.length:=by have:=Bf o;rw[e]at this;lia
  have c:(0:Int)<((ns.map V.int).length:Int):=by rw[e];lia
  obtain⟨j,p⟩:∃j:Nat,(j:Int)=k % ((ns.map V.int).length:Int):=⟨(k % ((ns.map V.int).length:Int)).toNat,Dr (JZ _ Ψ)⟩;have d:j<ns.length:=by have:=Ka k c;rw[e]at this p;lia
  have l:atI (ns.map V.int) (k % ((ns.map V.int).length:Int))=some (.int ns[j]):=by rw[<- p];exact AB (by simp[d])
  have b:LR ns k=ns[j]:=by unfold LR;rw[Ar n,<- e,<- p,C9];simp[List.getD,d]
  unfold pk at q;rw[b]at q;refine⟨_,U,_,U,_,U,_,_,U,.inl ⟨_,g,U⟩,_,_,U,U,c,_,_,_,_,U,U,g,l,?_⟩;refine⟨_,U,_,_,U,U,⟨Ξ,Ξ,Ξ⟩,_,_,U,U,(by show(0:Int)<_;decide +kernel),_,_,U,U,_,U,_,U,_,_,U,U,.inl ⟨Ψ,Ψ⟩,_,U,_,_,U,U,.inl ⟨Ξ,Ξ⟩,_,_,U,U,_,_,U,U,_,_,U,U,.inl (WR _),_,_,U,U,(by show(0:Int)<_;decide),?_⟩;exact⟨_,U,_,_,U,U,.inr ⟨Ξ,Ξ⟩,_,_,U,U,(by show(0:Int)<_;decide),_,U,_,_,U,U,r,q⟩
 have b:LR ns k=0:=by unfold LR;rw[Ak];intro z;exact o (AU (by rw[e];lia))
 unfold pk at q;rw[b]at q;refine⟨_,U,_,_,U,U,⟨Ξ,Ξ,Ξ⟩,_,_,U,U,(by show(0:Int)<_;decide +kernel),_,_,U,U,_,U,_,U,_,_,U,U,.inl ⟨Ψ,Ψ⟩,_,U,_,_,U,U,.inl ⟨Ξ,Ξ⟩,_,_,U,U,_,_,U,U,_,_,U,U,.inl (WR _),_,_,U,U,(by show(0:Int)<_;decide),?_⟩;exact⟨_,U,_,_,U,U,.inr ⟨Ξ,Ξ⟩,_,_,U,U,(by show(0:Int)<_;decide),_,U,_,_,U,U,r,q⟩
def eF (G:FnOk P w K mg base CX0 1 f fd CO (MS K)):FnOk P w K mg base CX0 1 f fd CO (FG K):=
 G.imp λvs H Q E h=>by obtain⟨a,ns,k,m,e,c,d,k0,k1,b,q⟩:=h;exact⟨a,ns,k,m,e,c,d,k0,k1,b,q _ (Jc _ _ b) (Jd _ _ b)⟩
def pV (vs:List V)(h:es.all JF=true)(b:es.map IE=vs)(a:vs.length<=sizeLine)(c:vs.all Ft=true) :
  ∃t,PSs (DO CX0 P w K mg base ["_law_text", "_law_words"] "_law_fixed" (Aq Gj) f cdv A outer s H E).nox (V6 es) t /\
   ∀(x:Str) (Q:VK),(∀(H':Hp),Same H H'->Q (.bl (Fq (.str x) vs)) H')->t { nx:=λ_ H'=>Q .non H',rt:=Q } [some (.str x),none] H:=by
 refine⟨_,Ah (AD (i:=1) scFixed.nd (AZ (NT vs h b))) (Am (AC (De Js (pv 0) (pv 1) Φ))),?_⟩
 intro x Q q
 refine⟨a,λl a=>?_⟩
 exact⟨_,U,_,U,l,_,U,.inl (SqL.of Ag),U,c,q _ (Same.new a)⟩
def gH (F:Fun K "_law_fixed" "_law_fixed" Gj f fd):FnOk P w K mg base CX0 1 f fd ["_law_text"] Qb:=by
 refine F.oq scFixed λcdv A outer s H vs Q E b h=>?_;obtain⟨x,rfl,q⟩:=h;obtain⟨t,a,rt⟩:=pV (P:=P) (w:=w) (K:=K) (mg:=mg) (base:=base) (f:=f) (cdv:=cdv) (A:=A) (outer:=outer) (s:=s) (H:=H) (E:=E) (es:=S9) (fixedS.map V.str) Δ Φ (by rw[AF];decide +kernel) (flat_strs _);rw[pW]at a;refine⟨t,?_,rt x Q λH' s'=>?_⟩
 ·assumption
 rw[HW];exact q H' s'
def eQ (F:Fun K "_law_names" "_law_names" KL f fd)(c:Df K mg "_law_pick" EW CO fP fdP)(DX:Df K mg "_law_fixed" Gj ["_law_text"] fX fdX)(T:Bl mg)
  (B:FnOk P w K mg base CX0 1 fP fdP CO (MS K))(GX:FnOk P w K mg base CX0 1 fX fdX ["_law_text"] Qb) :
  FnOk P w K mg base CX0 2 f fd CO (PR K):=by
 refine F.oq scNames λcdv A outer s H vs Q E v h=>?_
 obtain⟨a,ns,k,m,rfl,W,C,k0,k1,m0,m1,q⟩:=h
 refine⟨_,(Ah (Gq (i:=3) scNames.nd U (E9 U) Aw) (Ah (AL (AM Bt (Bc B v Φ c.m c.F.kp c.b .nil Ao (Aa (pv 0) (Aa (As Bq (pv 1) Ae) (Aa Ae Ab)))) Ae (AE _)) (Ah (Gq (i:=4) scNames.nd U (E9 U) (Bc B v Φ c.m c.F.kp c.b .nil Ao (Aa (pv 0) (Aa (pv 1) (Aa Ae Ab))))) (Am (AC (Dx (N:=["_law_i", "_law_signs", "_law_at"]) (sc:=Aq KL) (own:=["_law_i"]) (fr:=["_law_signs", "_law_at"]) (js:=[3,4]) B0 U (EB Φ T.range (Aa (pv 2) Ab)) (λ_ _ _ _=>AS (i:=0) (show List.Nodup (["_law_i", "_law_signs", "_law_at"]:List Str) by decide +kernel)) (λ_ _ _ _=>Ck) (λ_ _ _ _=>(As cO (Av JE (pv 1) (As Eg (As Bq (pv 2) (As Q2 (pv 0) Ae)) Ae) (λ_ _=>U)) (As Bq Ae (As Eg (pv 0) Ae)))))))) AK) (Ah (AD (i:=6) scNames.nd (As Bq Ae (Bc B v Φ c.m c.F.kp c.b .nil Ao (Aa (pv 0) (Aa (pv 1) (Aa Ae Ab)))))) (Ah (Gq (i:=4) scNames.nd U (E9 U) (Bc B v Φ c.m c.F.kp c.b .nil Ao (Aa (pv 0) (Aa (As Bq (pv 1) Ae) (Aa (pv 6) Ab))))) (Ah (AD (i:=7) scNames.nd (Bc B v Φ c.m c.F.kp c.b .nil Ao (Aa (pv 0) (Aa (As Bq (pv 1) Ae) (Aa Ae Ab))))) (Ah (AD (i:=8) scNames.nd (AZ Ab)) (Ah (Cg CK U (EB Φ T.range (Aa (pv 2) Ab)) (AS (i:=5) scNames.nd) (Ah (AD (i:=9) scNames.nd Aw) (Ah (Cg CK U (EB Φ T.range (Aa (pv 6) Ab)) (AS (i:=10) scNames.nd) (Ah (AD (i:=11) scNames.nd (Bc B v Φ c.m c.F.kp c.b .nil Ao (Aa (pv 0) (Aa (As Bq (As Bq (pv 1) Ae) (As GA (pv 10) (pv 7))) (Aa Ae Ab))))) (Ah (AL (AM Bt (pv 10) (pv 4) (AE _)) (Am (AD (i:=11) scNames.nd (As Eg (As Bq (Bc B v Φ c.m c.F.kp c.b .nil Ao (Aa (pv 0) (Aa (As Bq (pv 1) Ae) (Aa Ae Ab)))) (As GA Ae (pv 5))) Ae))) AK) (Am (AD (i:=9) scNames.nd (As CD (pv 9) (Av JE (pv 3) (pv 11) (λ_ _=>U)))))))) (Ah (AL (Ey (Bc GX v Φ DX.m DX.F.kp DX.b .nil Ao (Aa (pv 9) Ab))) (Am (AD (i:=9) scNames.nd (As CD Aw (pv 9)))) AK) (Am (BY (CN Ea F1 GY FL (pv 8) (Aa (pv 9) Ab)))))))) (Am (AC (pv 8)))))))))),?_⟩
 have a9:(Str.ofString "abcdefghijklmnopqrstuvwxyz")=abc:=rfl
 have ad:sizeLine=16777216:=AF
 refine⟨_,U,_,U,_,_,U,U,a,ns,_,_,U,W,C,Ψ,Ψ,Ξ,⟨U,_,U,?_⟩⟩
 refine Bi (λ_=>?_) (λ_=>?_)
 ·refine⟨_,U,_,U,a,ns,_,_,U,W,C,Ψ,Ψ,Ξ,?_⟩;have a0:=Jc ns k (m:=23) Ξ;have a1:=Jd ns k (m:=23) Ξ;generalize pk ns k 23=at' at a0 a1 ⊢;refine⟨_,U,m,U,Ψ,Ψ,λD hD=>?_⟩
  refine Co (n:=m.toNat) (λi ys o=>ys=((List.range i).map (Ho at')).map V.str/\Same H o/\o D=some (.lst ys)) ⟨U,Same.new hD,Ag⟩
   (λi _ _ hi _=>hi) (λ_ _ _=>An _) ?_ ?_
  ·rintro i ys o x H3 hi ⟨rfl,p,G⟩ ⟨rfl,rfl⟩;refine Cn ?_;have b0:=JZ (at'+(0+(i:Int)) / 8) (b:=23) Ξ;have b1:=Ka (at'+(0+(i:Int)) / 8) (b:=23) Ξ;have X:=Xe b0 Ψ;have d0:=JZ (0+(i:Int)) (b:=8) Ξ;have d1:=Ka (0+(i:Int)) (b:=8) Ξ;refine⟨_,U,_,U,_,U,_,_,U,U,⟨Ξ,Ξ⟩,_,_,U,U,_,_,U,U,(by show(0:Int)<_;decide),abc,_,_,U,U,RX,X,_,U,_,_,U,U,(by show(0:Int)<_;decide),_,_,U,U,_,_,U,U,Ψ,Ψ,(by show 1<=1000;decide),?_⟩;refine⟨_,G,by rw[Ai,Ai,Em];lia,?_,p.put hD,Ag⟩;rw[G0,AW,AW];show _=_++[V.str (Ho at' i)];unfold Ho;rw[Ie]
  rintro ys o ⟨rfl,p,G⟩;refine q D _ o p hD G (by rw[Ai,Em];lia) (λx M=>?_) (nodup_range λi j hi hj e=>Z1 Ψ Ψ e);obtain⟨i,_,rfl⟩:=Ba.mp M;exact Z0 at' i
 refine⟨_,U,_,U,a,ns,_,_,U,W,C,Ψ,Ψ,Ξ,⟨_,_,U,U,?_⟩⟩
 have s0:=Jc ns k (m:=8) Ξ
 have s1:=Jd ns k (m:=8) Ξ
 generalize pk ns k 8=sz at s0 s1 ⊢
 refine⟨_,U,_,U,_,_,U,U,_,U,a,ns,_,_,U,W,C,Ψ,Ψ,Ψ,?_⟩
 have a0:=Jc ns (k+1) (m:=1+sz) Ψ
 have a1:=Jd ns (k+1) (m:=1+sz) Ψ
 generalize pk ns (k+1) (1+sz)=at' at a0 a1 ⊢
 refine⟨_,U,_,U,_,_,U,U,a,ns,_,_,U,W,C,Ψ,Ψ,Ξ,?_⟩
 have l0:=Jc ns (k+2) (m:=2) Ξ
 have l1:=Jd ns (k+2) (m:=2) Ξ
 generalize pk ns (k+2) 2=al at l0 l1 ⊢
 refine⟨Bn _,λl hl=>?_⟩
 obtain⟨n,aa⟩:∃n:Nat,(n:Int)=1+sz:=⟨(1+sz).toNat,Dr Ψ⟩
 obtain⟨a',a8⟩:∃n:Nat,(n:Int)=at':=⟨at'.toNat,Dr Ψ⟩
 refine⟨_,U,m,U,Ψ,Ψ,HX (n:=m.toNat) (λi R o=>∃(v5 v9 g d:Option V),R = [some (.ref a),some (.int k),some (.int m),some (.str abc),some (.int at'),v5,some (.int (1+sz)),some (.int al),some (.ref l),v9,g,d] /\ Same H o/\o l=some (.lst (((List.range i).map (Fm ns k al at' n)).map V.str))) ⟨none,none,none,none,U,Same.new hl,Ag⟩ ?_ ?_⟩
 ·rintro i R o hi ⟨v5,v9,g,d,rfl,p,S⟩;have a5:=p.seq W;refine⟨_,U,_,U,Ψ,Ψ,HX (n:=(1+sz).toNat) (λj R H3=>∃(g d:Option V),R = [some (.ref a),some (.int k),some (.int m),some (.str abc),some (.int at'),some (.int (0+(i:Int))),some (.int (1+sz)),some (.int al),some (.ref l),some (.str ⟨(Cw ns k al at' i j).toArray⟩),g,d] /\ H3=o) ⟨g,d,U,U⟩ ?_ ?_⟩
  ·rintro j R H3 hj ⟨a6,a7,rfl,rfl⟩;have ac:(j:Int)<1+sz:=by lia
   have ab:0<=(0+(j:Int))*al/\(0+(j:Int))*al<=8:=by
    have:al=0\/al=1:=by lia
    rcases this with e | e
    ·subst e;lia
    subst e;lia
   refine⟨_,U,_,U,_,_,U,U,_,U,_,U,_,_,U,U,.inl ⟨Ψ,Ψ⟩,_,_,U,U,a,ns,_,_,U,a5,C,Ψ,Ψ,Ξ,?_⟩;refine⟨_,U,_,U,U,_,U,?_⟩;have a4:=N3 ns k al at' i j;have X:=Xe a4.1 a4.2;have r:(⟨(Cw ns k al at' i j).toArray⟩:Str)++⟨#[97+(Dy ns k al at' i j).toNat]⟩=⟨(Cw ns k al at' i (j+1)).toArray⟩:=by apply RI;rw[BN,rF];show Cw ns k al at' i j++[97+(Dy ns k al at' i j).toNat]=Cw ns k al at' i (j+1);rw[Zb]
   have a2:(⟨(Cw ns k al at' i j).toArray⟩:Str).length=j:=by rw[Jx,II]
   refine Bi (λhe=>?_) (λhe=>?_)
   ·have y:(j:Int)=at':=by have:=V.int.inj (Bf he);lia
    have I:Dy ns k al at' i j=(pk ns (k+12) 26+5*(0+(i:Int))) % 26:=by unfold Dy;rw[Ar y,Ie]
    rw[I]at X r;refine⟨_,U,_,U,_,_,U,U,a,ns,_,_,U,a5,C,Ψ,Ψ,Ξ,?_⟩;refine⟨_,U,_,_,U,U,.inl ⟨Ξ,Ξ⟩,_,_,U,U,_,_,U,U,(by show(0:Int)<_;decide),?_⟩;refine⟨_,U,_,U,_,U,abc,_,_,U,U,RX,X,_,_,U,U,by show(⟨(Cw ns k al at' i j).toArray⟩:Str).length+1<=sizeLine;lia,some (.int (0+(j:Int))),some (.int ((pk ns (k+12) 26+5*(0+(i:Int))) % 26)),?_,U⟩;rw[<- r];all_goals rfl
   have y:¬(j:Int)=at':=λz=>he (AU (by rw[<- z,Ie]));have I:Dy ns k al at' i j=pk ns (k+3+(0+(j:Int))*al) 26:=by unfold Dy;rw[Ak y,Ie]
   rw[I]at X r;refine⟨_,U,_,U,_,U,abc,_,_,U,U,RX,X,_,_,U,U,by show(⟨(Cw ns k al at' i j).toArray⟩:Str).length+1<=sizeLine;lia,some (.int (0+(j:Int))),some (.int (pk ns (k+3+(0+(j:Int))*al) 26)),?_,U⟩;rw[<- r];all_goals rfl
  rintro R H3 ⟨a6,a7,rfl,rfl⟩;have en:(1+sz).toNat=n:=by lia
  rw[en];refine⟨_,U,_,U,λH4 s4=>⟨_,U,?_⟩⟩;have u:=s4 _ _ S;have a2:(⟨(Cw ns k al at' i n).toArray⟩:Str).length=n:=by rw[Jx,II]
  have hz:((List.range i).map (Fm ns k al at' n)).map V.str++[V.str (Fm ns k al at' n i)]=((List.range (i+1)).map (Fm ns k al at' n)).map V.str:=by rw[G0,AW,AW];rfl
  have a3:(((List.range i).map (Fm ns k al at' n)).map V.str).length<sizeLine:=by rw[Ai,Ai,Em];lia
  refine Bi (λM=>?_) (λM=>?_)
  ·have L:=Bf M;refine⟨_,U,_,_,U,U,by show 1+(⟨(Cw ns k al at' i n).toArray⟩:Str).length<=sizeLine;lia,?_⟩;refine⟨_,U,.inl ⟨U,_,SqL.of u⟩,_,U,l,_,_,U,U,u,a3,_,_,_,_,U,(p.trans s4).put hl,?_⟩;rw[Ag,<- hz];unfold Fm Gb;rw[Ar L];all_goals rfl
  have L:¬(⟨(Cw ns k al at' i n).toArray⟩:Str)∈fixedS:=λz=>M (AU z);refine⟨_,U,.inl ⟨U,_,SqL.of u⟩,_,U,l,_,_,U,U,u,a3,_,_,_,_,U,(p.trans s4).put hl,?_⟩;rw[Ag,<- hz];unfold Fm Gb;rw[Ak L]
 rintro R o ⟨v5,v9,g,d,rfl,p,S⟩
 refine⟨_,U,q l _ o p hl S (by rw[Ai,Em];lia) (λx M=>?_) (nodup_range λi j hi hj e=>?_)⟩
 ·obtain⟨i,_,rfl⟩:=Ba.mp M;exact iM ns k al at' i Ψ Ψ
 rw[<- a8]at e
 exact iN Ψ Ψ Ψ e
abbrev Sk (x:Str):Prop:=strOk x=true/\x.length<=16
def Dn (e:H a=some (.dK kvs))(h:Ax kvs (Sum.inr x:Key)=some v):DGet H a (.str x) (some v):=by have q:=DGet.k (k:=(Sum.inr x:Key)) e;rw[h]at q;exact q
abbrev NV:List Str:=["_law_room_here", "_law_place"]
def Ad (L1 L2:List (Key×V))(x l:Str):Prop:=l = "open" \/ (l = "shut" /\ (Ax L1 (Sum.inr x:Key)).isSome=true)\/(l = "locked" /\ (Ax L2 (Sum.inr x:Key)).isSome=true)
inductive P2 (vs:List V)(H:Hp)(Q:VK)(E0_:XK):Prop
 | mk (r d1 d2:Addr) (x:Str) (kvs L1 L2:List (Key×V)) (c0:vs=[.ref r,.str x]) (c1:H r=some (.dK kvs)) (c2:Ax kvs (Sum.inr "lids" : Key)=some (.ref d1)) (c3:Ax kvs (Sum.inr "keys" : Key)=some (.ref d2)) (c4:H d1=some (.dK L1)) (c5:H d2=some (.dK L2)) (c6:∀(l:Addr) (ys:List Str) (H':Hp),Same H H'->H l=none->H' l=some (.lst (ys.map V.str))->1<=ys.length->(∀y∈ys,Ad L1 L2 x y)->Q (.ref l) H'):P2  vs H Q E0_
def scLids:AI ["_law_room_here", "_law_place", "_law_some"] NV (Aq Nm):=AO
def BX (h:¬x=y):¬(Sum.inr x:Key)=Sum.inr y:=λe=>h (C0 e)
def CB (p t d1 d2 d3:Addr):List (Key×V):=[(Sum.inr "places",.ref p),(Sum.inr "things",.ref t),(Sum.inr "lids",.ref d1),(Sum.inr "keys",.ref d2),(Sum.inr "shapes",.ref d3)]
def QF (p t b a c:Addr):Ax (CB p t b a c) (Sum.inr "things" : Key)=some (.ref t):=by unfold CB;rw[Bp (BX Δ),Ct rfl]
def Ut (p t a b c:Addr):Ax (CB p t a b c) (Sum.inr "lids" : Key)=some (.ref a):=by unfold CB;rw[Bp (BX Δ),Bp (BX Δ),Ct rfl]
def Uu (p t b a c:Addr):Ax (CB p t b a c) (Sum.inr "keys" : Key)=some (.ref a):=by unfold CB;rw[Bp (BX Δ),Bp (BX Δ),Bp (BX Δ),Ct rfl]
def QG (p t c b a:Addr):Ax (CB p t c b a) (Sum.inr "shapes" : Key)=some (.ref a):=by unfold CB;rw[Bp (BX Δ),Bp (BX Δ),Bp (BX Δ),Bp (BX Δ),Ct rfl]
def ZX (p t b a c:Addr):Ax (CB p t b a c) (Sum.inr "places" : Key)=some (.ref p):=by unfold CB;rw[Ct rfl]
abbrev NU:List Str:=["_law_script", "_law_k", "_law_room_here", "_law_name"]
inductive PZ (K:W.Frag)(vs:List V)(H:Hp)(Q:VK)(E0_:XK):Prop
 | mk (a:Addr) (ns:List Int) (k:Int) (r p t d1 d2 d3:Addr) (x:Str) (ts:List Str) (L1 L2:List (Key×V)) (c0:vs=[.ref a,.int k,.ref r,.str x]) (c1:SqL K H a (ns.map V.int)) (c2:ns.length<=63) (c3:0<=k) (c4:k<100) (c5:Nv x) (c6:H r=some (.dK (CB p t d1 d2 d3))) (c7:H t=some (.lst (ts.map V.str))) (c8:(∀y∈ts,Nv y)) (c9:ts.length<=12) (c10:H d1=some (.dK L1)) (c11:H d2=some (.dK L2)) (c12:L1.length<=100) (c13:L2.length<=100) (c14:r≠d1) (c15:r≠d2) (c16:d1≠d2) (c17:Ax L1 (Sum.inr x:Key)=none) (c18:Ax L2 (Sum.inr x:Key)=none) (c19:∀(ro:Ro) (H':Hp),ro.name=x->ro.isP=true->ro.nv->(k=0->ro=.pl x)->(∀y,ro=.lk x y->y∈ts)->H' d1=some (.dK (L1++BU [ro]))->H' d2=some (.dK (L2++BZ [ro]))->(∀b o,H b=some o->b≠d1->b≠d2->H' b=some o)->Q (.str ro.txt) H'):PZ K vs H Q E0_
def scLine:AI ["_law_script", "_law_k", "_law_room_here", "_law_name", "_law_way", "_law_key"] NU (Aq Nl):=AO
def Ui (h:SqL K H a xs)(k:∀b o,H b=some o->b≠d1->H' b=some o) (c:H d1=some (.dK L)):SqL K H' a xs:=by
 rcases h with(h | ⟨o,h⟩) | h
 ·exact .inl (.inl (k _ _ h (A8 h c nofun)))
 ·exact .inl (.inr ⟨o,k _ _ h (A8 h c nofun)⟩)
 exact .inr h
def fE (F:Fun K "_law_lids" "_law_lids" Nm f fd):FnOk P w K mg base CX0 1 f fd NV P2:=by
 refine F.oq scLids λcdv A outer s H vs Q E z h=>?_;obtain⟨r,D,G,x,kvs,I,L,rfl,j,B,p,v,n,q⟩:=h;have g:=Cz z;refine⟨_,Ah (AD (i:=2) scLids.nd (AZ (Aa Aw Ab))) (Ah (AL (Hr (U3 g (pv 1) (CS g (pv 0) Aw (λ_ _=>U)))) (Am (BY (CN Ea F1 GY FL (pv 2) (Aa Aw Ab)))) AK) (Ah (AL (Hr (U3 g (pv 1) (CS g (pv 0) Aw (λ_ _=>U)))) (Am (BY (CN Ea F1 GY FL (pv 2) (Aa Aw Ab)))) AK) (Am (AC (pv 2))))),?_⟩;refine⟨by show 1<=sizeLine;decide,λl b=>?_⟩;have C:sizeLine=16777216:=AF;have c:Same H (Y H l (.lst [V.str "open"])):=Same.new b;refine⟨_,U,_,U,r,_,U,Dn (c _ _ j) B,_,_,U,DGet.k (k:=(Sum.inr x:Key)) (c _ _ v),_,U,?_⟩;have d:∀o,Same H (Y (Y H l (.lst [V.str "open"])) l o):=λo=>c.put b;refine Bi (λu=>?_) (λ_=>?_)
 ·refine⟨_,U,.inl ⟨U,_,SqL.of Ag⟩,l,_,_,U,U,Ag,by show 1<sizeLine;decide,?_⟩;refine⟨_,U,_,U,r,_,U,Dn (d _ _ _ j) p,_,_,U,DGet.k (k:=(Sum.inr x:Key)) (d _ _ _ n),_,U,?_⟩;refine Bi (λm=>?_) (λ_=>?_)
  ·refine⟨_,U,.inl ⟨U,_,SqL.of Ag⟩,l,_,_,U,U,Ag,by show 2<sizeLine;decide,?_⟩;refine⟨_,U,q l ["open", "shut", "locked"] _ ((d _).put b) b Ag Ξ λy a=>?_⟩;simp only[Az,Bw,Bv]at a;rcases a with e | e | e
   ·exact .inl e
   ·exact .inr (.inl ⟨e,u⟩)
   exact .inr (.inr ⟨e,m⟩)
  refine⟨_,U,q l ["open", "shut"] _ (d _) b Ag Ξ λy a=>?_⟩;simp only[Az,Bw,Bv]at a;rcases a with e | e
  ·exact .inl e
  exact .inr (.inl ⟨e,u⟩)
 refine⟨_,U,_,U,r,_,U,Dn (c _ _ j) p,_,_,U,DGet.k (k:=(Sum.inr x:Key)) (c _ _ n),_,U,?_⟩;refine Bi (λm=>?_) (λ_=>?_)
 ·refine⟨_,U,.inl ⟨U,_,SqL.of Ag⟩,l,_,_,U,U,Ag,by show 1<sizeLine;decide,?_⟩;refine⟨_,U,q l ["open", "locked"] _ (d _) b Ag Ξ λy a=>?_⟩;simp only[Az,Bw,Bv]at a;rcases a with e | e
  ·exact .inl e
  exact .inr (.inr ⟨e,m⟩)
 refine⟨_,U,q l ["open"] _ c b Ag Ξ λy a=>?_⟩;simp only[Az,Bw,Bv]at a;exact .inl a
def fA (F:Fun K "_law_place_line" "_law_place_line" Nl f fd)(G:Df K mg "_law_pick" EW CO fP fdP)(T:Bl mg)(GP:FnOk P w K mg base CX0 1 fP fdP CO (FG K)):FnOk P w K mg base CX0 2 f fd NU (PZ K):=by
 refine F.oq scLine λcdv A outer s H vs Q E hr h=>?_;obtain⟨a,ns,k,r,p,t,D,d2,d3,x,g,n,L2,rfl,hS,hn,k0,k1,R,L,ht,X,a7,M,h2,z1,z2,n1,n2,n3,v1,v2,q⟩:=h;have m:=Cz hr;have a8:sizeLine=16777216:=AF;have a5:=R.len;refine⟨_,Ah (AD (i:=4) scLine.nd (Bc GP hr Φ G.m G.F.kp G.b .nil Ao (Aa (pv 0) (Aa (As Bq Ae (pv 1)) (Aa Ae Ab))))) (Ah (AL (PW.pt (Ex (AM Bt (pv 1) Ae (AE _)) (Fg (AM Bt (pv 4) Ae (AE _))))) (Am (AC (As CD Aw (pv 3)))) AK) (Ah (DW m (CS m (pv 2) Aw (λ_ _=>U)) (pv 3) B8 U) (Ah (AL (PW.pt (Ex (AM Bt (pv 4) Ae (AE _)) (Fg (AM Bt (AX BI Φ T.len Bj (Aa (CS m (pv 2) Aw (λ_ _=>U)) Ab)) Ae (AE _))))) (Am (AC (As CD Aw (pv 3)))) AK) (Ah (AD (i:=5) scLine.nd (Av Bb (CS m (pv 2) Aw (λ_ _=>U)) (Bc GP hr Φ G.m G.F.kp G.b .nil Ao (Aa (pv 0) (Aa (As Bq Ae (pv 1)) (Aa (AX BI Φ T.len Bj (Aa (CS m (pv 2) Aw (λ_ _=>U)) Ab)) Ab)))) (λ_ _=>U))) (Ah (DW m (CS m (pv 2) Aw (λ_ _=>U)) (pv 3) (pv 5) U) (Am (AC (As CD (As CD (As CD Aw (pv 3)) Aw) (pv 5))))))))),?_⟩;have d:Q (.str (("place " : Str)++x)) H:=q (.pl x) H U U R (λ_=>U) (λy e=>nomatch e) (by show H D=some (.dK (n++[]));rw[Cc];exact M) (by show H d2=some (.dK (L2++[]));rw[Cc];exact h2) λb o e _ _=>e;refine⟨_,U,_,U,_,_,U,U,a,ns,_,_,U,hS,hn,Ψ,Ψ,Ξ,λa6 w0 w1=>?_⟩;refine⟨_,U,U,_,U,?_⟩;refine Bi (λ_=>?_) (λa1=>?_)
 ·refine BA ?_;exact⟨_,U,_,_,U,U,by show 6+x.length<=sizeLine;lia,d⟩
 have hk:k≠0:=λz=>a1 (AU (by rw[z]));refine⟨_,U,U,_,U,?_⟩;refine Bi (λ_=>?_) (λ_=>?_)
 ·exact⟨_,U,_,_,U,U,by show 6+x.length<=sizeLine;lia,d⟩
 refine⟨_,U,r,_,U,Dn L (Ut _ _ _ _ _),_,U,D,_,U,DPut.k (k:=(Sum.inr x:Key)) M Ψ,?_⟩;rw[Ef _ v1];have c:∀(u:HO) b o,H b=some o->b≠D->Y H D u b=some o:=λu b o e l=>by rw[Af l];exact e
 have N:=c (.dK (n++[(Sum.inr x,V.bl true)])) _ _ L n1;have S:=c (.dK (n++[(Sum.inr x,V.bl true)])) _ _ ht (A8 ht M (by intro z;cases z));have dK:=c (.dK (n++[(Sum.inr x,V.bl true)])) _ _ h2 (ET n3);have sK:=Ui (K:=K) hS (λb o e l=>c (.dK (n++[(Sum.inr x,V.bl true)])) b o e l) M
 have I:Q (.str (("box " : Str)++x)) (Y H D (.dK (n++[(Sum.inr x,V.bl true)]))):=
  q (.bx x) _ U U R (λz=>absurd z hk) (λy e=>nomatch e) Ag (by show(Y H D (.dK (n++[(Sum.inr x,V.bl true)]))) d2=some (HO.dK (L2++[]));rw[Cc];exact dK) λb o e l _=>c _ b o e l
 refine⟨_,U,U,_,U,?_⟩;refine Bi (λ_=>?_) (λ_=>?_)
 ·refine BA ?_;exact⟨_,U,_,_,U,U,by show 4+x.length<=sizeLine;lia,I⟩
 refine⟨_,U,r,_,U,Dn N (QF _ _ _ _ _),_,_,U,.inl ⟨_,SqL.of S,U⟩,U,_,U,?_⟩;refine Bi (λ_=>?_) (λa2=>?_)
 ·exact⟨_,U,_,_,U,U,by show 4+x.length<=sizeLine;lia,I⟩
 have C:(g.map V.str).length=g.length:=Ai ..
 have a4:0<g.length:=by
  rcases Nat.eq_zero_or_pos g.length with z | z
  ·exact absurd (AU (by rw[C,z];rfl)) a2
  exact z
 refine⟨_,U,r,_,U,Dn N (QF _ _ _ _ _),_,U,_,U,_,_,U,U,_,U,r,_,U,Dn N (QF _ _ _ _ _),_,_,U,.inl ⟨_,SqL.of S,U⟩,a,ns,_,_,U,sK,hn,Ψ,Ψ,by rw[C];lia,λj j0 j1=>?_⟩;have hj:j.toNat<g.length:=by rw[C]at j1;lia
 have W:atI (g.map V.str) j=some (.str g[j.toNat]):=by have q:=AB (xs:=g.map V.str) (j:=j.toNat) (v:=.str g[j.toNat]) (by simp[hj]);rw[Dr j0]at q;exact q
 have B:=CI hj;have hy:=X _ B;have a3:=hy.len;refine⟨_,_,_,_,U,U,SqL.of S,W,?_⟩;generalize g[j.toNat]=y at B hy a3;refine⟨_,U,_,U,r,_,U,Dn N (Uu _ _ _ _ _),_,U,d2,_,U,DPut.k (k:=(Sum.inr x:Key)) dK Ψ,?_⟩;rw[Ef _ v2];have e1:("box " : Str).length=4:=by decide +kernel
 have e2:(" " : Str).length=1:=by decide +kernel
 refine⟨_,U,_,_,U,U,by show 4+x.length<=sizeLine;lia,_,_,U,U,by rw[Cm,e1,e2];lia,_,U,_,_,U,U,by rw[Cm,Cm,e1,e2];lia,?_⟩;refine q (.lk x y) _ U U ⟨R,hy⟩ (λz=>absurd z hk) (λy' e=>by cases e;exact B) ?_ Ag λb o e l a0=>?_
 ·rw[Af n3];exact Ag
 rw[Af a0];exact c _ b o e l
abbrev QX:List Str:=["_law_script", "_law_places", "_law_things"]
inductive Xy (H:Hp)(r:Addr)(rs:List Ro):Prop
 | mk (kvs L3:List (Key×V)) (p t d1 d2 d3 D:Addr) (c0:H r=some (.dK kvs)) (c1:Ax kvs (Sum.inr "places" : Key)=some (.ref p)) (c2:Ax kvs (Sum.inr "things" : Key)=some (.ref t)) (c3:Ax kvs (Sum.inr "lids" : Key)=some (.ref d1)) (c4:Ax kvs (Sum.inr "keys" : Key)=some (.ref d2)) (c5:Ax kvs (Sum.inr "shapes" : Key)=some (.ref d3)) (c6:Ax kvs (Sum.inr "lines" : Key)=some (.ref D)) (c7:H p=some (.lst (((plc rs).map (·.1)).map V.str))) (c8:H t=some (.lst (((ths rs).map (·.1)).map V.str))) (c9:H d1=some (.dK (BU rs))) (c10:H d2=some (.dK (BZ rs))) (c11:H d3=some (.dK L3)) (c12:H D=some (.lst ((rs.map Ro.txt).map V.str))) (c13:∀x∈ths rs,Ax L3 (Sum.inr x.1:Key)=some (.str x.2)):Xy H r rs
structure RmS (H:Hp)(r:Addr)(rs:List Ro):Prop where
 ex:Xy H r rs
 good:Good rs
def RmS.same (R:RmS H r rs)(s:Same H H'):RmS H' r rs:=by obtain⟨⟨kvs,j,p,t,a,b,q,D,l,e,u,f,m,o,c,g1,g2,g3,n,h,d,i⟩,g⟩:=R;exact⟨⟨kvs,j,p,t,a,b,q,D,s _ _ l,e,u,f,m,o,c,s _ _ g1,s _ _ g2,s _ _ g3,s _ _ n,s _ _ h,s _ _ d,i⟩,g⟩
def FQ (g:Good rs) (h:x∈rs.map Ro.name):Nv x:=by obtain⟨r,a,rfl⟩:=Ba.mp h;exact Ro.nv_name (g.nv r a)
def Vc (h:Nv x):Sk x:=⟨h.ok,by have:=h.len;lia⟩
inductive Pz (K:W.Frag)(vs:List V)(H:Hp)(Q:VK)(E0_:XK):Prop
 | mk (a:Addr) (ns:List Int) (p m:Int) (c0:vs=[.ref a,.int p,.int m]) (c1:SqL K H a (ns.map V.int)) (c2:ns.length<=63) (c3:1<=p) (c4:p<=6) (c5:0<=m) (c6:m<=6) (c7:∀(r:Addr) (rs:List Ro) (H':Hp),Same H H'->RmS H' r rs->((plc rs).length:Int)=p->((ths rs).length:Int)=m->rs.length<=12->Q (.ref r) H'):Pz K vs H Q E0_
abbrev Vg:List Str:=["_law_script", "_law_places", "_law_things", "_law_names_here", "_law_room_here", "_law_k", "_law_lines", "_law_shapes", "_law_thing", "_law_at"]
structure Mk (H H2:Hp)(r p t d1 d2 d3 l D:Addr)(xs:List Str)(n:Nat)(rs:List Ro)(i:Nat):Prop where
 sm:Same H H2
 room:H2 r=some (.dK (CB p t d1 d2 d3))
 pl:H2 p=some (.lst ((xs.take n).map V.str))
 th:H2 t=some (.lst ((xs.drop n).map V.str))
 l1:H2 d1=some (.dK (BU rs))
 l2:H2 d2=some (.dK (BZ rs))
 l3:∃L,H2 d3=some (.dK L)/\L.length<=i/\∀x∈ths rs,Ax L (Sum.inr x.1:Key)=some (.str x.2)
 nm:H2 l=some (.lst (xs.map V.str))
 ln:H2 D=some (.lst ((rs.map Ro.txt).map V.str))
 ok:∀x∈rs,x.nv
 len:rs.length=i
 ks:∀x y,Ro.lk x y∈rs->y∈xs.drop n
structure Ap (H:Hp)(r p t d1 d2 d3 l D:Addr):Prop where
 fr:H r=none
 f1:H d1=none
 f2:H d2=none
 f3:H d3=none
 fl:H l=none
 fD:H D=none
 r1:r≠d1
 r2:r≠d2
 r3:r≠d3
 n12:d1≠d2
 n13:d1≠d3
 n23:d2≠d3
 Dp:D≠p
 Dt:D≠t
 Dl:D≠l
def scRoom:AI Vg QX (Aq Gg):=AO
def CW {H:Hp}{a b:Addr}{xs:List V}{L:List (Key×V)}(h:H a=some (.lst xs))(h':H b=some (.dK L)):a≠b:=A8 h h' nofun
def Cv (h:Y H a o b=none):b≠a/\H b=none:=by
 by_cases e:b=a
 ·subst e;rw[Ag]at h;cases h
 rw[Af e]at h;exact⟨e,h⟩
def LV {xs:List Str}{j:Int}(h0:0<=j)(b:j<(xs.length:Int)):∃x∈xs,xs[j.toNat]? = some x/\atI (xs.map V.str) j=some (.str x):=by
 have a:j.toNat<xs.length:=by lia
 refine⟨xs[j.toNat],CI a,AJ a,?_⟩;have q:=AB (xs:=xs.map V.str) (j:=j.toNat) (v:=.str xs[j.toNat]) (by simp[a]);rw[Dr h0]at q;exact q
def sS {xs:List Str}{j:Int}(h0:0<=j)(c:j<(xs.length:Int)):∃x∈xs,atI (xs.map V.str) j=some (.str x):=by obtain⟨x,a,_,b⟩:=LV h0 c;exact⟨x,a,b⟩
def ZY (p t b a d3:Addr):Jy [] (CB p t b a d3)=CB p t b a d3:=by with_unfolding_all rfl
theorem K3:∀{rs:List Ro},(∀r∈rs,r.isP=true)->(plc rs).map (·.1)=rs.map Ro.name/\ths rs=[]
 | [],_=>⟨U,U⟩
 | .th n s::r,h=>nomatch h _ A9
 | .pl n::r,h=>by obtain⟨a,b⟩:=K3 λx c=>h x (AY _ c);exact⟨by rw[show plc (.pl n::r)=(n,false,none)::plc r from U,Bg,Bg,a];rfl,b⟩
 | .bx n::r,h=>by obtain⟨a,b⟩:=K3 λx c=>h x (AY _ c);exact⟨by rw[show plc (.bx n::r)=(n,true,none)::plc r from U,Bg,Bg,a];rfl,b⟩
 | .lk n k::r,h=>by obtain⟨a,b⟩:=K3 λx c=>h x (AY _ c);exact⟨by rw[show plc (.lk n k::r)=(n,true,some k)::plc r from U,Bg,Bg,a];rfl,b⟩
theorem K4:∀{rs:List Ro}{p:Str×Bool×Option Str}{k:Str},p∈plc rs->p.2.2=some k->∃n,Ro.lk n k∈rs
 | [],_,_,h,_=>nomatch h
 | .th n s::r,p,k,h,e=>by obtain⟨n,z⟩:=K4 (rs:=r) h e;exact⟨n,AY _ z⟩
 | .pl n::r,p,k,h,e=>by
  rcases Az.mp (show p∈(n,false,none)::plc r from h)with z | z
  ·rw[z]at e;cases e
  obtain⟨n,z⟩:=K4 (rs:=r) z e;exact⟨n,AY _ z⟩
 | .bx n::r,p,k,h,e=>by
  rcases Az.mp (show p∈(n,true,none)::plc r from h)with z | z
  ·rw[z]at e;cases e
  obtain⟨n,z⟩:=K4 (rs:=r) z e;exact⟨n,AY _ z⟩
 | .lk n k'::r,p,k,h,e=>by
  rcases Az.mp (show p∈(n,true,some k')::plc r from h)with z | z
  ·rw[z]at e;cases e;exact⟨n,A9⟩
  obtain⟨n,z⟩:=K4 (rs:=r) z e;exact⟨n,AY _ z⟩
def lV (rs:List Ro):rs.length=(plc rs).length+(ths rs).length:=by have h:=(Fl rs).length_eq;rw[Ai,AG,Ai,Ai]at h;exact h
def oY {rs:List Ro}{xs:List Str}{n:Nat}(nd:xs.Nodup)(g:n<=6)(i:xs.length<=n+6)(ok:∀x∈rs,x.nv)(c:(plc rs).map (·.1)=xs.take n)(b:((ths rs).map (·.1)).Perm (xs.drop n))(d:∃m t,plc rs=(m,false,none)::t)
  (ks:∀x y,Ro.lk x y∈rs->y∈xs.drop n):Good rs:=by
 have f:(plc rs).length<=n:=by have:=BQ List.length c;rw[Ai,Bh]at this;lia
 have a:(ths rs).length<=6:=by have:=b.length_eq;rw[Ai,Dq]at this;lia
 refine⟨ok,?_,d,Ψ,a,λp h k e=>?_⟩
 ·refine(Fl rs).nodup_iff.mpr ?_;rw[c];refine(JQ _ b).nodup_iff.mpr ?_;rw[EO];exact nd
 obtain⟨m,z⟩:=K4 h e
 exact b.mem_iff.mpr (ks m k z)
def dG (F:Fun K "_law_room" "_law_room" Gg f fd)(DP:Df K mg "_law_pick" EW CO fP fdP)
  (DN:Df K mg "_law_names" KL CO fN fdN)(DL:Df K mg "_law_place_line" Nl NU fL fdL)(T:Bl mg)
  (GP:FnOk P w K mg base CX0 1 fP fdP CO (FG K))(GN:FnOk P w K mg base CX0 2 fN fdN CO (PR K))(GL:FnOk P w K mg base CX0 2 fL fdL NU (PZ K)):FnOk P w K mg base CX0 3 f fd QX (Pz K):=by
 refine F.oq scRoom λcdv A outer s H vs Q E hr h=>?_
 obtain⟨a,ns,p,m,rfl,hS,hn,p0,p1,m0,m1,q⟩:=h
 have aq:Room 1 _:=hr.mono Ξ
 have hu:=Cz hr
 have d0:sizeLine=16777216:=AF
 have bm:∃t,PSs (DO CX0 P w K mg base Vg "_law_room" (Aq Gg) f cdv A outer s H E).nox ((B9 Gg).drop 2) t /\
   ∀(l:Addr) (xs:List Str) (H2:Hp),Same H H2->H l=none->H2 l=some (.lst (xs.map V.str))->(xs.length:Int)=p+m->(∀x∈xs,Nv x)->xs.Nodup ->
    t { nx:=λ_ H'=>Q .non H',rt:=Q } [some (.ref a),some (.int p),some (.int m),some (.ref l),none,none,none,none,none,none] H2:=by
  refine⟨_,(Ah (Gq (i:=4) scRoom.nd U (E9 U) (cB (K2 Aw (DI Ew (pv 3) DH (DG (pv 1))) (K2 Aw (DI Ew (pv 3) (DG (pv 1)) DH) (K2 Aw FJ (K2 Aw FJ (K2 Aw FJ bC))))) U U Ξ Ξ))
  (Ah (Ez (i:=6) (N:=["_law_k", "_law_script", "_law_room_here", "_law_names_here"]) (sc:=Aq Gg) (own:=["_law_k"]) (fr:=["_law_script", "_law_room_here", "_law_names_here"]) (js:=[0,4,3]) scRoom.nd U U B0 U (EB Φ T.range (Aa (pv 1) Ab)) (λ_ _ _ _=>AS (i:=0) (show List.Nodup (["_law_k", "_law_script", "_law_room_here", "_law_names_here"]:List Str) by decide +kernel)) (λ_ _ _ _=>Ck) (λ_ _ _ _=>(Bc GL hr Φ DL.m DL.F.kp DL.b .nil Ao (Aa (pv 1) (Aa (pv 0) (Aa (pv 2) (Aa (Av (LG K U) (pv 3) (pv 0) (λ_ _=>U)) Ab)))))))
  (Ah (AD (i:=7) scRoom.nd (As CU (Bc GN hr Φ DN.m DN.F.kp DN.b .nil Ao (Aa (pv 0) (Aa Ae (Aa Ae Ab)))) (AZ (Aa (Av Bb (pv 3) Ae (λ_ _=>U)) Ab))))
  (Ah (Cg CK U (EB Φ T.range (Aa (pv 2) Ab)) (AS (i:=5) scRoom.nd) (Ah (AD (i:=8) scRoom.nd (Av Bb (pv 3) (As Bq (pv 1) (pv 5)) (λ_ _=>U)))
  (Ah (DW hu (CS hu (pv 4) Aw (λ_ _=>U)) (pv 8) (Av Bb (pv 7) (Bc GP aq Φ DP.m DP.F.kp DP.b .nil Ao (Aa (pv 0) (Aa (As Bq Ae (pv 5)) (Aa Ae Ab)))) (λ_ _=>U)) U)
  (Ah (AD (i:=9) scRoom.nd (Bc GP aq Φ DP.m DP.F.kp DP.b .nil Ao (Aa (pv 0) (Aa (As Bq Ae (pv 5)) (Aa (As Bq (AX BI Φ T.len Bj (Aa (pv 6) Ab)) Ae) Ab)))))
  (Am (BY (CN Ea Sy PySem.F.type_list_insert Vh (pv 6) (Aa (pv 9) (Aa (As CD (As CD (As CD Aw (pv 8)) Aw) (CS hu (CS hu (pv 4) Aw (λ_ _=>U)) (pv 8) (λ_ _=>U))) Ab)))))))))
  (Ah (DW hu (pv 4) Aw (Dx (N:=["_law_line"]) (sc:=Aq Gg) (own:=["_law_line"]) (fr:=[]) (js:=[]) B0 U (BS (pv 6)) (λ_ _ _ _=>AS (i:=0) (show List.Nodup (["_law_line"]:List Str) by decide +kernel)) (λ_ _ _ _=>QP (Ey (WZ K U (CN Ia PySem.F.slot_str_startswith PySem.F.type_str_startswith kT (pv 0) (Aa Aw Ab))))) (λ_ _ _ _=>(Av (LG K U) (WZ K U (CN Ia FZ JR Ju (pv 0) (Aa Aw Ab))) Ae (λ_ _=>U)))) U)
  (Ah (DW hu (pv 4) Aw (pv 6) U)
  (Am (AC (pv 4))))))))),?_⟩
  intro l xs H2 sm hl d b8 a3 a6
  have b6:(xs.map V.str).length=xs.length:=Ai ..
  obtain⟨pn,b5⟩:∃pn:Nat,(pn:Int)=p:=⟨p.toNat,Dr Ψ⟩
  obtain⟨mn,cv⟩:∃mn:Nat,(mn:Int)=m:=⟨m.toNat,Dr Ψ⟩
  have cy:=sm.seq hS
  intro r a7
  refine⟨_,U,_,U,_,U,l,_,U,SqL.of (by rw[Af (Au d a7)];exact d),λL bu=>?_⟩
  obtain⟨a1,a2⟩:=Cv bu
  refine⟨_,U,_,U,_,U,l,_,U,SqL.of (by rw[Af (Au d a2),Af (Au d a7)];exact d),λth cc=>?_⟩
  obtain⟨b1,b2⟩:=Cv cc
  obtain⟨b3,b4⟩:=Cv b2
  intro d1 cl
  obtain⟨c1,c2⟩:=Cv cl
  obtain⟨c3,c4⟩:=Cv c2
  obtain⟨c5,c6⟩:=Cv c4
  intro d2 ch
  obtain⟨e1,e2⟩:=Cv ch
  obtain⟨e3,e4⟩:=Cv e2
  obtain⟨e5,e6⟩:=Cv e4
  obtain⟨e7,e8⟩:=Cv e6
  intro d3 ck
  obtain⟨g1,g2⟩:=Cv ck
  obtain⟨g3,g4⟩:=Cv g2
  obtain⟨g5,g6⟩:=Cv g4
  obtain⟨g7,g8⟩:=Cv g6
  obtain⟨g9,aw⟩:=Cv g8
  have bi:BB (xs.map V.str) none (some p)=(xs.take pn).map V.str:=by
   rw[<- b5]
   unfold BB
   rw[HT.sIx_none,HT.sIx_nat,L5,Oo,b6,Ep]
   congr 1
   lia
  have bg:BB (xs.map V.str) (some p) none=(xs.drop pn).map V.str:=by
   rw[<- b5]
   unfold BB
   rw[HT.sIx_none,HT.sIx_nat,b6,Ot,L6 Ψ]
   refine Eo ?_
   simp
  refine⟨by rw[Af g9.symm,Af e7.symm,Af c5.symm,Af b3.symm,Af a1.symm];exact Ag,CB L th d1 d2 d3,U,by show 5<=15;decide,?_⟩
  rw[ZY]
  have a8:∀{b:Addr},H2 b=none->H b=none:=λe=>sm.free e
  have aj:∀b o,H2 b=some o->(Y (Y (Y (Y (Y (Y (Y H2 r (.dK [])) L (.lst (BB (xs.map V.str) none (some p)))) th (.lst (BB (xs.map V.str) (some p) none))) d1 (.dK [])) d2 (.dK [])) d3 (.dK [])) r (.dK (CB L th d1 d2 d3))) b=some o:=λb o e=>by
   rw[Af (Au e a7),Af (Au e aw),Af (Au e e8),Af (Au e c6),Af (Au e b4),Af (Au e a2),Af (Au e a7)]
   exact e
  have M0:∀D,(Y (Y (Y (Y (Y (Y (Y H2 r (.dK [])) L (.lst (BB (xs.map V.str) none (some p)))) th (.lst (BB (xs.map V.str) (some p) none))) d1 (.dK [])) d2 (.dK [])) d3 (.dK [])) r (.dK (CB L th d1 d2 d3))) D=none ->
    Ap H r L th d1 d2 d3 l D/\Mk H (Y (Y (Y (Y (Y (Y (Y (Y H2 r (.dK [])) L (.lst (BB (xs.map V.str) none (some p)))) th (.lst (BB (xs.map V.str) (some p) none))) d1 (.dK [])) d2 (.dK [])) d3 (.dK [])) r (.dK (CB L th d1 d2 d3))) D (.lst [])) r L th d1 d2 d3 l D xs pn [] 0:=λD hD=>by
   obtain⟨k1,k2⟩:=Cv hD
   obtain⟨k3,k4⟩:=Cv k2
   obtain⟨k5,k6⟩:=Cv k4
   obtain⟨k7,k8⟩:=Cv k6
   obtain⟨k9,bz⟩:=Cv k8
   obtain⟨bj,bv⟩:=Cv bz
   obtain⟨d5,ae⟩:=Cv bv
   refine⟨⟨a8 a7,a8 c6,a8 e8,a8 aw,hl,a8 ae,c5.symm,e7.symm,g9.symm,e1.symm,g3.symm,g1.symm,bj,k9,λz=>by rw[z]at ae;rw[ae]at d;cases d⟩,?_⟩
   refine⟨λb o e=>by rw[Af (Au (sm b o e) ae)];exact aj b o (sm b o e),by rw[Af k1.symm];exact Ag,?_,?_,?_,?_,⟨[],?_,An _,λ_ z=>nomatch z⟩,by rw[Af (Au d ae)];exact aj _ _ d,Ag,(λ_ z=>nomatch z),U,λ_ _ z=>nomatch z⟩
   ·rw[Af bj.symm,Af a1,Af g7.symm,Af e5.symm,Af c3.symm,Af b1.symm,Ag,bi]
   ·rw[Af k9.symm,Af b3,Af g5.symm,Af e3.symm,Af c1.symm,Ag,bg]
   ·rw[Af k7.symm,Af c5,Af g3.symm,Af e1.symm,Ag]
    rfl
   ·rw[Af k5.symm,Af e7,Af g1.symm,Ag]
    rfl
   rw[Af k3.symm,Af g9,Ag]
  generalize (Y (Y (Y (Y (Y (Y (Y H2 r (.dK [])) L (.lst (BB (xs.map V.str) none (some p)))) th (.lst (BB (xs.map V.str) (some p) none))) d1 (.dK [])) d2 (.dK [])) d3 (.dK [])) r (.dK (CB L th d1 d2 d3)))=H3 at M0 aj ⊢
  refine⟨_,U,p,U,Ψ,Ψ,λD hD=>?_⟩
  obtain⟨g,ce⟩:=M0 D hD
  refine Co (n:=p.toNat) (λi ys H4=>∃rs:List Ro,ys=(rs.map Ro.txt).map V.str/\rs.map Ro.name=xs.take i/\(∀W∈rs,W.isP=true)/\(rs=[]\/∃x t,rs=.pl x::t)/\Mk H H4 r L th d1 d2 d3 l D xs pn rs i) ⟨[],U,U,(λ_ z=>nomatch z),.inl U,ce⟩ (λi _ _ hi _=>hi) (λ_ _ _=>An _) ?_ ?_
  ·rintro i ys H4 x H5 hi ⟨rs,rfl,X,a4,ar,M⟩ ⟨rfl,rfl⟩
   refine Cn ?_
   obtain⟨x,al,aa,ao⟩:=LV (xs:=xs) (j:=0+(i:Int)) Ψ Ψ
   have R:xs[i]? = some x:=by
    rw[show(0+(i:Int)).toNat=i by lia]at aa
    exact aa
   have an:i<xs.length:=(Ay.mp R).1
   have I:xs.take (i+1)=xs.take i++[x]:=by
    rw[BL an]
    congr 2
    exact(Ay.mp R).2
   have ag:x∉rs.map Ro.name:=by
    rw[X]
    have ab:(xs.take (i+1)).Nodup:=GU (F4 _ _) a6
    rw[I]at ab
    intro z
    exact((Cr.mp ab).2.2 x z x (AR.mpr U)) U
   obtain⟨L3,q3,z3,w3⟩:=M.l3
   have b1:=LB rs
   have b2:=LD rs
   have bl:=M.len
   refine⟨_,U,_,U,_,U,_,U,_,U,l,_,_,_,U,U,SqL.of M.nm,ao,?_⟩
   refine⟨a,ns,_,r,L,th,d1,d2,d3,x,xs.drop pn,BU rs,BZ rs,U,M.sm.seq hS,hn,Ψ,Ψ,a3 x al,M.room,M.th,λy hy=>a3 y (OR hy),by rw[Dq];lia,M.l1,M.l2,Ψ,Ψ,g.r1,g.r2,g.n12,Jz ag,HR ag,λW H6 av hP a9 cp cr u1 u2 C=>?_⟩
   have bb:D≠d1:=CW M.ln M.l1
   have bo:D≠d2:=CW M.ln M.l2
   have ah:D≠d3:=CW M.ln q3
   have am:D≠r:=CW M.ln M.room
   have cn:=(K3 a4).2
   have c7:ths (rs++[W])=[]:=by
    rw[Et,cn]
    cases W with
    | th n s=>cases hP
    | _=>rfl
   refine⟨_,C D _ M.ln bb bo,by rw[Ai,Ai];lia,rs++[W],Θ,by rw[AW,X,I];show _++[W.name]=_;rw[av],λy hy=>?_,?_,?_⟩
   ·rcases(BF.mp hy)with z | z
    ·exact a4 y z
    rw[AR.mp z];exact hP
   ·refine .inr ?_
    rcases ar with z | ⟨x0,t,z⟩
    ·rw[z]
     have d4:i=0:=by
      have:=BQ List.length X
      rw[z,Ai,Bh]at this
      simp at this
      lia
     exact⟨x,[],by rw[cp Ψ];rfl⟩
    exact⟨x0,t++[W],by rw[z];rfl⟩
   refine⟨λb o e=>?_,?_,?_,?_,?_,?_,⟨L3,by rw[Af ah.symm];exact C _ _ q3 g.n13.symm g.n23.symm,Ψ,by rw[c7];exact λ_ z=>nomatch z⟩,?_,by rw[Ag];simp,λz c=>?_,by rw[AG,bl];rfl,λy z c=>?_⟩
   ·rw[Af (Au e g.fD)]
    exact C b o (M.sm b o e) (Au e g.f1) (Au e g.f2)
   ·rw[Af am.symm]
    exact C _ _ M.room g.r1 g.r2
   ·rw[Af g.Dp.symm]
    exact C _ _ M.pl (CW M.pl M.l1) (CW M.pl M.l2)
   ·rw[Af g.Dt.symm]
    exact C _ _ M.th (CW M.th M.l1) (CW M.th M.l2)
   ·rw[Af bb.symm,HP]
    exact u1
   ·rw[Af bo.symm,HS]
    exact u2
   ·rw[Af g.Dl.symm]
    exact C _ _ M.nm (CW M.nm M.l1) (CW M.nm M.l2)
   ·rcases(BF.mp c)with c | c
    ·exact M.ok z c
    rw[AR.mp c];exact a9
   rcases(BF.mp c)with c | c
   ·exact M.ks y z c
   have e:=AR.mp c
   have ey:y=x:=by rw[<- av,<- e];rfl
   subst ey
   exact cr z e.symm
  rintro ys H4 ⟨rs,rfl,X,a4,ar,M⟩
  have cj:p.toNat=pn:=by lia
  rw[cj]at X M
  refine⟨_,U,a,ns,_,_,U,M.sm.seq hS,hn,Ξ,Ξ,Ξ,Ξ,λl2 zs H5 s5 f5 e5 cw bx ct=>?_⟩
  obtain⟨x0,bw,_,ba⟩:=LV (xs:=xs) (j:=0) Ξ Ψ
  refine⟨_,U,l,_,_,_,U,U,SqL.of (s5 _ _ M.nm),ba,by show 1<=sizeLine;decide,λl3 bd=>?_⟩
  refine⟨l2,l3,_,_,U,U,by rw[Af (Au e5 bd)];exact e5,Ag,by rw[Ai];show zs.length+1<=sizeLine;lia,λsh cd=>?_⟩
  obtain⟨y1,y2⟩:=Cv cd
  have s6:∀b o,H4 b=some o->(Y (Y H5 l3 (.lst [V.str x0])) sh (.lst (zs.map V.str++[V.str x0]))) b=some o:=λb o e=>by
   rw[Af (Au (s5 b o e) y2),Af (Au (s5 b o e) bd)]
   exact s5 b o e
  have M6:Mk H (Y (Y H5 l3 (.lst [V.str x0])) sh (.lst (zs.map V.str++[V.str x0]))) r L th d1 d2 d3 l D xs pn rs (pn+0):=by
   obtain⟨L3,q3,z3,w3⟩:=M.l3
   exact⟨λb o e=>s6 b o (M.sm b o e),s6 _ _ M.room,s6 _ _ M.pl,s6 _ _ M.th,s6 _ _ M.l1,s6 _ _ M.l2,⟨L3,s6 _ _ q3,Ψ,w3⟩,s6 _ _ M.nm,s6 _ _ M.ln,M.ok,M.len,M.ks⟩
  have ad:(Y (Y H5 l3 (.lst [V.str x0])) sh (.lst (zs.map V.str++[V.str x0]))) sh=some (.lst ((zs++[x0]).map V.str)):=by rw[Ag];simp
  have b7:∀z∈zs++[x0],Nv z:=λz c=>by
   rcases(BF.mp c)with c | c
   ·exact bx z c
   rw[AR.mp c];exact a3 x0 bw
  have ay:(zs++[x0]).length=4:=by rw[AG];show zs.length+1=4;lia
  generalize (Y (Y H5 l3 (.lst [V.str x0])) sh (.lst (zs.map V.str++[V.str x0])))=H6 at M6 ad ⊢
  generalize zs++[x0]=ss at ad b7 ay
  have br:sh≠D:=λz=>by
   have:=s5 _ _ M.ln
   rw[<- z,y2]at this
   cases this
  have cm:sh≠d3:=λz=>by
   obtain⟨L3,q3,_⟩:=M.l3
   have:=s5 _ _ q3
   rw[<- z,y2]at this
   cases this
  have CC:=K3 a4
  have ax:∃n t,plc rs=(n,false,none)::t:=by
   rcases ar with z | ⟨x,t,z⟩
   ·have:=M.len
    rw[z]at this
    simp at this
    lia
   exact⟨x,plc t,by rw[z];rfl⟩
  refine⟨_,U,m,U,Ψ,Ψ,HX (n:=m.toNat) (λi σ H7=>∃(v5 v8 v9:Option V) (rs':List Ro),
   σ = [some (.ref a),some (.int p),some (.int m),some (.ref l),some (.ref r),v5,some (.ref D),some (.ref sh),v8,v9]/\plc rs'=plc rs/\((ths rs').map (·.1)).Perm ((xs.drop pn).take i)/\Mk H H7 r L th d1 d2 d3 l D xs pn rs' (pn+i)/\H7 sh=some (.lst (ss.map V.str)))
   ⟨none,none,none,rs,U,U,by rw[CC.2];exact .nil,M6,ad⟩ ?_ ?_⟩
  ·rintro i σ H7 hi ⟨v5,v8,v9,rs',rfl,S,B,M,ac⟩
   obtain⟨x,al,aa,ao⟩:=LV (xs:=xs) (j:=p+(0+(i:Int))) Ψ Ψ
   have bf:=a3 x al
   have d6:=bf.len
   have R:(xs.drop pn)[i]? = some x:=by
    rw[Sh]
    rw[show(p+(0+(i:Int))).toNat=pn+i by lia]at aa
    exact aa
   have an:i<(xs.drop pn).length:=(Ay.mp R).1
   have I:(xs.drop pn).take (i+1)=(xs.drop pn).take i++[x]:=by
    rw[BL an]
    congr 2
    exact(Ay.mp R).2
   have ag:x∉(xs.drop pn).take i:=by
    have ab:((xs.drop pn).take (i+1)).Nodup:=GU ((F4 _ _).trans (List.drop_sublist _ _)) a6
    rw[I]at ab
    intro z
    exact((Cr.mp ab).2.2 x z x (AR.mpr U)) U
   obtain⟨L3,q3,z3,w3⟩:=M.l3
   have bl:=M.len
   have bn:=M.sm.seq hS
   refine⟨_,U,_,U,_,U,_,_,U,U,l,_,_,_,U,U,SqL.of M.nm,ao,?_⟩
   refine⟨_,U,_,U,_,U,_,_,U,U,a,ns,_,_,U,bn,hn,Ψ,Ψ,Ξ,λj j0 j1=>?_⟩
   obtain⟨y,ci,_,as⟩:=LV (xs:=ss) (j:=j) j0 Ψ
   have bc:=b7 y ci
   have cx:=bc.len
   refine⟨sh,_,_,_,U,U,SqL.of ac,as,_,U,r,_,U,Dn M.room (QG _ _ _ _ _),_,U,d3,_,U,DPut.k (k:=(Sum.inr x:Key)) q3 Ψ,?_⟩
   have C:∀b o,H7 b=some o->b≠d3->(Y H7 d3 (.dK (BW L3 (Sum.inr x) (V.str y)))) b=some o:=λb o e hb=>by rw[Af hb];exact e
   have ah:D≠d3:=CW M.ln q3
   have lnK:=C _ _ M.ln ah
   have sK:=Ui (K:=K) bn C q3
   have cz:=JA L3 (Sum.inr x:Key) (V.str y)
   have ak:((rs'.map Ro.txt).map V.str).length=rs'.length:=by rw[Ai,Ai]
   refine⟨_,U,_,U,_,_,U,U,_,U,_,_,U,.inl ⟨_,SqL.of lnK,U⟩,_,_,U,U,a,ns,_,_,U,sK,hn,Ψ,Ψ,Ψ,λat' a0 a1=>?_⟩
   rw[ak]at a1
   have t1:("thing " : Str).length=6:=by decide +kernel
   have t2:(" " : Str).length=1:=by decide +kernel
   have hv:Ax (BW L3 (Sum.inr x:Key) (V.str y)) (Sum.inr x:Key)=some (V.str y):=by rw[Ed,Ar rfl]
   refine⟨_,U,.inl ⟨U,_,SqL.of lnK⟩,_,U,_,U,_,_,U,U,by rw[t1];lia,_,_,U,U,by rw[Cm,t1,t2];lia,_,U,r,_,U,Dn (C _ _ M.room g.r3) (QG _ _ _ _ _),_,U,d3,_,U,Dn Ag hv,
    _,_,U,U,by rw[Cm,Cm,t1,t2];lia,D,_,_,_,U,U,a0,by rw[ak];lia,lnK,by rw[ak];lia,?_⟩
   have am:D≠r:=CW M.ln M.room
   have bp:=Yi rs' at'.toNat x y
   refine⟨_,_,_,rs'.take at'.toNat++(.th x y::rs'.drop at'.toNat),U,by rw[bG];exact S,?_,?_,?_⟩
   ·rw[I]
    refine(bp.map (·.1)).trans ?_
    rw[Bg]
    exact(Oz x B).trans (SQ x _).symm
   ·refine⟨λb o e=>?_,?_,?_,?_,?_,?_,⟨_,by rw[Af ah.symm];exact Ag,Ψ,λz c=>?_⟩,?_,?_,λz c=>?_,?_,λu v bq=>?_⟩
    ·rw[Af (Au e g.fD)]
     exact C b o (M.sm b o e) (Au e g.f3)
    ·rw[Af am.symm]
     exact C _ _ M.room g.r3
    ·rw[Af g.Dp.symm]
     exact C _ _ M.pl (CW M.pl q3)
    ·rw[Af g.Dt.symm]
     exact C _ _ M.th (CW M.th q3)
    ·rw[Af (CW M.ln M.l1).symm,lT]
     exact C _ _ M.l1 g.n13
    ·rw[Af (CW M.ln M.l2).symm,mM]
     exact C _ _ M.l2 g.n23
    ·rcases Az.mp (bp.mem_iff.mp c)with e | e
     ·rw[e]
      exact hv
     have ca:z.1≠x:=λez=>ag (B.mem_iff.mp (Ba.mpr ⟨z,e,ez⟩))
     rw[Ed,Ak (BX ca)]
     exact w3 z e
    ·rw[Af g.Dl.symm]
     exact C _ _ M.nm (CW M.nm q3)
    ·rw[Ag]
     simp[Ep,Ot]
     rfl
    ·rcases(BF.mp c)with c | c
     ·exact M.ok z (Ih c)
     rcases(Az.mp c)with c | c
     ·rw[c]
      exact⟨bf,bc⟩
     exact M.ok z (OR c)
    ·rw[AG,Cy,Bh,Dq]
     lia
    rcases(BF.mp bq)with c | c
    ·exact M.ks u v (Ih c)
    rcases(Az.mp c)with c | c
    ·cases c
    exact M.ks u v (OR c)
   rw[Af br]
   exact C _ _ ac cm
  rintro σ H7 ⟨v5,v8,v9,rs',rfl,S,B,M,ac⟩
  have c0:(xs.drop pn).length<=m.toNat:=by rw[Dq];lia
  rw[Eo c0]at B
  have G:Good rs':=oY a6 Ψ Ψ M.ok (by rw[S,CC.1];exact X) B (by rw[S];exact ax) M.ks
  refine⟨_,U,D,U,⟨_,SqL.of M.ln⟩,λD2 af=>?_⟩
  have cu:((rs'.map Ro.txt).map V.str).length=rs'.length:=by rw[Ai,Ai]
  have bl:=M.len
  refine Co (n:=rs'.length) (λi ys H8=>ys=((ths (rs'.take i)).map (·.1)).map V.str/\Same H7 H8/\H8 D2=some (.lst ys)) ⟨U,Same.new af,Ag⟩
   (λi ys H8 hi au=>by obtain⟨_,s8,_⟩:=au;exact⟨_,.str rs'[i].txt,SqL.of (s8 _ _ M.ln),by simp[hi]⟩) (λys H8 au=>by obtain⟨_,s8,_⟩:=au;exact⟨_,SqL.of (s8 _ _ M.ln),Θ⟩) ?_ ?_
  ·rintro i ys H8 x H9 hi ⟨rfl,s8,a5⟩ ⟨rfl,hx⟩
   have az:=hx _ (SqL.of (s8 _ _ M.ln))
   have cg:x=.str rs'[i].txt:=by
    rw[AQ,AQ,AJ hi]at az
    exact(BG az).symm
   subst cg
   have a9:=M.ok _ (CI hi)
   have c9:=Tr a9
   have I:rs'.take (i+1)=rs'.take i++[rs'[i]]:=BL hi
   have co:(((ths (rs'.take i)).map (·.1)).map V.str).length<sizeLine:=by
    have h1:=lV (rs'.take i)
    rw[Bh]at h1
    rw[Ai,Ai]
    lia
   generalize rs'[i]=W at a9 c9 I
   refine⟨_,U,U,_,_,U,U,_,U,?_⟩
   have be:=YX W
   refine Bi (λhs=>?_) (λhs=>⟨?_,s8,a5⟩)
   ·rw[show Txt.startswith W.txt (Str.ofString "thing ")=!W.isP from be]at hs
    refine⟨_,U,U,_,_,U,U,Δ,Ψ,λp3 bh=>?_⟩
    have c8:=T7 a9
    obtain⟨n,cf,rfl⟩:∃n s,W=.th n s:=by
     cases W with
     | th n s=>exact⟨n,s,U⟩
     | _=>exact absurd (show false=true from hs) BO
    have as:atI ((Txt.split (Ro.th n cf).txt blank).map V.str) ((1:Nat):Int)=some (.str n):=AB (by rw[c8];rfl)
    refine⟨p3,_,_,_,U,U,SqL.of Ag,as,_,by rw[Af (Au a5 bh)];exact a5,co,?_,(s8.trans (Same.new bh)).put af,Ag⟩
    rw[I,Et,AW,AW]
    rfl
   rw[show Txt.startswith W.txt (Str.ofString "thing ")=!W.isP from be]at hs
   have:ths (rs'.take (i+1))=ths (rs'.take i):=by
    rw[I,Et]
    cases W with
    | th n s=>exact absurd U hs
    | _=>exact Cc _
   rw[this]
  rintro ys H8 ⟨rfl,s8,a5⟩
  rw[Cd]at a5
  refine⟨_,U,r,_,U,DPut.k (k:=(Sum.inr "things" : Key)) (s8 _ _ M.room) (by show 5<sizeLine;decide),?_⟩
  have z9:=JA (CB L th d1 d2 d3) (Sum.inr "things" : Key) (V.ref D2)
  refine⟨_,U,_,U,r,_,U,DPut.k (k:=(Sum.inr "lines" : Key)) Ag (by show _<sizeLine;have:(CB L th d1 d2 d3).length=5:=rfl;lia),?_⟩
  obtain⟨L3,q3,z3,w3⟩:=M.l3
  have b9:D2≠r:=λz=>by rw[z]at af;rw[M.room]at af;cases af
  have up:∀(u v:HO) b o,H7 b=some o->b≠r->Y (Y H8 r u) r v b=some o:=λu v b o e hb=>by rw[Af hb,Af hb];exact s8 b o e
  have ai:(plc rs').map (·.1)=xs.take pn:=by rw[S,CC.1];exact X
  have cb:=BQ List.length ai
  rw[Ai,Bh]at cb
  have cq:=B.length_eq
  rw[Ai,Dq]at cq
  refine⟨_,U,q r rs' _ (λb o e=>up _ _ b o (M.sm b o e) (Au e g.fr)) ⟨⟨_,L3,L,D2,d1,d2,d3,D,Ag,?_,?_,?_,?_,?_,?_,?_,?_,up _ _ _ _ M.l1 g.r1.symm,up _ _ _ _ M.l2 g.r2.symm,up _ _ _ _ q3 g.r3.symm,up _ _ _ _ M.ln (CW M.ln M.room),w3⟩,G⟩ Ψ Ψ Ψ⟩
  ·rw[Ed,Ak (BX Δ),Ed,Ak (BX Δ)]
   exact ZX _ _ _ _ _
  ·rw[Ed,Ak (BX Δ),Ed,Ar rfl]
  ·rw[Ed,Ak (BX Δ),Ed,Ak (BX Δ)]
   exact Ut _ _ _ _ _
  ·rw[Ed,Ak (BX Δ),Ed,Ak (BX Δ)]
   exact Uu _ _ _ _ _
  ·rw[Ed,Ak (BX Δ),Ed,Ak (BX Δ)]
   exact QG _ _ _ _ _
  ·rw[Ed,Ar rfl]
  ·rw[ai]
   exact up _ _ _ _ M.pl (CW M.pl M.room)
  rw[Af b9,Af b9]
  exact a5
 obtain⟨tt,ht,rt⟩:=bm
 refine⟨_,Ah (Gq (i:=3) scRoom.nd U (E9 U) (Bc GN hr Φ DN.m DN.F.kp DN.b .nil Ao (Aa (pv 0) (Aa Ae (Aa (As Bq (pv 1) (pv 2)) Ab))))) (Ah (AL (AM Bt (Bc GP aq Φ DP.m DP.F.kp DP.b .nil Ao (Aa (pv 0) (Aa Ae (Aa Ae Ab)))) Ae (AE _)) (Am (BY (QV Ea PySem.F.slot_list_reverse PySem.F.type_list_reverse kW (pv 3)))) AK) ht),?_⟩
 refine⟨_,U,_,U,_,U,_,_,U,U,a,ns,_,_,U,hS,hn,Ξ,Ξ,Ψ,Ψ,λl xs H2 sm hl d b8 a3 a6=>?_⟩
 refine⟨_,U,a,ns,_,_,U,sm.seq hS,hn,Ξ,Ξ,Ξ,λb b0 b1=>⟨U,_,U,?_⟩⟩
 refine Bi (λ_=>?_) (λ_=>?_)
 ·refine⟨_,U,.inl ⟨U,_,SqL.of d⟩,l,_,U,U,d,?_⟩;exact rt l xs.reverse _ (sm.put hl) hl (by rw[Ag,List.map_reverse]) (by rw[List.length_reverse];lia) (λx hx=>a3 x (List.mem_reverse.mp hx)) ((List.reverse_perm xs).nodup_iff.mpr a6)
 exact rt l xs H2 sm hl d b8 a3 a6
structure Wl where
 hand:Option Str
 heaps:List (List Str)
 lids:List Str
 deriving DecidableEq
def dO:Option Str->PyData
 | none=>.none
 | some x=>.str x
def dH (xs:List Str):PyData:=.tuple (xs.map PyData.str)
def dW (W:Wl):PyData:=.tuple [dO W.hand,.tuple (W.heaps.map dH),.tuple (W.lids.map PyData.str)]
def Sz (W:Wl)(n:Nat):Prop:=W.heaps.length=n/\W.lids.length=n
structure Ok (W:Wl):Prop where
 hand:∀x∈W.hand,Sk x
 heaps:∀h∈W.heaps,∀x∈h,Sk x
 lids:∀x∈W.lids,Sk x
 few:∀h∈W.heaps,h.length<=100
def Gs (h:RdV H v (dW W)):∃(a:Addr) (d:V) (b c:Addr) (xs ys:List V),v=.ref a/\H a=some (.tup [d,.ref b,.ref c])/\RdV H d (dO W.hand) /\
  H b=some (.tup xs)/\RdVs H xs (W.heaps.map dH)/\H c=some (.tup ys)/\RdVs H ys (W.lids.map PyData.str):=by
 cases h with
 | tup e rs=>
  cases rs with
  | cons r0 rs=>
   cases rs with
   | cons r1 rs=>
    cases rs with
    | cons r2 rs=>
     cases rs;cases r1 with
     | tup e1 s1=>
      cases r2 with
      | tup e2 s2=>exact⟨_,_,_,_,_,_,U,e,r0,e1,s1,e2,s2⟩
def FE (e:H a=some (.tup [v0,.ref b,.ref c]))(d:RdV H v0 (dO W.hand))(f:H b=some (.tup xs))(h:RdVs H xs (W.heaps.map dH))(g:H c=some (.tup ys))(s2:RdVs H ys (W.lids.map PyData.str)) :
  RdV H (.ref a) (dW W):=.tup e (.cons d (.cons (.tup f h) (.cons (.tup g s2) .nil)))
def Be {a:Type}{xs:List a}{i:Nat}{v:a}(h:xs[i]? = some v):atI xs (0+(i:Int))=some v:=by rw[Ie];exact AB h
def oV:Option Str->V
 | none=>.non
 | some x=>.str x
theorem Z5 :∀o:Option Str,RdV H (oV o) (dO o)
 | none=>.non
 | some x=>.str x
abbrev QW:List Str:=["_law_script", "_law_k", "_law_room_here"]
structure Fw (rs:List Ro)(W:Wl):Prop where
 perm:(W.hand.toList++W.heaps.flatten).Perm ((ths rs).map (·.1))
 lids:∀(i:Nat) p l,(plc rs)[i]? = some p->W.lids[i]? = some l->Lo p l
def lJ (h:Lo p l):Sk l:=by rcases h with h | ⟨h,_⟩ | ⟨h,_⟩ <;> (rw[h];exact⟨Δ,Δ⟩)
def Fw.ok (g:Good rs)(f:Fw rs W)(sz:Sz W (plc rs).length):Ok W:=by
 have d:∀x∈W.hand.toList++W.heaps.flatten,Sk x:=λx a=>Vc (FQ g (Vj (f.perm.mem_iff.mp a)));refine⟨λx a=>d x (Hc _ (by rw[Option.mem_toList];exact a)),λh b x a=>d x (En _ (List.mem_flatten.mpr ⟨h,b,a⟩)),λl m=>?_,λh b=>?_⟩
 ·obtain⟨i,c⟩:=EL m;have e:=(Ay.mp c).1;exact lJ (f.lids i _ l (AJ (by have:=sz.2;lia)) c)
 have n:=Rb b;have j:=f.perm.length_eq;rw[AG,Ai]at j;have:=g.fewT;lia
inductive Pv (K:W.Frag)(vs:List V)(H:Hp)(Q:VK)(E0_:XK):Prop
 | mk (a:Addr) (ns:List Int) (k:Int) (r:Addr) (rs:List Ro) (c0:vs=[.ref a,.int k,.ref r]) (c1:SqL K H a (ns.map V.int)) (c2:ns.length<=63) (c3:0<=k) (c4:k<100000) (c5:RmS H r rs) (c6:1<=(plc rs).length) (c7:∀(v:V) (W:Wl) (H':Hp),Same H H'->RdV H' v (dW W)->Sz W (plc rs).length->Fw rs W->Q v H'):Pv K vs H Q E0_
structure Hs (H H2:Hp)(D:Addr)(hs:List Addr)(xss:List (List Str)):Prop where
 len:hs.length=xss.length
 lst:H2 D=some (.lst (hs.map V.ref))
 nd:hs.Nodup
 fr:∀h∈hs,H h=none/\h≠D
 at':∀(i:Nat) h xs,hs[i]? = some h->xss[i]? = some xs->H2 h=some (.lst (xs.map V.str))
def Hs.same (S:Hs H H2 D hs xss)(s:Same H2 H3):Hs H H3 D hs xss:=
 ⟨S.len,s _ _ S.lst,S.nd,S.fr,λi h xs a b=>s _ _ (S.at' i h xs a b)⟩
def Hs.has (S:Hs H H2 D hs xss) (b:h∈hs):∃o,H2 h=some o:=by obtain⟨i,a⟩:=EL b;have c:=(Ay.mp a).1;exact⟨_,S.at' i h _ a (AJ (by have:=S.len;lia))⟩
def Hs.off (S:Hs H H2 D hs xss)(c:l≠D)(d:∀h∈hs,l≠h):Hs H (Y H2 l o) D hs xss:=
 ⟨S.len,by rw[Af c.symm];exact S.lst,S.nd,S.fr,λi h xs a b=>by rw[Af (d h (Br a)).symm];exact S.at' i h xs a b⟩
def Hs.put (S:Hs H H2 D hs xss) {new:List Str}(c:hs[j]? = some h):Hs H (Y H2 h (.lst (new.map V.str))) D hs (xss.set j new):=by
 refine⟨by rw[FU];exact S.len,by rw[Af ((S.fr h (Br c)).2).symm];exact S.lst,S.nd,S.fr,λi g xs a b=>?_⟩;have f:=(Ay.mp c).1;by_cases e:j=i
 ·subst e;rw[c]at a;cases a;rw[JS (by have:=S.len;lia)]at b;cases b;exact Ag
 rw[Ki e]at b;have d:g≠h:=λz=>by subst z;have l:=(Ay.mp a).1;exact e ((F3 S.nd).mp (((Ay.mp c).2).trans ((Ay.mp a).2).symm))
 rw[Af d];exact S.at' i g xs a b
abbrev iO:List Str:=["_law_script", "_law_k", "_law_room_here", "_law_heaps", "_law_hand", "_law_i", "_law_thing", "_law_where", "_law_heap", "_law_lids_here", "_law_some"]
def scWorld:AI iO QW (Aq IJ):=AO
def cU (F:Fun K "_law_world" "_law_world" IJ f fd)(DP:Df K mg "_law_pick" EW CO fP fdP)(DL:Df K mg "_law_lids" Nm NV fL fdL)(T:Bl mg)(GP:FnOk P w K mg base CX0 1 fP fdP CO (FG K))(GL:FnOk P w K mg base CX0 1 fL fdL NV P2) :
  FnOk P w K mg base CX0 2 f fd QW (Pv K):=by
 refine F.oq scWorld λcdv A outer s H vs Q E hr h=>?_
 obtain⟨a,ns,k,r,rs,rfl,hS,hn,k0,k1,R,bi,q⟩:=h
 have hu:=Cz hr
 have bj:sizeLine=16777216:=AF
 refine⟨_,(Ah (Ez (i:=3) (N:=["_law_place"]) (sc:=Aq IJ) (own:=["_law_place"]) (fr:=[]) (js:=[]) scWorld.nd U U B0 U (BS (CS hu (pv 2) Aw (λ_ _=>U))) (λ_ _ _ _=>AS (i:=0) (show List.Nodup (["_law_place"]:List Str) by decide +kernel)) (λ_ _ _ _=>Ck) (λ_ _ _ _=>AZ Ab)) (Ah (AD (i:=4) scWorld.nd Dc) (Ah (Cg CK U (EB Φ T.range (Aa (AX BI Φ T.len Bj (Aa (CS hu (pv 2) Aw (λ_ _=>U)) Ab)) Ab)) (AS (i:=5) scWorld.nd) (Ah (AD (i:=6) scWorld.nd (Av Bb (CS hu (pv 2) Aw (λ_ _=>U)) (pv 5) (λ_ _=>U))) (Ah (AD (i:=7) scWorld.nd (Bc GP hr Φ DP.m DP.F.kp DP.b .nil Ao (Aa (pv 0) (Aa (As Bq (pv 1) (pv 5)) (Aa (As Bq (AX BI Φ T.len Bj (Aa (pv 3) Ab)) Ae) Ab))))) (Am (AL (PW.pt (UO (AM Bt (pv 7) (AX BI Φ T.len Bj (Aa (pv 3) Ab)) (AE _)) (UN (AM Q0 (pv 4) Dc (AE _))))) (Am (AD (i:=4) scWorld.nd (pv 6))) (Ah (AD (i:=8) scWorld.nd (Av Bb (pv 3) (As Eg (pv 7) (AX BI Φ T.len Bj (Aa (pv 3) Ab))) (λ_ _=>U))) (Am (BY (CN Ea Sy PySem.F.type_list_insert Vh (pv 8) (Aa (Bc GP hr Φ DP.m DP.F.kp DP.b .nil Ao (Aa (pv 0) (Aa (As Bq (As Bq (pv 1) Ae) (pv 5)) (Aa (As Bq (AX BI Φ T.len Bj (Aa (pv 8) Ab)) Ae) Ab)))) (Aa (pv 6) Ab))))))))))) (Ah (AD (i:=9) scWorld.nd (AZ Ab)) (Ah (Cg CK U (EB Φ T.range (Aa (AX BI Φ T.len Bj (Aa (pv 3) Ab)) Ab)) (AS (i:=5) scWorld.nd) (Ah (AD (i:=10) scWorld.nd (Bc GL hr Φ DL.m DL.F.kp DL.b .nil Ao (Aa (pv 2) (Aa (Av Bb (CS hu (pv 2) Aw (λ_ _=>U)) (pv 5) (λ_ _=>U)) Ab)))) (Am (BY (CN Ea F1 GY FL (pv 9) (Aa (Av Bb (pv 10) (Bc GP hr Φ DP.m DP.F.kp DP.b .nil Ao (Aa (pv 0) (Aa (As Bq (As Bq (pv 1) Ae) (pv 5)) (Aa (AX BI Φ T.len Bj (Aa (pv 10) Ab)) Ab)))) (λ_ _=>U)) Ab)))))) (Am (AC (Bm (Aa (pv 4) (Aa (BK GM Φ T.tuple FT (Aa (Dx (N:=["_law_heap"]) (sc:=Aq IJ) (own:=["_law_heap"]) (fr:=[]) (js:=[]) B0 U (BS (pv 3)) (λ_ _ _ _=>AS (i:=0) (show List.Nodup (["_law_heap"]:List Str) by decide +kernel)) (λ_ _ _ _=>Ck) (λ_ _ _ _=>(BK (rP K U) Φ T.tuple FT (Aa (pv 0) Ab)))) Ab)) (Aa (BK GM Φ T.tuple FT (Aa (pv 9) Ab)) Ab))))))))))),?_⟩
 have g:=R.good
 obtain⟨kvs,L3,pl,th,d1,d2,d3,DD,h1,h2,h3,h4,h5,bb,bc,h6,h7,h8,h9,bh,be,b8⟩:=R.ex
 obtain⟨ps,aj⟩:∃ps,ps=(plc rs).map (·.1):=⟨_,U⟩
 obtain⟨v,ae⟩:∃v,v=(ths rs).map (·.1):=⟨_,U⟩
 have bd:ps.length=(plc rs).length:=by rw[aj,Ai]
 have ax:v.length=(ths rs).length:=by rw[ae,Ai]
 have p0:1<=ps.length:=by lia
 have p1:ps.length<=6:=by have:=g.fewP;lia
 have t1:v.length<=6:=by have:=g.fewT;lia
 rw[<- aj]at h6
 rw[<- ae]at h7
 have b9:(ps.map V.str).length=ps.length:=Ai ..
 have ad:(v.map V.str).length=v.length:=Ai ..
 refine⟨_,U,r,_,U,Dn h1 h2,pl,U,⟨_,SqL.of h6⟩,λD hD=>?_⟩
 refine Co (n:=ps.length) (λi ys H2=>∃c:List Addr,ys=c.map V.ref/\Same H H2/\c.length=i/\Hs H H2 D c (replicate i [])) ⟨[],U,Same.new hD,U,U,Ag,.nil,(λ_ z=>nomatch z),λi h xs z=>by simp at z⟩
  (λi ys H2 W M=>by obtain⟨c,_,sm,_⟩:=M;exact⟨_,.str ps[i],SqL.of (sm _ _ h6),by simp[W]⟩) (λys H2 M=>by obtain⟨c,_,sm,_⟩:=M;exact⟨_,SqL.of (sm _ _ h6),Θ⟩) ?_ ?_
 ·rintro i ys H2 x H3 W ⟨c,rfl,sm,hl,S⟩ ⟨rfl,_⟩;refine Cn ?_;refine⟨Bn _,λp hp=>⟨_,by rw[Af (Au S.lst hp)];exact S.lst,by rw[Ai,hl];lia,c++[p],Θ,?_,?_,?_⟩⟩
  ·exact(sm.put (sm.free hp)).put hD
  ·rw[AG,hl];rfl
  have pD:p≠D:=(Au S.lst hp).symm;have a5:∀h∈c,h≠p/\H3 h=some (.lst []):=λh C=>by obtain⟨j,hj⟩:=EL C;have ar:=(Ay.mp hj).1;have e:=S.at' j h [] hj (by rw[OO,Ar Ψ]);exact⟨Au e hp,e⟩
  refine⟨by rw[AG,hl,Fz];rfl,by rw[Ag];simp,iI S.nd (λz=>(a5 p z).1 U),λh C=>?_,λj h xs ha hb=>?_⟩
  ·rcases(BF.mp C)with C | C
   ·exact S.fr h C
   rw[AR.mp C];exact⟨sm.free hp,pD⟩
  have hx:xs=[]:=List.eq_of_mem_replicate (Br hb);subst hx;rcases BF.mp (Br ha)with C | C
  ·rw[Af (S.fr h C).2,Af (a5 h C).1];exact(a5 h C).2
  rw[AR.mp C,Af pD];exact Ag
 rintro ys H2 ⟨c,rfl,sm,hl,S⟩
 have ag:(c.map V.ref).length=ps.length:=by rw[Ai,hl]
 refine⟨_,U,r,_,U,Dn (sm _ _ h1) h3,_,_,U,.inl ⟨_,SqL.of (sm _ _ h7),U⟩,_,U,Ψ,by rw[ad];lia,HX (n:=(((v.map V.str).length:Nat):Int).toNat) (λi σ H3=>∃(v5 v6 v7 v8:Option V) (o:Option Str) (xss:List (List Str)),σ = [some (.ref a),some (.int k),some (.ref r),some (.ref D),some (oV o),v5,v6,v7,v8,none,none]/\Same H H3/\Hs H H3 D c xss/\(o.toList++xss.flatten).Perm (v.take i)) ⟨none,none,none,none,none,_,U,sm,S,Θ⟩ ?_ ?_⟩
 ·rintro i σ H3 W ⟨v5,v6,v7,v8,o,xss,rfl,d,L,pm⟩;have ai:i<v.length:=by rw[C9,ad]at W;exact W
  have a2:atI (v.map V.str) (0+(i:Int))=some (.str v[i]):=Be (by simp[ai]);have X:v.take (i+1)=v.take i++[v[i]]:=BL ai;generalize v[i]=x at a2 X;refine⟨_,U,r,_,U,Dn (d _ _ h1) h3,_,U,_,_,_,_,U,U,SqL.of (d _ _ h7),a2,?_⟩;refine⟨_,U,_,U,_,U,_,_,U,U,_,U,_,_,U,.inl ⟨_,SqL.of L.lst,U⟩,_,_,U,U,a,ns,_,_,U,d.seq hS,hn,Ψ,Ψ,Ψ,λwh w0 w1=>?_⟩;rw[ag]at w1;have a3:(0:Int)<((c.map V.ref).length:Int):=by lia
  obtain⟨j,hj⟩:∃j:Nat,(j:Int)=wh % ((c.map V.ref).length:Int):=⟨(wh % ((c.map V.ref).length:Int)).toNat,Dr (JZ _ Ψ)⟩;have as:j<c.length:=by have:=Ka wh a3;rw[Ai]at this hj;lia
  have ay:j<xss.length:=by have:=L.len;lia
  have ac:atI (c.map V.ref) (wh % ((c.map V.ref).length:Int))=some (.ref c[j]):=by rw[<- hj];exact AB (by simp[as])
  have a8:c[j]? = some c[j]:=AJ as;have af:xss[j]? = some xss[j]:=AJ ay;have b3:(xss[j]).length<=6:=by have e1:=Rb (CI ay);have e2:=pm.length_eq;rw[AG,Bh]at e2;lia
  generalize c[j]=h at ac a8;generalize xss[j]=xs at af b3;have z3:=L.at' j h xs a8 af;have z1:=(L.fr h (Br a8)).1;have m:(xs.map V.str).length=xs.length:=Ai ..
  have az:∀at':Int,Same H (Y H3 h (.lst ((xs.map V.str).take at'.toNat++V.str x::(xs.map V.str).drop at'.toNat)))/\Hs H (Y H3 h (.lst ((xs.map V.str).take at'.toNat++V.str x::(xs.map V.str).drop at'.toNat))) D c (xss.set j (xs.take at'.toNat++x::xs.drop at'.toNat)) /\
    (o.toList++(xss.set j (xs.take at'.toNat++x::xs.drop at'.toNat)).flatten).Perm (v.take (i+1)):=λat'=>by
   have e:(xs.map V.str).take at'.toNat++V.str x::(xs.map V.str).drop at'.toNat=(xs.take at'.toNat++x::xs.drop at'.toNat).map V.str:=by simp[Ep,Ot]
   rw[e]
   refine⟨d.put z1,L.put a8,?_⟩
   have e1:=Uh (a:=xs.take at'.toNat) (b:=xs.drop at'.toNat) (x:=x) (xss:=xss) (j:=j) (by rw[EO];exact af)
   rw[X]
   refine(JQ _ e1).trans (Ma.trans ?_)
   exact(Oz x pm).trans (SQ x _).symm
  refine⟨_,U,_,U,_,_,U,.inl ⟨_,SqL.of L.lst,U⟩,U,_,U,?_⟩;refine Bi (λ_=>?_) (λ_=>?_)
  ·refine⟨_,U,U,_,U,?_⟩;refine Bi (λho=>?_) (λ_=>?_)
   ·have b2:o=none:=by
     cases o with
     | none=>rfl
     | some y=>exact absurd (Bf ho) (by intro z;cases z)
    subst b2;refine⟨_,U,_,_,_,_,some x,xss,U,d,L,?_⟩;rw[X];exact(Oz x pm).trans (SQ x _).symm
   refine⟨_,U,_,U,_,U,_,_,U,.inl ⟨_,SqL.of L.lst,U⟩,_,_,U,U,a3,D,_,_,_,U,U,SqL.of L.lst,ac,?_⟩;refine⟨_,U,.inl ⟨U,_,SqL.of z3⟩,_,U,_,U,_,_,U,U,_,U,_,_,U,U,_,U,_,_,U,.inl ⟨_,SqL.of z3,U⟩,_,_,U,U,a,ns,_,_,U,d.seq hS,hn,Ψ,Ψ,Ψ,λat' a0 a1=>?_⟩;rw[m]at a1;obtain⟨i1,i2,i3⟩:=az at';exact⟨_,U,h,_,_,_,U,U,a0,by rw[m];lia,z3,by rw[m];lia,_,_,_,_,o,_,U,i1,i2,i3⟩
  refine BH ?_;refine⟨_,U,_,U,_,U,_,_,U,.inl ⟨_,SqL.of L.lst,U⟩,_,_,U,U,a3,D,_,_,_,U,U,SqL.of L.lst,ac,?_⟩;refine⟨_,U,.inl ⟨U,_,SqL.of z3⟩,_,U,_,U,_,_,U,U,_,U,_,_,U,U,_,U,_,_,U,.inl ⟨_,SqL.of z3,U⟩,_,_,U,U,a,ns,_,_,U,d.seq hS,hn,Ψ,Ψ,Ψ,λat' a0 a1=>?_⟩;rw[m]at a1;obtain⟨i1,i2,i3⟩:=az at';exact⟨_,U,h,_,_,_,U,U,a0,by rw[m];lia,z3,by rw[m];lia,_,_,_,_,o,_,U,i1,i2,i3⟩
 rintro σ H3 ⟨v5,v6,v7,v8,o,xss,rfl,d,L,pm⟩
 rw[C9,ad,Cd]at pm
 refine⟨Bn _,λll a6=>?_⟩
 have nD:ll≠D:=(Au L.lst a6).symm
 have nH:∀h∈c,ll≠h:=λh C=>by obtain⟨oo,z3⟩:=L.has C;exact(Au z3 a6).symm
 have f0:H ll=none:=d.free a6
 have S4:=L.same (Same.new (o:=.lst []) a6)
 refine⟨_,U,_,_,U,.inl ⟨_,SqL.of S4.lst,U⟩,_,U,Ψ,Ψ,HX (n:=(((c.map V.ref).length:Nat):Int).toNat) (λi σ H4=>∃(v5 al:Option V) (G:List Str),σ = [some (.ref a),some (.int k),some (.ref r),some (.ref D),some (oV o),v5,v6,v7,v8,some (.ref ll),al]/\G.length=i/\(∀(j:Nat) p l,(plc rs)[j]? = some p->G[j]? = some l->Lo p l)/\Same H H4/\Hs H H4 D c xss/\H4 ll=some (.lst (G.map V.str))) ⟨_,none,[],U,U,(λ_ _ _ _ z=>by simp at z),d.put f0,S4,Ag⟩ ?_ ?_⟩
 ·rintro i σ H4 W ⟨v5,al,G,rfl,a7,ab,u,S5,ak⟩;have ai:i<ps.length:=by rw[C9,ag]at W;exact W
  have ah:i<(plc rs).length:=by lia
  have b6:ps[i]? = some ((plc rs)[i]).1:=by rw[aj,AQ,AJ ah];rfl
  have a2:atI (ps.map V.str) (0+(i:Int))=some (.str ((plc rs)[i]).1):=Be (by rw[AQ,b6];rfl);have aa:(plc rs)[i]∈plc rs:=CI ah;have ap:(plc rs)[i]? = some (plc rs)[i]:=AJ ah;generalize (plc rs)[i]=pp at a2 aa ap;refine⟨_,U,_,U,r,_,U,Dn (u _ _ h1) h2,_,U,_,_,_,_,U,U,SqL.of (u _ _ h6),a2,r,d1,d2,pp.1,kvs,_,_,U,u _ _ h1,h4,h5,u _ _ h8,u _ _ h9,λl ys B I f5 e5 y1 y2=>?_⟩;have b1:(ys.map V.str).length=ys.length:=Ai ..;have au:=I _ _ ak;refine⟨_,U,.inl ⟨U,_,SqL.of au⟩,_,U,_,U,_,U,_,_,U,U,_,U,_,_,U,U,_,U,_,_,U,.inl ⟨_,SqL.of e5,U⟩,a,ns,_,_,U,(u.trans I).seq hS,hn,Ψ,Ψ,Ψ,λj j0 j1=>?_⟩;rw[b1]at j1;obtain⟨y,hy,b4⟩:=sS (xs:=ys) j0 j1;refine⟨_,_,_,_,U,U,SqL.of e5,b4,ll,_,_,U,U,au,by rw[Ai];lia,?_⟩;have S6:=S5.same I;refine⟨_,_,G++[y],U,by simp[a7],λj' p' l' am a4=>?_,(u.trans I).put f0,S6.off nD nH,by rw[Ag];simp⟩;by_cases b5:j'<G.length
  ·rw[Da b5]at a4;exact ab j' p' l' am a4
  have ar:=(Ay.mp a4).1;rw[AG,OH]at ar;have e:j'=G.length:=by lia
  subst e;rw[List.getElem?_concat_length]at a4;cases a4;rw[a7,ap]at am;cases am;exact Al.lo g aa (y2 y hy)
 rintro σ H4 ⟨bg,al,G,rfl,a7,ab,u,S5,ak⟩
 have b7:G.length=ps.length:=by rw[a7,C9,ag]
 have ba:xss.length=ps.length:=by have:=S5.len;lia
 refine⟨_,U,_,U,D,U,⟨_,SqL.of S5.lst⟩,λD2 av=>?_⟩
 refine Co (n:=c.length) (λi ys B=>RdVs B ys ((xss.take i).map dH)/\ys.length=i/\Same H4 B/\B D2=some (.lst ys)) ⟨.nil,U,Same.new av,Ag⟩
  (λi ys B W M=>by obtain⟨_,_,I,_⟩:=M;exact⟨_,.ref c[i],SqL.of (I _ _ S5.lst),by simp[W]⟩) (λys B M=>by obtain⟨_,_,I,_⟩:=M;exact⟨_,SqL.of (I _ _ S5.lst),Θ⟩) ?_ ?_
 ·rintro i ys bf x B W ⟨a9,aq,I,e5⟩ ⟨rfl,hx⟩;have ao:=hx _ (SqL.of (I _ _ S5.lst));have b0:x=.ref c[i]:=by rw[AQ,AJ W]at ao;exact(BG ao).symm
  subst b0;have an:i<xss.length:=by have:=S5.len;lia
  have z3:=S5.at' i c[i] xss[i] (AJ W) (AJ an);have X:xss.take (i+1)=xss.take i++[xss[i]]:=BL an;generalize xss[i]=zs at z3 X;refine Cn ?_;refine⟨_,U,_,_,U,.inl ⟨SqL.of (I _ _ z3),λl hl=>⟨_,by rw[Af (Au e5 hl)];exact e5,Ψ,?_,by simp[aq],(I.trans (Same.new hl)).put av,Ag⟩⟩⟩;have lD:l≠D2:=(Au e5 hl).symm;have kp:∀b us,B b=some (.tup us)->(Y (Y B l (.tup (zs.map V.str))) D2 (.lst (ys++[V.ref l]))) b=some (.tup us):=λb us e=>by rw[Af (A8 e e5 (by intro z;cases z)),Af (Au e hl)];exact e
  rw[X,AW];exact(a9.same kp).append (.cons (.tup (by rw[Af lD];exact Ag) (RdVs.strs zs)) .nil)
 rintro ys B ⟨a9,aq,I,e5⟩
 rw[Eo (by have:=S5.len;lia)]at a9
 refine⟨_,_,U,.inl ⟨SqL.of e5,λtp aw=>?_⟩⟩
 have e6:=I _ _ ak
 refine⟨_,U,_,_,U,.inl ⟨SqL.of (by rw[Af (Au e6 aw)];exact e6),λtl ax=>⟨by show 3<=sizeLine;decide,λt ht=>?_⟩⟩⟩
 have s6:Same B (Y B tp (.tup ys)):=Same.new aw
 have s7:Same (Y B tp (.tup ys)) (Y (Y B tp (.tup ys)) tl (.tup (G.map V.str))):=Same.new ax
 have s8:Same (Y (Y B tp (.tup ys)) tl (.tup (G.map V.str))) (Y (Y (Y B tp (.tup ys)) tl (.tup (G.map V.str))) t (.tup [oV o,.ref tp,.ref tl])):=Same.new ht
 refine q (.ref t) ⟨o,xss,G⟩ _ (((u.trans I).trans s6).trans (s7.trans s8)) (FE Ag (Z5 o) (s8 _ _ (s7 _ _ Ag)) (s8.rds (s7.rds (s6.rds a9))) (s8 _ _ Ag) (RdVs.strs G)) ⟨?_,?_⟩ ⟨?_,ab⟩
 ·show xss.length=_;lia
 ·show G.length=_;lia
 rw[ae]at pm
 exact pm
def formsD:List PyData:=[.tuple [.str "place",.int 2],.tuple [.str "box",.int 2],.tuple [.str "box",.int 3],.tuple [.str "thing",.int 3]]
structure Md (K:W.Frag)(mg:Str->Option Value)(aN aF:Addr):Prop where
 letters:∃t,mg "LETTERS" = some (.str abc t)
 most:∃t,mg "MOST_LETTERS" = some (.int 8 t)
 mp:∃t,mg "MOST_PLACES" = some (.int 6 t)
 mt:∃t,mg "MOST_THINGS" = some (.int 6 t)
 nn:mg "NO_NAMES" = some (.ref aN)
 nv:∀H:Hp,SqT K H aN (fixedS.map V.str)
 ff:mg "FORMS" = some (.ref aF)
 fv:Kl K (.ref aF) (.tuple formsD)
inductive P5 (vs:List V)(H:Hp)(Q:VK)(E0_:XK):Prop
 | mk (x:Str) (c0:vs=[.str x]) (c1:Nv x) (c2:∀H':Hp,Same H H'->Q (.bl true) H'):P5  vs H Q E0_
def Zy:AI ["text"] ["text"] (Aq KQ):=AO
inductive PL (vs:List V)(H:Hp)(Q:VK)(E0_:XK):Prop
 | mk (ro:Ro) (c0:vs=[.str ro.txt]) (c1:ro.nv) (c2:∀(l:Addr) (H':Hp),Same H H'->H l=none->H' l=some (.lst (ro.words.map V.str))->Q (.ref l) H'):PL  vs H Q E0_
def scReadLine:AI ["line", "words", "word"] ["line"] (Aq KH):=AO
def RowsAt (H:Hp):List Ro->List Addr->Prop:=Paired λro a=>H a=some (.lst (ro.words.map V.str))
def RowsAt.same (s:Same H H'):∀{rs:List Ro}{ls:List Addr},RowsAt H rs ls->RowsAt H' rs ls:=by
 intro r c h;induction h with
 | nil=>exact .nil
 | cons a b i=>exact .cons (s _ _ a) i
def RowsAt.keep :∀{rs:List Ro}{ls:List Addr},RowsAt H rs ls->(∀a∈ls,∀o,H a=some o->H' a=some o)->RowsAt H' rs ls:=by
 intro r c h k;induction h with
 | nil=>exact .nil
 | cons a b i=>exact .cons (k _ A9 _ a) (i λx d=>k x (AY _ d))
def RowsAt.snoc (h:H a=some (.lst (ro.words.map V.str))):∀{rs:List Ro}{d:List Addr},RowsAt H rs d->RowsAt H (rs++[ro]) (d++[a]):=by
 intro r c i;induction i with
 | nil=>exact .cons h .nil
 | cons x b j=>exact .cons x j
def RowsAt.length (h:RowsAt H rs ls):rs.length=ls.length:=G8 h
theorem RowsAt.get :∀{rs:List Ro}{d:List Addr}{i:Nat}{a:Addr},RowsAt H rs d->d[i]? = some a->∃c,rs[i]? = some c/\H a=some (.lst (c.words.map V.str))
 | _,_,_,_,.nil,e=>by simp at e
 | _,_,0,_,.cons x _,e=>by simp at e;subst e;exact⟨_,U,x⟩
 | _,_,i+1,_,.cons _ b,e=>by obtain⟨c,f,g⟩:=RowsAt.get b (by simpa using e);exact⟨c,by simpa using f,g⟩
inductive PD (vs:List V)(H:Hp)(Q:VK)(E0_:XK):Prop
 | mk (a:Addr) (rs:List Ro) (c0:vs=[.ref a]) (c1:H a=some (.lst ((rs.map Ro.txt).map V.str))) (c2:Good rs) (c3:rs.length<=12) (c4:∀(l:Addr) (ls:List Addr) (H':Hp),Same H H'->H' l=some (.lst (ls.map V.ref))->RowsAt H' rs ls->Q (.ref l) H'):PD  vs H Q E0_
def scReadRows:AI ["lines", "rows", "names"] ["lines"] (Aq IL):=AO
inductive PB (vs:List V)(H:Hp)(Q:VK)(E0_:XK):Prop
 | mk (a:Addr) (rs:List Ro) (ls:List Addr) (c0:vs=[.ref a]) (c1:H a=some (.lst (ls.map V.ref))) (c2:RowsAt H rs ls) (c3:Good rs) (c4:∀(d:Addr) (H':Hp),Same H H'->H d=none->H' d=some (.dK (shK rs))->Q (.ref d) H'):PB  vs H Q E0_
def scReadThings:AI ["rows", "shapes", "words"] ["rows"] (Aq Nb):=AO
def E1:Option Str->V
 | none=>.non
 | some x=>.str x
def PlOk (H:Hp):List (Str×Bool×Option Str)->List (Key×V)->Prop:=Paired λp kv=>kv.1=Sum.inr p.1/\∃t,kv.2=.ref t/\H t=some (.tup [.bl p.2.1,E1 p.2.2])
def PlOk.same (s:∀b xs,H b=some (.tup xs)->H' b=some (.tup xs)):∀{ps:List (Str×Bool×Option Str)}{kvs:List (Key×V)},PlOk H ps kvs->PlOk H' ps kvs:=by
 intro r c h;induction h with
 | nil=>exact .nil
 | cons e b i=>obtain⟨e,t,d,f⟩:=e;exact .cons ⟨e,t,d,s _ _ f⟩ i
def PlOk.snoc {t:Addr}(h:H t=some (.tup [.bl p.2.1,E1 p.2.2])):∀{ps:List (Str×Bool×Option Str)}{kvs:List (Key×V)},PlOk H ps kvs->PlOk H (ps++[p]) (kvs++[(Sum.inr p.1,.ref t)]):=by
 intro r c i;induction i with
 | nil=>exact .cons ⟨U,t,U,h⟩ .nil
 | cons x b j=>exact .cons x j
def PlOk.length (h:PlOk H ps kvs):ps.length=kvs.length:=G8 h
def PlOk.keys :∀{ps:List (Str×Bool×Option Str)}{kvs:List (Key×V)},PlOk H ps kvs->kvs.map (λa=>kV a.1)=(ps.map (·.1)).map V.str:=by
 intro p k h;induction h with
 | nil=>rfl
 | cons e b i=>rw[Bg,Bg,Bg,i,e.1];rfl
def PlOk.none :∀{ps:List (Str×Bool×Option Str)}{kvs:List (Key×V)},PlOk H ps kvs->x∉ps.map (·.1)->Ax kvs (Sum.inr x:Key)=.none:=by
 intro p k h n;induction h with
 | nil=>rfl
 | cons e b i=>rw[Bp (λz=>n (by rw[e.1]at z;rw[<- C0 z];exact A9))];exact i λz=>n (AY _ z)
theorem PlOk.get :∀{ps:List (Str×Bool×Option Str)}{kvs:List (Key×V)}{i:Nat}{k:Key}{v:V},PlOk H ps kvs->kvs[i]? = some (k,v)->∃p t,ps[i]? = some p/\v=.ref t/\H t=some (.tup [.bl p.2.1,E1 p.2.2])
 | _,_,_,_,_,.nil,e=>by simp at e
 | _,_,0,_,_,.cons ⟨e1,t,e2,e3⟩ _,e=>by simp at e;rw[e]at e2;exact⟨_,t,U,e2,e3⟩
 | _,_,i+1,_,_,.cons _ b,e=>by obtain⟨p,t,a,c,d⟩:=PlOk.get b (by simpa using e);exact⟨p,t,by simpa using a,c,d⟩
inductive PF (vs:List V)(H:Hp)(Q:VK)(E0_:XK):Prop
 | mk (a:Addr) (rs:List Ro) (ls:List Addr) (c0:vs=[.ref a]) (c1:H a=some (.lst (ls.map V.ref))) (c2:RowsAt H rs ls) (c3:Good rs) (c4:∀(d:Addr) (kvs:List (Key×V)) (H':Hp),Same H H'->H d=none->H' d=some (.dK kvs)->PlOk H' (plc rs) kvs->Q (.ref d) H'):PF  vs H Q E0_
def scReadPlaces:AI ["rows", "places", "words"] ["rows"] (Aq Nc):=AO
inductive Qh (vs:List V)(H:Hp)(Q:VK)(E0_:XK):Prop
 | mk (d1 d2:Addr) (rs:List Ro) (kvs:List (Key×V)) (c0:vs=[.ref d1,.ref d2]) (c1:H d1=some (.dK kvs)) (c2:PlOk H (plc rs) kvs) (c3:H d2=some (.dK (shK rs))) (c4:d1≠d2) (c5:Good rs) (c6:∀(o:Obj) (H':Hp),(∀b u,H b=some u->b≠d1->H' b=some u)->H' d1=some (.frz o (.dK kvs))->Q .non H'):Qh  vs H Q E0_
def scCheckKeys:AI ["places", "shapes", "lid", "key"] ["places", "shapes"] (Aq Ny):=AO
def Gp (d1 d2:Addr):List (Str×V):=putF "told_shapes" (.ref d2) (putF "told_places" (.ref d1) [])
def ZZ:¬(("told_places" : Str) = "told_shapes"):=by decide +kernel
def NG (a b:Addr):(Gp a b).lookup ("told_places" : Str)=some (.ref a):=by unfold Gp;rw[CF,Ak ZZ,CF,Ar rfl]
def EX (d a:Addr){m:Str}(b:¬m = "told_shapes")(c:¬m = "told_places"):(Gp d a).lookup m=none:=by unfold Gp;rw[CF,Ak b,CF,Ak c];rfl
inductive Xx (C:Addr)(H:Hp)(x:Addr)(rs:List Ro):Prop
 | mk (dx d1 d2:Addr) (o:Obj) (kvs:List (Key×V)) (c0:H x=some (.ins C dx (Gp d1 d2))) (c1:H d1=some (.frz o (.dK kvs))) (c2:PlOk H (plc rs) kvs) (c3:H d2=some (.dK (shK rs))):Xx C H x rs
structure RoomAt (C:Addr)(H:Hp)(x:Addr)(rs:List Ro):Prop where
 ex:Xx C H x rs
def RoomAt.same (R:RoomAt C H x rs)(s:Same H H'):RoomAt C H' x rs:=by obtain⟨h,d,f,o,kvs,a,g,c,i⟩:=R.ex;exact⟨h,d,f,o,kvs,s _ _ a,s _ _ g,c.same λb xs e=>s _ _ e,s _ _ i⟩
structure Cl (K:W.Frag)(C:Addr):Prop where
 cl:Cls K C
 nP:NoAttr K C "told_places"
 nS:NoAttr K C "told_shapes"
inductive MZ (C:Addr)(vs:List V)(H:Hp)(Q:VK)(E0_:XK):Prop
 | mk (x dx a:Addr) (rs:List Ro) (c0:vs=[.ref x,.ref a]) (c1:H x=some (.ins C dx [])) (c2:H a=some (.lst ((rs.map Ro.txt).map V.str))) (c3:Good rs) (c4:rs.length<=12) (c5:∀H':Hp,(∀b u,H b=some u->b≠x->H' b=some u)->RoomAt C H' x rs->Q .non H'):MZ C vs H Q E0_
def scInit:AI ["self", "lines", "rows", "places", "shapes"] ["self", "lines"] (Aq QC):=AO
inductive Hf (C:Addr)(vs:List V)(H:Hp)(Q:VK)(E0_:XK):Prop
 | mk (x:Addr) (rs:List Ro) (c0:vs=[.ref x]) (c1:RoomAt C H x rs) (c2:∀(l:Addr) (H':Hp),Same H H'->H l=none->H' l=some (.lst (((plc rs).map (·.1)).map V.str))->Q (.ref l) H'):Hf C vs H Q E0_
def Zp:AI ["self"] ["self"] (Aq Qy):=AO
def pQ {a:Addr}{o:Obj}{kvs:List (Key×V)}{g:TG}{l:TS}{D:Ga}{b:L2.St}{H:Hp}(c:Nat->L2.St->Hp->Prop)(h0:c 0 b H)(v:∀i b H,i<=kvs.length->c i b H->H a=some (.frz o (.dK kvs)))
  (z:∀i k x b H,kvs[i]? = some (k,x)->c i b H->g x b H λf j=>l { D with nx:=c (i+1),ct:=c (i+1),bk:=D.nx } f j)(u:∀b H,c kvs.length b H->D.nx b H) :
  ∃W:Nat->Nat->L2.St->Hp->Prop,(∃m,W 0 m b H)/\∀i m b H,W i m b H ->
   ((Ms a o kvs).stop i H/\D.nx b H)\/((Ms a o kvs).go i H/\∃N:L2.St->Hp->Prop,(∀d H',N d H'->∃n,n<m/\W (i+1) n d H')/\∀x H',(Ms a o kvs).yld i H x H'->g x b H' λf j=>l { D with nx:=N,ct:=N,bk:=D.nx } f j):=by
 refine⟨λi m b H=>m=kvs.length-i/\i<=kvs.length/\c i b H,⟨kvs.length,Θ,Bn _,h0⟩,?_⟩
 rintro i m b H ⟨rfl,s,p⟩
 have q:=v i b H s p
 by_cases h:i<kvs.length
 ·refine .inr ⟨⟨h,q⟩,c (i+1),λd H' r=>⟨kvs.length-(i+1),Ψ,U,h,r⟩,λx H' y=>?_⟩;obtain⟨e,k,y⟩:=y;subst e;exact z i k x b _ y p
 have e:i=kvs.length:=by lia
 subst e
 exact .inl ⟨⟨An _,q⟩,u b H p⟩
def fU (F:Fun K "is_name" "is_name" KQ f fd)(T:Bl mg)(M:Md K mg aN aF):FnOk P w K mg base CX0 1 f fd ["text"] P5:=by
 obtain⟨t1,I⟩:=M.letters;obtain⟨S,G⟩:=M.most;refine F.oq Zy λcdv A outer s H vs Q E W h=>?_;obtain⟨x,rfl,p,q⟩:=h;have L:sizeLine=16777216:=AF;have R:=p.len;have z:=p.pos;refine⟨_,Ah (AL (PW.pt (Ex (AM Bt (pv 0) Aw (AE _)) (Ex (AM Fk (AX BI Φ T.len Bj (Aa (pv 0) Ab)) (B7 (v:=.int 8) Φ G ⟨_,U⟩) (AE _)) (Fg (AM Js (pv 0) (B7 (v:=.ref aN) Φ M.nn U) Φ))))) (Am (AC B8)) AK) (Am (AC (AX (RL U) Φ T.all RO (Aa (Dx (N:=["sign"]) (sc:=Aq KQ) (own:=["sign"]) (fr:=[]) (js:=[]) B0 U (bV (pv 0)) (λ_ _ _ _=>AS (i:=0) (show List.Nodup (["sign"]:List Str) by decide +kernel)) (λ_ _ _ _=>Ck) (λ_ _ _ _=>De cP (pv 0) (B7 (v:=.str abc) Φ I ⟨_,U⟩) Φ)) Ab)))),?_⟩;refine⟨_,U,U,_,U,?_⟩;refine Bi (λj=>?_) (λ_=>?_)
 ·exfalso;have e:=V.str.inj (Bf j);rw[e]at z;exact absurd z Δ
 refine⟨_,U,_,_,U,⟨Ψ,U⟩,_,_,U,U,_,U,?_⟩;refine Bi (λj=>?_) (λ_=>?_)
 ·exfalso;have:=Bf j;lia
 refine⟨_,U,aN,_,U,.inr (M.nv H),U,flat_strs _,_,U,?_⟩;refine Bi (λj=>?_) (λ_=>?_)
 ·exfalso;have g:Fq (.str x) (fixedS.map V.str)=true:=j;rw[HW]at g;exact p.fix (Bf g)
 refine⟨_,U,x,U,p.ascii,λD hD=>?_⟩;refine Co (n:=x.cps.size) (λi ys m=>ys=replicate i (V.bl true)/\Same H m/\m D=some (.lst ys)) ⟨U,Same.new hD,Ag⟩ (λi _ _ y _=>y) (λ_ _ _=>An _) ?_ ?_
 ·rintro i ys m v X y ⟨rfl,r,d⟩ ⟨rfl,c,hc,rfl⟩;refine Cn ?_;have u:c∈cs x:=by have:=Br (l:=x.cps.toList) (i:=i) (a:=c) (by simpa using hc);exact this
  have o:=p.low c u;have B:x.cps.size<=8:=R;refine⟨_,U,_,_,U,U,_,d,by rw[Fz];lia,?_,r.put hD,Ag⟩;rw[nM o.1 o.2,List.replicate_succ']
 rintro ys m ⟨rfl,r,d⟩;refine⟨D,replicate x.cps.size true,U,SqL.of (by rw[d,List.map_replicate]),?_⟩;have e:(replicate x.cps.size true).all (λb=>b)=true:=by rw[DB];intro b C;exact(HZ.mp C).2
 rw[e];exact q m r
def dS (F:Fun K "read_line" "read_line" KH f fd)(X:Df K mg "is_name" KQ ["text"] fI fdI)(T:Bl mg)(M:Md K mg aN aF)(GI:FnOk P w K mg base CX0 1 fI fdI ["text"] P5):FnOk P w K mg base CX0 2 f fd ["line"] PL:=by
 refine F.oq scReadLine λcdv A outer s H vs Q E hr h=>?_;obtain⟨b,rfl,g,q⟩:=h;have R:(A.deeper (envOfC "read_line" (Aq KH) s.heap.objs.size f cdv)).units+65<cLine:=by have:=hr.un;lia
 have a1:sizeLine=16777216:=AF;have a0:=Tr g;refine⟨_,Ah (AD (i:=1) scReadLine.nd (CN Ia FZ JR Ju (pv 0) (Aa Aw Ab))) (Ah (AL (AM (cL R) (Bm (Aa (Av Bb (pv 1) Ae (λ_ _=>U)) (Aa (AX BI Φ T.len Bj (Aa (pv 1) Ab)) Ab))) (B7 (v:=.ref aF) Φ M.ff U) Φ) Cu AK) (Ah (Cg CK U (BS (DI Ew (pv 1) (DG Ae) DH)) (AS (i:=2) scReadLine.nd) (Am (AL (DV (Ey (Bc GI hr Φ X.m X.F.kp X.b .nil Ao (Aa (pv 2) Ab)))) Cu AK))) (Am (AC (pv 1))))),?_⟩;refine⟨_,U,U,_,_,U,U,Δ,Ψ,λl hl=>?_⟩;rw[show Txt.split b.txt (Str.ofString " ")=b.words from T7 g];have s1:Same H (Y H l (.lst (b.words.map V.str))):=Same.new hl;have G:(Y H l (.lst (b.words.map V.str))) l=some (.lst (b.words.map V.str)):=Ag;generalize Y H l (.lst (b.words.map V.str))=H1 at s1 G ⊢;obtain⟨j,rest,c⟩:∃j rest,b.words=j::rest:=by cases b <;> exact⟨_,_,U⟩
 have L:atI (b.words.map V.str) ((0:Nat):Int)=some (.str j):=AB (by rw[c];rfl);refine⟨_,U,l,_,_,_,U,U,SqL.of G,L,_,U,_,_,U,.inl ⟨_,SqL.of G,U⟩,by show 2<=sizeLine;decide,λp hp=>?_⟩;have s2:Same H1 (Y H1 p (.tup [.str j,.int ((b.words.map V.str).length:Nat)])):=Same.new hp;have B:(b.words.map V.str).length=b.words.length:=Ai ..;refine⟨.tuple [.str j,.int (b.words.length:Nat)],formsD,.tup (by rw[Ag,B]) (.cons (.str j) (.cons (.int _) .nil)),M.fv,?_,Δ,_,U,?_⟩
 ·cases b with
  | pl n=>cases c;exact(by decide +kernel:shaped (PyData.tuple [PyData.str "place",PyData.int ((2:Nat):Int)])=true)
  | bx n=>cases c;exact(by decide +kernel:shaped (PyData.tuple [PyData.str "box",PyData.int ((2:Nat):Int)])=true)
  | lk n k=>cases c;exact(by decide +kernel:shaped (PyData.tuple [PyData.str "box",PyData.int ((3:Nat):Int)])=true)
  | th n k=>cases c;exact(by decide +kernel:shaped (PyData.tuple [PyData.str "thing",PyData.int ((3:Nat):Int)])=true)
 have m:(formsD.any λe=>PyData.eqv e (.tuple [.str j,.int (b.words.length:Nat)]))=true:=by
  cases b with
  | pl n=>cases c;exact(by decide +kernel:(formsD.any λe=>PyData.eqv e (.tuple [.str "place",.int ((2:Nat):Int)]))=true)
  | bx n=>cases c;exact(by decide +kernel:(formsD.any λe=>PyData.eqv e (.tuple [.str "box",.int ((2:Nat):Int)]))=true)
  | lk n k=>cases c;exact(by decide +kernel:(formsD.any λe=>PyData.eqv e (.tuple [.str "box",.int ((3:Nat):Int)]))=true)
  | th n k=>cases c;exact(by decide +kernel:(formsD.any λe=>PyData.eqv e (.tuple [.str "thing",.int ((3:Nat):Int)]))=true)
 rw[m];refine BH ?_;have o:=s1.trans s2;generalize (Y H1 p (.tup [.str j,.int ((b.words.map V.str).length:Nat)]))=H2 at s2 o ⊢;have e2:=s2 _ _ G;refine⟨_,U,_,U,l,_,U,SqL.of e2,λz hz=>?_⟩;have s3:Same H2 (Y H2 z (.lst (BB (b.words.map V.str) (some 1) none))):=Same.new hz;have C:BB (b.words.map V.str) (some ((1:Nat):Int)) none=(b.words.drop 1).map V.str:=by unfold BB;rw[HT.sIx_none,HT.sIx_nat,B,c,Cy,L6 Ψ,Ot];refine Eo ?_;simp
 have I:(Y H2 z (.lst (BB (b.words.map V.str) (some 1) none))) z=some (.lst ((b.words.drop 1).map V.str)):=by rw[Ag];exact BQ (λx=>some (HO.lst x)) C
 generalize Y H2 z (.lst (BB (b.words.map V.str) (some 1) none))=H3 at s3 I ⊢
 have N:∀x∈b.words.drop 1,Nv x:=λx d=>by
  cases b with
  | pl n=>rw[AR.mp d];exact g
  | bx n=>rw[AR.mp d];exact g
  | lk n k=>
   rcases(Az.mp d)with e | e
   ·rw[e];exact g.1
   rw[AR.mp e];exact g.2
  | th n k=>
   rcases(Az.mp d)with e | e
   ·rw[e];exact g.1
   rw[AR.mp e];exact g.2
 refine⟨z,U,⟨_,SqL.of I⟩,DM (K:=K) (a:=z) (xs:=(b.words.drop 1).map V.str) (λi D u=>∃W:Option V,D = [some (.str b.txt),some (.ref l),W]/\Same H3 u) ⟨none,U,Same.refl _⟩ (λi D u _ S=>by obtain⟨_,_,s4⟩:=S;exact SqL.of (s4 _ _ I)) ?_ ?_⟩
 ·rintro i x D u d ⟨W,rfl,s4⟩;rw[AQ]at d;cases e:(b.words.drop 1)[i]? with
  | none=>rw[e]at d;cases d
  | some y=>rw[e]at d;cases d;refine⟨_,U,y,U,N y (Br e),λH5 s5=>⟨_,U,?_⟩⟩;refine BH ?_;exact⟨_,U,s4.trans s5⟩
 rintro D u ⟨W,rfl,s4⟩;have r:=s3.trans s4;exact⟨_,U,q l u (o.trans r) hl (r _ _ e2)⟩
def dJ (F:Fun K "read_rows" "read_rows" IL f fd)(DR:Df K mg "read_line" KH ["line"] fR fdR)(T:Bl mg)(GR:FnOk P w K mg base CX0 2 fR fdR ["line"] PL):FnOk P w K mg base CX0 3 f fd ["lines"] PD:=by
 refine F.oq scReadRows λcdv A outer s H vs Q E hr h=>?_;obtain⟨a,rs,rfl,S,g,a4,q⟩:=h;have a5:sizeLine=16777216:=AF;refine⟨_,Ah (Ez (i:=1) (N:=["line"]) (sc:=Aq IL) (own:=["line"]) (fr:=[]) (js:=[]) scReadRows.nd U U B0 U (BS (pv 0)) (λ_ _ _ _=>AS (i:=0) (show List.Nodup (["line"]:List Str) by decide +kernel)) (λ_ _ _ _=>Ck) (λ_ _ _ _=>Bc GR hr Φ DR.m DR.F.kp DR.b .nil Ao (Aa (pv 0) Ab))) (Ah (Ez (i:=2) (N:=["words"]) (sc:=Aq IL) (own:=["words"]) (fr:=[]) (js:=[]) scReadRows.nd U U B0 U (BS (pv 1)) (λ_ _ _ _=>AS (i:=0) (show List.Nodup (["words"]:List Str) by decide +kernel)) (λ_ _ _ _=>Ck) (λ_ _ _ _=>Av (LG K U) (pv 0) Ae (λ_ _=>U))) (Ah (AL (AM GB (AX Oh Φ T.len Bj (Aa (BK (Og U) Φ T.set LS (Aa (pv 2) Ab)) Ab)) (AX BI Φ T.len Bj (Aa (pv 2) Ab)) (AE _)) Cu AK) (Am (AC (pv 1))))),?_⟩;refine⟨_,U,a,U,⟨_,SqL.of S⟩,λD hD=>?_⟩
 refine Co (n:=rs.length) (λi ys v=>∃d:List Addr,ys=d.map V.ref/\RowsAt v (rs.take i) d/\(∀l∈d,l≠D)/\Same H v/\v D=some (.lst ys)) ⟨[],U,.nil,(λ_ z=>nomatch z),Same.new hD,Ag⟩
  (λi ys v m c=>by obtain⟨_,_,_,_,s2,_⟩:=c;exact⟨_,.str rs[i].txt,SqL.of (s2 _ _ S),by simp[m]⟩) (λys v c=>by obtain⟨_,_,_,_,s2,_⟩:=c;exact⟨_,SqL.of (s2 _ _ S),Θ⟩) ?_ ?_
 ·rintro i ys v x r m ⟨d,rfl,B,nD,s2,y⟩ ⟨rfl,hx⟩;refine Cn ?_;have p:=hx _ (SqL.of (s2 _ _ S));have G:x=.str rs[i].txt:=by rw[AQ,AQ,AJ m]at p;exact(BG p).symm
  subst G;refine⟨_,U,rs[i],U,g.nv _ (CI m),λl H4 s4 fl el=>?_⟩;have lD:l≠D:=(Au y fl).symm;have u:=B.length;rw[Bh]at u;refine⟨_,s4 _ _ y,by rw[Ai];lia,d++[l],Θ,?_,λz R=>?_,(s2.trans s4).put hD,Ag⟩
  ·rw[BL m];refine RowsAt.snoc (by rw[Af lD];exact el) (B.keep λb hb o e=>?_);rw[Af (nD b hb)];exact s4 _ _ e
  rcases(BF.mp R)with R | R
  ·exact nD z R
  rw[AR.mp R];exact lD
 rintro ys v ⟨d,rfl,B,nD,s2,y⟩;rw[Cd]at B;have u:=B.length;refine⟨_,U,D,U,⟨_,SqL.of y⟩,λD2 I=>?_⟩
 refine Co (n:=rs.length) (λi ys r=>ys=((rs.take i).map Ro.name).map V.str/\Same v r/\r D2=some (.lst ys)) ⟨U,Same.new I,Ag⟩
  (λi ys r m c=>by obtain⟨_,s3,_⟩:=c;exact⟨_,.ref (d[i]'Ψ),SqL.of (s3 _ _ y),by simp[show i<d.length by lia]⟩) (λys r c=>by obtain⟨_,s3,_⟩:=c;exact⟨_,SqL.of (s3 _ _ y),by simp;lia⟩) ?_ ?_
 ·rintro i ys r x H4 m ⟨rfl,s3,L⟩ ⟨rfl,hx⟩;refine Cn ?_;have p:=hx _ (SqL.of (s3 _ _ y));have M:i<d.length:=by lia
  rw[AQ,AJ M]at p;have G:x=.ref d[i]:=(BG p).symm;subst G;obtain⟨ro,h1,h2⟩:=B.get (AJ M);have X:atI (ro.words.map V.str) ((1:Nat):Int)=some (.str ro.name):=AB (by cases ro <;> rfl);refine⟨_,U,d[i],_,_,_,U,U,SqL.of (s3 _ _ h2),X,_,L,by rw[Ai,Ai,Bh];lia,?_,s3.put I,Ag⟩;have a0:rs[i]=ro:=(Ay.mp h1).2;rw[BL m,AW,AW,a0];rfl
 rintro ys r ⟨rfl,s3,L⟩;rw[Cd]at L;have ek:(rs.map Ro.name).map V.str=((rs.map Ro.name).map (Sum.inr:Str->Key)).map kV:=by rw[BD,BD,BD];rfl
 have a3:((rs.map Ro.name).map (Sum.inr:Str->Key)).length=rs.length:=by rw[Ai,Ai]
 refine⟨_,U,D2,(rs.map Ro.name).map Sum.inr,U,SqL.of (by rw[<- ek];exact L),Ψ,λst W=>?_⟩
 have a1:(SK.dd (Bx ((rs.map Ro.name).map (Sum.inr:Str->Key))) ((rs.map Ro.name).map (Sum.inr:Str->Key)).length).length=rs.length:=by
  rw[SK.dd_full (n:=rs.length) (λi j m hj e=>?_) _ Ψ,a3];have ei:Bx ((rs.map Ro.name).map (Sum.inr:Str->Key)) i=Sum.inr ((rs.map Ro.name)[i]'(by rw[Ai];exact m)):=by simp[Bx,List.getD,m]
  have ej:Bx ((rs.map Ro.name).map (Sum.inr:Str->Key)) j=Sum.inr ((rs.map Ro.name)[j]'(by rw[Ai];exact hj)):=by simp[Bx,List.getD,hj]
  rw[ei,ej]at e;exact(F3 g.nd).mp (C0 e)
 have s4:Same r (Y r st (Hj P w st (SK.dd (Bx ((rs.map Ro.name).map (Sum.inr:Str->Key))) ((rs.map Ro.name).map (Sum.inr:Str->Key)).length).length)):=Same.new W;refine⟨st,_,U,Ag,_,U,_,_,U,.inl ⟨_,SqL.of (s4 _ _ L),U⟩,_,_,U,U,_,U,?_⟩;rw[a1]at s4 ⊢;refine Bi (λa2=>?_) (λ_=>?_)
 ·exfalso;have:=Bf a2;rw[Ai,Ai]at this;lia
 have C:=s3.trans s4;exact⟨_,U,q D d _ (s2.trans C) (C _ _ y) (B.same C)⟩
def cY (F:Fun K "read_things" "read_things" Nb f fd)(T:Bl mg)(M:Md K mg aN aF):FnOk P w K mg base CX0 1 f fd ["rows"] PB:=by
 obtain⟨t1,m1⟩:=M.mt;refine F.oq scReadThings λcdv A outer s H vs Q E hr h=>?_;obtain⟨a,rs,L,rfl,ha,ra,g,q⟩:=h;have hu:=Cz hr;have a4:sizeLine=16777216:=AF;have a3:=g.fewT;have o:=ra.length;refine⟨_,Ah (AD (i:=1) scReadThings.nd FJ) (Ah (Cg CK U (BS (pv 0)) (AS (i:=2) scReadThings.nd) (Am (AL (AM Bt (Av Bb (pv 2) Ae (λ_ _=>U)) Aw (AE _)) (Am (DW hu (pv 1) (Av Bb (pv 2) Ae (λ_ _=>U)) (Av Bb (pv 2) Ae (λ_ _=>U)) U)) AK))) (Ah (AL (AM Fk (AX Oj Φ T.len Bj (Aa (pv 1) Ab)) (B7 (v:=.int 6) Φ m1 ⟨_,U⟩) (AE _)) Cu AK) (Am (AC (pv 1))))),?_⟩;intro d B;have s0:Same H (Y H d (.dK [])):=Same.new B;refine⟨_,U,a,U,⟨_,SqL.of (s0 _ _ ha)⟩,DM (K:=K) (a:=a) (xs:=L.map V.ref) (λi u e=>∃v2:Option V,u = [some (.ref a),some (.ref d),v2]/\Same H e/\e d=some (.dK (shK (rs.take i)))) ⟨none,U,s0,Ag⟩ (λi u e _ a2=>by obtain⟨_,_,s2,_⟩:=a2;exact SqL.of (s2 _ _ ha)) ?_ ?_⟩
 ·rintro i x u e p ⟨v2,rfl,s2,j⟩;rw[AQ]at p;cases el:L[i]? with
  | none=>rw[el]at p;cases p
  | some l=>
   rw[el]at p;cases p;obtain⟨ro,h1,h2⟩:=ra.get el;have hi:i<rs.length:=(Ay.mp h1).1;have G:rs[i]=ro:=(Ay.mp h1).2;have c:rs.take (i+1)=rs.take i++[ro]:=by rw[BL hi,G]
   have hw:=s2 _ _ h2;obtain⟨R,w1,rest,m⟩:∃R w1 rest,ro.words=R::w1::rest:=by cases ro <;> exact⟨_,_,_,U⟩
   have Be:atI (ro.words.map V.str) ((0:Nat):Int)=some (.str R):=AB (by rw[m];rfl);refine⟨_,U,l,_,_,_,U,U,SqL.of hw,Be,U,_,U,?_⟩;refine Bi (λI=>?_) (λI=>?_)
   ·have y:=V.str.inj (Bf I)
    obtain⟨n,D,rfl⟩:∃n s,ro=.th n s:=by
     cases ro with
     | th n s=>exact⟨n,s,U⟩
     | pl n=>cases m;exact absurd y Δ
     | bx n=>cases m;exact absurd y Δ
     | lk n k=>cases m;exact absurd y Δ
    have N:atI ((Ro.th n D).words.map V.str) ((1:Nat):Int)=some (.str n):=AB U;have a1:atI ((Ro.th n D).words.map V.str) ((2:Nat):Int)=some (.str D):=AB U
    have S:(shK (rs.take i)).length<=6:=by
     have:(ths rs).length=(ths (rs.take i)).length+(ths (rs.drop i)).length:=by rw[<- AG,<- Et,EO]
     unfold shK;rw[Ai];lia
    refine⟨_,U,l,_,_,_,U,U,SqL.of hw,a1,_,U,_,U,l,_,_,_,U,U,SqL.of hw,N,d,_,U,DPut.k (k:=(Sum.inr n:Key)) j Ψ,?_⟩
    have b:Ax (shK (rs.take i)) (Sum.inr n:Key)=none:=by
     have r:((rs.take (i+1)).map Ro.name).Nodup:=by rw[Ep];exact GU (F4 _ _) g.nd
     rw[c,AW]at r;cases hv:Ax (shK (rs.take i)) (Sum.inr n:Key)with
     | none=>rfl
     | some v=>exfalso;have W:=MA hv;unfold shK at W;rw[BD]at W;obtain⟨z,hz,ez⟩:=Ba.mp W;have C:z.1=n:=C0 ez;have X:n∈(rs.take i).map Ro.name:=Vj (Ba.mpr ⟨z,hz,C⟩);exact(Cr.mp r).2.2 n X n (AR.mpr U) U
    rw[Ef _ b];refine⟨_,U,s2.put B,?_⟩;rw[Ag,c];unfold shK;rw[Et,AW];rfl
   refine⟨_,U,s2,?_⟩
   have e3:ths (rs.take (i+1))=ths (rs.take i):=by
    rw[c,Et];cases ro with
    | th n s=>cases m;exact absurd (AU U) I
    | _=>exact Cc _
   unfold shK;rw[e3];exact j
 rintro u e ⟨v2,rfl,s2,j⟩;rw[show(L.map V.ref).length=rs.length by rw[Ai,o],Cd]at j;have S:(shK rs).length<=6:=by unfold shK;rw[Ai];lia
 refine⟨_,U,d,_,U,j,_,_,U,U,_,U,?_⟩;refine Bi (λa0=>?_) (λ_=>⟨_,U,q d e s2 B j⟩);exfalso;have:=Bf a0;lia
def eA (F:Fun K "read_places" "read_places" Nc f fd)(T:Bl mg)(M:Md K mg aN aF):FnOk P w K mg base CX0 1 f fd ["rows"] PF:=by
 obtain⟨t1,m1⟩:=M.mp;refine F.oq scReadPlaces λcdv A outer s H vs Q E hr h=>?_;obtain⟨a,rs,ls,rfl,ha,ra,g,q⟩:=h;have hu:=Cz hr;have ad:sizeLine=16777216:=AF;have ab:=g.fewP;have N:=ra.length;refine⟨_,Ah (AD (i:=1) scReadPlaces.nd FJ) (Ah (Cg CK U (BS (pv 0)) (AS (i:=2) scReadPlaces.nd) (Ah (AL (AM Bt (Av Bb (pv 2) Ae (λ_ _=>U)) Aw (AE _)) (Am (DW hu (pv 1) (Av Bb (pv 2) Ae (λ_ _=>U)) (Bm (Aa B8 (Aa Dc Ab))) U)) AK) (Am (AL (AM Bt (Av Bb (pv 2) Ae (λ_ _=>U)) Aw (AE _)) (Ah (AL (AM Bt (AX Oj Φ T.len Bj (Aa (pv 1) Ab)) Ae (AE _)) Cu AK) (Am (DW hu (pv 1) (Av Bb (pv 2) Ae (λ_ _=>U)) (Bm (Aa B8 (Aa (Jf (AM Bt (AX BI Φ T.len Bj (Aa (pv 2) Ab)) Ae (AE _)) (Av Bb (pv 2) Ae (λ_ _=>U)) Dc) Ab))) U))) AK)))) (Ah (AL (PW.pt (Ex (AM Bt (AX Oj Φ T.len Bj (Aa (pv 1) Ab)) Ae (AE _)) (Fg (AM Fk (AX Oj Φ T.len Bj (Aa (pv 1) Ab)) (B7 (v:=.int 6) Φ m1 ⟨_,U⟩) (AE _))))) Cu AK) (Am (AC (pv 1))))),?_⟩;intro d hd;have s0:Same H (Y H d (.dK [])):=Same.new hd;refine⟨_,U,a,U,⟨_,SqL.of (s0 _ _ ha)⟩,DM (K:=K) (a:=a) (xs:=ls.map V.ref) (λi σ c=>∃(v2:Option V) (kvs:List (Key×V)),σ = [some (.ref a),some (.ref d),v2]/\Same H c/\c d=some (.dK kvs)/\PlOk c (plc (rs.take i)) kvs) ⟨none,[],U,s0,Ag,.nil⟩ (λi σ c _ a4=>by obtain⟨_,_,_,s2,_⟩:=a4;exact SqL.of (s2 _ _ ha)) ?_ ?_⟩
 ·rintro i x σ c S ⟨v2,kvs,rfl,s2,r,j⟩;rw[AQ]at S;cases el:ls[i]? with
  | none=>rw[el]at S;cases S
  | some l=>
   rw[el]at S;cases S;obtain⟨ro,h1,h2⟩:=ra.get el;have hi:i<rs.length:=(Ay.mp h1).1;have R:rs[i]=ro:=(Ay.mp h1).2;have D:rs.take (i+1)=rs.take i++[ro]:=by rw[BL hi,R]
   have a5:rs=rs.take i++ro::rs.drop (i+1):=by rw[<- R,List.getElem_cons_drop,EO]
   have B:=s2 _ _ h2;obtain⟨w0,rest,u⟩:∃w0 rest,ro.words=w0::ro.name::rest:=by cases ro <;> exact⟨_,_,U⟩
   have Be:atI (ro.words.map V.str) ((0:Nat):Int)=some (.str w0):=AB (by rw[u];rfl);have C:atI (ro.words.map V.str) ((1:Nat):Int)=some (.str ro.name):=AB (by rw[u];rfl);have a7:=j.length
   have a9:(plc (rs.take i)).length<=6:=by
    have:(plc rs).length=(plc (rs.take i)).length+(plc (rs.drop i)).length:=by rw[<- AG,<- Fh,EO]
    lia
   have o:Ax kvs (Sum.inr ro.name:Key)=none:=by
    refine j.none λz=>?_;have X:((rs.take (i+1)).map Ro.name).Nodup:=by rw[Ep];exact GU (F4 _ _) g.nd
    rw[D,AW]at X;exact(Cr.mp X).2.2 _ (EF z) ro.name (AR.mpr U) U
   have put:∀(p:Str×Bool×Option Str) (tp:Addr) (H3:Hp),plc [ro]=[p]->p.1=ro.name->c tp=none->H3=Y c tp (.tup [.bl p.2.1,E1 p.2.2])->Same H (Y H3 d (.dK (kvs++[(Sum.inr ro.name,.ref tp)]))) /\
     PlOk (Y H3 d (.dK (kvs++[(Sum.inr ro.name,.ref tp)]))) (plc (rs.take (i+1))) (kvs++[(Sum.inr ro.name,.ref tp)]):=λp tp H3 ep en ht e3=>by
    subst e3
    have dt:d≠tp:=Au r ht
    have s3:Same c (Y c tp (.tup [.bl p.2.1,E1 p.2.2])):=Same.new ht
    refine⟨(s2.trans s3).put hd,?_⟩
    rw[D,Fh,ep,<- en]
    refine PlOk.snoc (by rw[Af dt.symm];exact Ag) (j.same λb xs e=>?_)
    rw[Af (A8 e r (by intro z;cases z))]
    exact s3 _ _ e
   refine⟨_,U,l,_,_,_,U,U,SqL.of B,Be,U,_,U,?_⟩;refine Bi (λhe=>?_) (λhe=>?_)
   ·have I:=V.str.inj (Bf he)
    obtain⟨n,rfl⟩:∃n,ro=.pl n:=by
     cases ro with
     | pl n=>exact⟨n,U⟩
     | th n s=>cases u;exact absurd I Δ
     | bx n=>cases u;exact absurd I Δ
     | lk n k=>cases u;exact absurd I Δ
    refine⟨by show 2<=sizeLine;decide,λtp m=>?_⟩;have s3:Same c (Y c tp (.tup [.bl false,.non])):=Same.new m;obtain⟨L,W⟩:=put (n,false,none) tp _ U U m U;refine⟨_,U,_,U,l,_,_,_,U,U,SqL.of (s3 _ _ B),C,d,_,U,DPut.k (k:=(Sum.inr (Ro.pl n).name:Key)) (s3 _ _ r) Ψ,?_⟩;rw[Ef _ o];have aa:=L;have ld:l≠d:=A8 B r (by intro z;cases z);have a1:(Y (Y c tp (.tup [.bl false,.non])) d (.dK (kvs++[(Sum.inr (Ro.pl n).name,.ref tp)]))) l=some (.lst ((Ro.pl n).words.map V.str)):=by rw[Af ld];exact s3 _ _ B
    refine⟨_,U,l,_,_,_,U,U,SqL.of a1,Be,U,_,U,?_⟩;refine Bi (λG=>?_) (λ_=>⟨_,_,U,L,Ag,W⟩);exfalso;cases u;exact absurd (V.str.inj (Bf G)) Δ
   refine⟨_,U,l,_,_,_,U,U,SqL.of B,Be,U,_,U,?_⟩;refine Bi (λG=>?_) (λG=>?_)
   ·have I:=V.str.inj (Bf G)
    have y:ro.boxed=true:=by
     cases ro with
     | pl n=>cases u;exact absurd I Δ
     | th n s=>cases u;exact absurd I Δ
     | bx n=>rfl
     | lk n k=>rfl
    have a6:=g.floor a5 y;refine⟨_,U,d,_,U,r,U,_,U,?_⟩;refine Bi (λhz=>?_) (λ_=>?_)
    ·exfalso;have:=V.int.inj (Bf hz);exact a6 (Sg.mp Ψ)
    have ac:(ro.words.map V.str).length=ro.words.length:=Ai ..;refine⟨_,U,_,_,U,.inl ⟨_,SqL.of B,U⟩,U,_,U,?_⟩;refine Bi (λh3=>?_) (λh3=>?_)
    ·obtain⟨n,k,rfl⟩:∃n k,ro=.lk n k:=by
      cases ro with
      | lk n k=>exact⟨n,k,U⟩
      | bx n=>exact absurd (show((2:Nat):Int)=3 from V.int.inj (Bf h3)) Ξ
      | pl n=>cases y
      | th n s=>cases y
     have a3:atI ((Ro.lk n k).words.map V.str) ((2:Nat):Int)=some (.str k):=AB U;refine⟨_,U,l,_,_,_,U,U,SqL.of B,a3,by show 2<=sizeLine;decide,λtp m=>?_⟩;have s3:Same c (Y c tp (.tup [.bl true,.str k])):=Same.new m;obtain⟨L,W⟩:=put (n,true,some k) tp _ U U m U;refine⟨_,U,_,U,l,_,_,_,U,U,SqL.of (s3 _ _ B),C,d,_,U,DPut.k (k:=(Sum.inr (Ro.lk n k).name:Key)) (s3 _ _ r) Ψ,?_⟩;rw[Ef _ o];exact⟨_,_,U,L,Ag,W⟩
    obtain⟨n,rfl⟩:∃n,ro=.bx n:=by
     cases ro with
     | bx n=>exact⟨n,U⟩
     | lk n k=>exact absurd Φ h3
     | pl n=>cases y
     | th n s=>cases y
    refine⟨by show 2<=sizeLine;decide,λtp m=>?_⟩;have s3:Same c (Y c tp (.tup [.bl true,.non])):=Same.new m;obtain⟨L,W⟩:=put (n,true,none) tp _ U U m U;refine⟨_,U,_,U,l,_,_,_,U,U,SqL.of (s3 _ _ B),C,d,_,U,DPut.k (k:=(Sum.inr (Ro.bx n).name:Key)) (s3 _ _ r) Ψ,?_⟩;rw[Ef _ o];exact⟨_,_,U,L,Ag,W⟩
   refine⟨_,kvs,U,s2,r,?_⟩
   have:plc (rs.take (i+1))=plc (rs.take i):=by
    rw[D,Fh];cases ro with
    | th n s=>exact Cc _
    | pl n=>cases u;exact absurd (AU U) he
    | bx n=>cases u;exact absurd (AU U) G
    | lk n k=>cases u;exact absurd (AU U) G
   rw[this];exact j
 rintro σ c ⟨v2,kvs,rfl,s2,r,j⟩;rw[show(ls.map V.ref).length=rs.length by rw[Ai,N],Cd]at j;have a7:=j.length;obtain⟨n,t,a0⟩:=g.first;have a8:0<(plc rs).length:=by rw[a0];exact Nat.zero_lt_succ _
 refine⟨_,U,d,_,U,r,U,_,U,?_⟩;refine Bi (λhz=>?_) (λ_=>?_)
 ·exfalso;have:=V.int.inj (Bf hz);lia
 refine⟨_,U,d,_,U,r,_,_,U,U,_,U,?_⟩;refine Bi (λa2=>?_) (λ_=>⟨_,U,q d kvs c s2 hd r j⟩);exfalso;have:=Bf a2;lia
def gY (F:Fun K "check_keys" "check_keys" Ny f fd):FnOk P w K mg base CX0 1 f fd ["places", "shapes"] Qh:=by
 refine F.oq scCheckKeys λcdv A outer s H vs Q E hr h=>?_;obtain⟨c,S,rs,kvs,rfl,j,B,h2,ne,g,q⟩:=h;have X:=Cz hr;refine⟨_,Am (Cg CK U (bU (QV Ml PySem.F.slot_dict_values PySem.F.type_dict_values kS (pv 0))) (AS (i:=2) scCheckKeys.nd) (Ah (AD (i:=3) scCheckKeys.nd (Av Bu (pv 2) Ae (λ_ _=>U))) (Am (AL (PW.pt (UO (AM NY (pv 3) Dc (AE _)) (UN (Hr (NS X (pv 3) (pv 1)))))) Cu AK)))),?_⟩;refine⟨_,U,.inr (.inr (.inl ⟨U,.inl ⟨_,j⟩⟩)),c,kvs,U,U,j,λv R=>?_⟩;have v1:c≠v:=Au j R;refine⟨v,c,kvs,U,Ag,by rw[Af v1];exact j,λo=>?_⟩;have n:∀b u,H b=some u->b≠c->(Y (Y H v (Iu v c)) c (.frz o (.dK kvs))) b=some u:=λb u e T=>by rw[Af T,Af (Au e R)];exact e
 have L:(Y (Y H v (Iu v c)) c (.frz o (.dK kvs))) c=some (.frz o (.dK kvs)):=Ag;generalize (Y (Y H v (Iu v c)) c (.frz o (.dK kvs)))=H2 at n L ⊢;have I:=n _ _ h2 ne.symm;have C:PlOk H2 (plc rs) kvs:=B.same λb xs e=>n _ _ e (A8 e j (by intro z;cases z));refine pQ (a:=c) (o:=o) (kvs:=kvs) (λ_ m l=>∃N D:Option V,m = [some (.ref c),some (.ref S),N,D]/\l=H2) ⟨none,none,U,U⟩ (λi m l _ M=>by obtain⟨_,_,_,e⟩:=M;rw[e];exact L) ?_ ?_
 ·rintro i k x m l hx ⟨N,D,rfl,rfl⟩;obtain⟨p,t,hp,rfl,ht⟩:=C.get hx;have r:p∈plc rs:=Br hp;have G:atI [V.bl p.2.1,E1 p.2.2] ((1:Nat):Int)=some (E1 p.2.2):=AB U;refine⟨_,U,t,_,_,_,U,U,SqT.of ht,G,?_⟩;cases hk:p.2.2 with
  | none=>refine⟨_,U,U,_,U,?_⟩;refine BH ?_;exact BH ⟨_,_,U,U⟩
  | some key=>
   refine⟨_,U,U,_,U,?_⟩;refine BA ?_;refine⟨_,U,_,U,S,_,U,DGet.k (k:=(Sum.inr key:Key)) I,_,U,?_⟩;have d:=g.keys p r key hk;obtain⟨y,hy,W⟩:=Ba.mp d;have hs:(Ax (shK rs) (Sum.inr key:Key)).isSome=true:=by rw[<- Gc,J1];exact⟨(Sum.inr y.1,.str y.2),Ba.mpr ⟨y,hy,U⟩,AU (by rw[W])⟩
   rw[hs];exact BH ⟨_,_,U,U⟩
 rintro m l ⟨N,D,rfl,rfl⟩;exact q o _ n L
def gB (F:Fun K "__init__" "Room.__init__" QC f fd)(L:Cl K C)(M:Df K mg "read_rows" IL ["lines"] fR dR)(D:Df K mg "read_places" Nc ["rows"] fP dP)(B:Df K mg "read_things" Nb ["rows"] fT dT)(R:Df K mg "check_keys" Ny ["places", "shapes"] fK dK)
  (GR:FnOk P w K mg base CX0 3 fR dR ["lines"] PD)(GP:FnOk P w K mg base CX0 1 fP dP ["rows"] PF)(GT:FnOk P w K mg base CX0 1 fT dT ["rows"] PB)(GK:FnOk P w K mg base CX0 1 fK dK ["places", "shapes"] Qh):FnOk P w K mg base CX0 4 f fd ["self", "lines"] (MZ C):=by
 refine F.oq scInit λcdv A outer s H vs Q E hr h=>?_
 obtain⟨x,v,a,rs,rfl,S,ha,g,G,q⟩:=h
 have c:Room 1 _:=hr.mono Ξ
 refine⟨_,Ah (AD (i:=2) scInit.nd (Bc GR hr Φ M.m M.F.kp M.b .nil Ao (Aa (pv 1) Ab))) (Ah (AD (i:=3) scInit.nd (Bc GP c Φ D.m D.F.kp D.b .nil Ao (Aa (pv 2) Ab))) (Ah (AD (i:=4) scInit.nd (Bc GT c Φ B.m B.F.kp B.b .nil Ao (Aa (pv 2) Ab))) (Ah (BY (Bc GK c Φ R.m R.F.kp R.b .nil Ao (Aa (pv 3) (Aa (pv 4) Ab)))) (Ah (EY (pv 0) (pv 3) U) (Am (EY (pv 0) (pv 4) U)))))),?_⟩
 refine⟨_,U,a,rs,U,ha,g,G,λl ls H1 r el W=>?_⟩
 refine⟨_,U,l,rs,ls,U,el,W,g,λd1 kvs H2 s2 f1 I j=>?_⟩
 refine⟨_,U,l,rs,ls,U,s2 _ _ el,W.same s2,g,λd2 H3 s3 f2 X=>?_⟩
 have d:d1≠d2:=Au I f2
 refine⟨_,U,_,U,d1,d2,rs,kvs,U,s3 _ _ I,j.same (λb xs e=>s3 _ _ e),X,d,g,λo H4 p e4=>?_⟩
 have m:=(r.trans s2).trans s3
 have n:=m _ _ S
 have T:x≠d1:=λz=>by have:=r _ _ S;rw[z,f1]at this;cases this
 have x2:x≠d2:=λz=>by have:=(r.trans s2) _ _ S;rw[z,f2]at this;cases this
 have N:=p _ _ n T
 refine⟨_,U,_,U,x,C,v,[],U,N,L.cl,L.nP,(by show 0<1000;decide),?_⟩
 refine⟨_,U,_,U,x,C,v,_,U,Ag,L.cl,L.nS,(by show 1<1000;decide),?_⟩
 rw[X5]
 have all:∀b u,H4 b=some u->b≠x->(Y H4 x (.ins C v (Gp d1 d2))) b=some u:=λb u e y=>by rw[Af y];exact e
 refine q _ (λb u e y=>all b u (p b u (m _ _ e) ?_) y) ⟨v,d1,d2,o,kvs,Ag,all _ _ e4 T.symm,?_,all _ _ (p _ _ X d.symm) x2.symm⟩
 ·intro z;have:=r _ _ e;rw[z,f1]at this;cases this
 refine j.same λb xs e=>all _ _ (p _ _ (s3 _ _ e) (A8 e I (by intro z;cases z))) ?_
 exact A8 (s3 _ _ e) n (by intro z;cases z)
def eC (F:Fun K "places" "Room.places" Qy f fd)(L:Cl K C)(T:Bl mg):FnOk P w K mg base CX0 1 f fd ["self"] (Hf C):=by refine F.oq Zp ?_;rintro cdv A outer s H vs Q E i⟨x,rs,rfl,R,q⟩;obtain⟨d,a,c,o,kvs,g,e,h,j⟩:=R.ex;refine⟨_,Am (AC (BK (rX U) Φ T.list Dh (Aa (Fi (pv 0) U) Ab))),_,U,x,C,d,_,_,U,g,L.cl,L.nP,NG a c,a,kvs,U,.inr ⟨o,e⟩,λl b=>?_⟩;exact q l _ (Same.new b) b (by rw[Ag,h.keys])
def Uv (b a:Addr):(Gp b a).lookup ("told_shapes" : Str)=some (.ref a):=by unfold Gp;rw[CF,Ar rfl]
abbrev Bo:=Str×Bool×Option Str
def PlOk.find :∀{ps:List Bo}{kvs:List (Key×V)},PlOk H ps kvs->(ps.map (·.1)).Nodup->p∈ps->∃t,Ax kvs (Sum.inr p.1:Key)=some (.ref t)/\H t=some (.tup [.bl p.2.1,E1 p.2.2]):=by
 intro r c i nd h;induction i with
 | nil=>exact nomatch h
 | cons e b j=>
  obtain⟨e,t,d,f⟩:=e;rcases(Az.mp h)with z | z
  ·subst z;exact⟨t,by rw[Ct e,d],f⟩
  have a:=B6.mp (show((_::_:List Str)).Nodup from nd);rw[Bp (λq=>a.1 (by rw[e]at q;exact Ba.mpr ⟨p,z,(C0 q).symm⟩))];exact j a.2 z
theorem Ue :∀{l:List (Str×Str)},(l.map (·.1)).Nodup->x∈l->Ax (l.map λy=>((Sum.inr y.1:Key),V.str y.2)) (Sum.inr x.1:Key)=some (.str x.2)
 | y::l,nd,h=>by
  have a:=B6.mp (show((_::_:List Str)).Nodup from nd);rcases(Az.mp h)with z | z
  ·subst z;exact Ct U
  rw[Bg,Bp (λq=>a.1 (Ba.mpr ⟨x,z,(C0 q).symm⟩))];exact Ue a.2 z
theorem NJ :∀{xs:List V}{ys:List Str},RdVs H xs (ys.map PyData.str)->xs=ys.map V.str
 | [],[],_=>rfl
 | _::_,[],h=>by cases h
 | [],_::_,h=>by cases h
 | x::xs,y::ys,h=>by
  cases h with
  | cons a b=>cases a;rw[NJ b];rfl
def RQ {ps:List Str}(nd:ps.Nodup){i:Nat}{x:Str}(h:ps[i]? = some x):∀m,m<i->ps[m]?≠some x:=λm f e=>by obtain⟨d,b⟩:=Ay.mp h;obtain⟨c,a⟩:=Ay.mp e;have:=(F3 nd).mp (a.trans b.symm);lia
def oK {H:Hp}{xs:List V}{c:List (List Str)}(r:RdVs H xs (c.map dH)){i:Nat}{b:List Str}(h:c[i]? = some b):∃t,xs[i]? = some (.ref t)/\H t=some (.tup (b.map V.str)):=by
 have g:=r.length;rw[Ai]at g;have j:=(Ay.mp h).1;obtain⟨y,f⟩:∃y,xs[i]? = some y:=⟨xs[i],AJ Ψ⟩;obtain⟨d,e,rd⟩:=r.get f;rw[AQ,h]at e;have a:=BG e;subst a;cases rd with
 | tup eh rh=>rw[NJ rh]at eh;exact⟨_,f,eh⟩
def Ob (h:RdV H v (dO o)):v=oV o:=by
 cases o with
 | none=>cases h;rfl
 | some x=>cases h;rfl
inductive IG (C:Addr)(vs:List V)(H:Hp)(Q:VK)(E0_:XK):Prop
 | mk (x:Addr) (rs:List Ro) (v:V) (W:Wl) (i:Nat) (p:Bo) (hp:List Str) (c0:vs=[.ref x,v,.str p.1]) (c1:RoomAt C H x rs) (c2:Good rs) (c3:RdV H v (dW W)) (c4:(plc rs)[i]? = some p) (c5:W.heaps[i]? = some hp) (c6:∀(t:Addr) (H':Hp),Same H H'->H t=some (.tup (hp.map V.str))->Q (.ref t) H'):IG C vs H Q E0_
inductive Hg (C:Addr)(vs:List V)(H:Hp)(Q:VK)(E0_:XK):Prop
 | mk (x:Addr) (rs:List Ro) (v:V) (W:Wl) (i:Nat) (p:Bo) (l:Str) (c0:vs=[.ref x,v,.str p.1]) (c1:RoomAt C H x rs) (c2:Good rs) (c3:RdV H v (dW W)) (c4:(plc rs)[i]? = some p) (c5:W.lids[i]? = some l) (c6:∀H':Hp,Same H H'->Q (.str l) H'):Hg C vs H Q E0_
abbrev EZ:List Str:=["room", "world", "place"]
abbrev jU:List Str:=EZ
def ZD:AI jU EZ (Aq Hn):=AO
abbrev ED:List Str:=["room", "world", "place"]
abbrev jH:List Str:=ED
def Zu:AI jH ED (Aq Gh):=AO
inductive MV (C:Addr)(vs:List V)(H:Hp)(Q:VK)(E0_:XK):Prop
 | mk (x:Addr) (rs:List Ro) (p:Bo) (c0:vs=[.ref x,.str p.1]) (c1:RoomAt C H x rs) (c2:Good rs) (c3:p∈plc rs) (c4:∀t:Addr,H t=some (.tup [.bl p.2.1,E1 p.2.2])->Q (.ref t) H):MV C vs H Q E0_
def Zv:AI ["self", "place"] ["self", "place"] (Aq QA):=AO
inductive MU (C:Addr)(vs:List V)(H:Hp)(Q:VK)(E0_:XK):Prop
 | mk (x:Addr) (rs:List Ro) (p:Bo) (c0:vs=[.ref x,.str p.1]) (c1:RoomAt C H x rs) (c2:Good rs) (c3:p∈plc rs) (c4:Q (.bl p.2.1) H):MU C vs H Q E0_
def Zt:AI ["self", "place"] ["self", "place"] (Aq Qz):=AO
inductive P4 (C:Addr)(vs:List V)(H:Hp)(Q:VK)(E0_:XK):Prop
 | mk (x:Addr) (rs:List Ro) (p:Bo) (c0:vs=[.ref x,.str p.1]) (c1:RoomAt C H x rs) (c2:Good rs) (c3:p∈plc rs) (c4:Q (E1 p.2.2) H):P4 C vs H Q E0_
def Zw:AI ["self", "place"] ["self", "place"] (Aq QB):=AO
theorem JD {a:Type}{g:a->PyData}:∀{xs:List a},(∀x∈xs,(g x).canLay0=true)->PyData.canLayAll0 (xs.map g)=true
 | [],_=>by rw[Eb,PyData.canLayAll0]
 | x::xs,h=>by rw[Bg,PyData.canLayAll0,h x A9,JD λy b=>h y (AY _ b)];rfl
theorem LN {a:Type}{g:a->PyData}{n:Nat}:∀{xs:List a},(∀x∈xs,(g x).depth<=n)->PyData.depthAll (xs.map g)<=n
 | [],_=>by rw[Eb,PyData.depthAll];exact Bn _
 | x::xs,h=>by have c:=h x A9;have d:=LN λy b=>h y (AY _ b);rw[Bg,PyData.depthAll];lia
def Rc (h:strOk x=true):(PyData.str x).canLay0=true:=by rw[PyData.canLay0];exact h
def mF (h:∀x∈xs,strOk x=true):(dH xs).canLay0=true:=by unfold dH;rw[PyData.canLay0];exact JD λx a=>Rc (h x a)
def Wp (xs:List Str):PyData.depthAll (xs.map PyData.str)<=0:=LN λx _=>by rw[PyData.depth];exact An 0
def qW (xs:List Str):(dH xs).depth<=1:=by unfold dH;rw[PyData.depth];have:=Wp xs;lia
def Qs (b:d.canLay0=true)(a:d.depth<=64):shaped d=true:=by unfold shaped;rw[b,AU a];rfl
def Qt (h:Ok W):shaped (dW W)=true:=by
 have e:(dO W.hand).canLay0=true:=by
  cases hh:W.hand with
  | none=>decide +kernel
  | some x=>exact Rc (h.hand x hh).1
 have f:(dO W.hand).depth<=0:=by
  cases W.hand with
  | none=>rw[dO,PyData.depth];exact An 0
  | some x=>rw[dO,PyData.depth];exact An 0
 have b:=JD (g:=dH) (xs:=W.heaps) λx a=>mF λy c=>(h.heaps x a y c).1;have i:=LN (g:=dH) (n:=1) (xs:=W.heaps) λx _=>qW x;have d:=JD (g:=PyData.str) (xs:=W.lids) λx a=>Rc (h.lids x a).1;have j:=Wp W.lids;refine Qs ?_ ?_
 ·unfold dW;rw[PyData.canLay0,PyData.canLayAll0,PyData.canLayAll0,PyData.canLayAll0,PyData.canLayAll0,e,PyData.canLay0,b,PyData.canLay0,d];rfl
 unfold dW;rw[PyData.depth,PyData.depthAll,PyData.depthAll,PyData.depthAll,PyData.depthAll,PyData.depth,PyData.depth];lia
def placesK:List (Key×V):=[(Sum.inr "take",.int 1),(Sum.inr "put",.int 1),(Sum.inr "toss",.int 1),(Sum.inr "open",.int 1),(Sum.inr "shut",.int 1),(Sum.inr "lock",.int 1),(Sum.inr "unlock",.int 1),(Sum.inr "tip",.int 2),(Sum.inr "shake",.int 1)]
structure Dd (P:Program)(w:World)(K:W.Frag)(mg:Str->Option Value)(aP:Addr):Prop where
 pm:mg "PLACES" = some (.ref aP)
 pd:KD P w K aP placesK
def CC (a:Str):V:=(Ax placesK (Sum.inr a:Key)).getD .non
def XZ {k:Key} (h:Ax kvs k=some v):∃c∈kvs,c.2=v:=by
 induction kvs with
 | nil=>cases h
 | cons p r ih=>
  by_cases e:p.1=k
  ·rw[Ct e]at h;exact⟨p,A9,BG h⟩
  rw[Bp e]at h;obtain⟨c,a,b⟩:=ih h;exact⟨c,AY _ a,b⟩
def QO (a:Str):CC a=.non\/CC a=.int 1\/CC a=.int 2:=by
 unfold CC;cases h:Ax placesK (Sum.inr a:Key)with
 | none=>exact .inl U
 | some v=>obtain⟨b,c,e⟩:=XZ h;have:=(by decide +kernel:∀b∈placesK,b.2=V.int 1\/b.2=V.int 2) b c;rw[e]at this;exact .inr this
def sF:bootBuiltins "ValueError" = some (.type "ValueError"):=by decide +kernel
def X7:typeOf (.type "ValueError")=pure (.type "type"):=by kernel_rfl
def Rp (x:Str):Prop:=(reprText x).length<=100000
structure Wd (line:Str)(ws:List Str):Prop where
 e:line=Txt.join blank ws
 ne:ws≠[]
 nb:∀w∈ws,32∉cs w
def Wd.split (h:Wd line ws):Txt.split line blank=ws:=by rw[h.e];exact Pu h.ne h.nb
def JL (rs:List Ro)(a:Str)(ps:List Str):Bool:=decide (CC a=V.int (ps.length:Int)) && ((ps.all λp=>decide (p∈(plc rs).map (·.1))) && decide ps.Nodup)
abbrev Hz:List Str:=["room", "line"]
abbrev iX:List Str:=Cj Hz ["words", "places"]
def scReadDeed:AI iX Hz (Aq Hk):=AO
inductive Ky (vs:List V)(H:Hp)(Q:VK)(E0_:XK):Prop
 | mk (v:V) (W:Wl) (c0:vs=[v]) (c1:RdV H v (dW W)) (c2:Q (.bl W.hand.isNone) H):Ky  vs H Q E0_
abbrev FK:List Str:=["world"]
abbrev jS:List Str:=FK
def ZA:AI jS FK (Aq IQ):=AO
inductive KB (C:Addr)(vs:List V)(H:Hp)(Q:VK)(E0_:XK):Prop
 | mk (x:Addr) (rs:List Ro) (e:Addr) (xs:List V) (i:Nat) (p:Bo) (y:V) (c0:vs=[.ref x,.ref e,.str p.1,y]) (c1:RoomAt C H x rs) (c2:Good rs) (c3:H e=some (.tup xs)) (c4:i<xs.length) (c5:xs.length<=100) (c6:(plc rs)[i]? = some p) (c7:∀(t:Addr) (H':Hp),Same H H'->H' t=some (.tup (xs.set i y))->Q (.ref t) H'):KB C vs H Q E0_
abbrev Gy:List Str:=["room", "entries", "place", "entry"]
abbrev kM:List Str:=Cj Gy ["spot"]
def scChanged:AI kM Gy (Aq IZ):=AO
def Uo (n d:Nat):HT.sIx n d (some (-1))=n-1:=by show(if (-1:Int)<0 then((-1:Int)+(n:Int)).toNat else min (-1:Int).toNat n)=n-1;rw[Ar Ξ];lia
structure Pt (rs:List Ro)(W:Wl)(i:Nat)(p:Bo)(hp:List Str)(l:Str):Prop where
 pl:(plc rs)[i]? = some p
 he:W.heaps[i]? = some hp
 li:W.lids[i]? = some l
 few:W.heaps.length<=100
 len:hp.length<=100
def Pt.of (g:Good rs)(d:Fw rs W)(sz:Sz W (plc rs).length)(h:i<(plc rs).length):∃p c l,Pt rs W i p c l:=by
 have a:i<W.heaps.length:=by have:=sz.1;lia
 have b:i<W.lids.length:=by have:=sz.2;lia
 have e:=g.fewP;exact⟨_,_,_,AJ h,AJ a,AJ b,by have:=sz.1;lia,(d.ok g sz).few _ (CI a)⟩
inductive MY (C:Addr)(vs:List V)(H:Hp)(Q:VK)(E0_:XK):Prop
 | mk (x:Addr) (rs:List Ro) (v:V) (W:Wl) (i:Nat) (p:Bo) (l:Str) (c0:vs=[.ref x,v,.str p.1]) (c1:RoomAt C H x rs) (c2:Good rs) (c3:RdV H v (dW W)) (c4:(plc rs)[i]? = some p) (c5:W.lids[i]? = some l) (c6:∀H':Hp,Same H H'->Q (.bl (decide (l = "open"))) H'):MY C vs H Q E0_
abbrev HK:List Str:=["room", "world", "place"]
abbrev jQ:List Str:=HK
def Zx:AI jQ HK (Aq KP):=AO
theorem NK :∀{xs:List V}{ds:List PyData}(i:Nat) {x:V}{d:PyData},RdVs H xs ds->RdV H x d->RdVs H (xs.set i x) (ds.set i d)
 | _,_,_,_,_,.nil,_=>.nil
 | _,_,0,_,_,.cons _ b,r=>.cons r b
 | _,_,i+1,_,_,.cons a b,r=>.cons a (NK i b r)
def Eu (W:Wl)(i:Nat)(hp:List Str)(l:Str):List Wl:=if W.hand=none/\l = "open" /\ hp≠[]then [⟨hp.getLast?,W.heaps.set i hp.dropLast,W.lids⟩]else []
def HQ (t1 t2 t3 t4:Addr):List (Key×V):=[(Sum.inr "open",.ref t1),(Sum.inr "shut",.ref t2),(Sum.inr "lock",.ref t3),(Sum.inr "unlock",.ref t4)]
structure Dl (P:Program)(w:World)(K:W.Frag)(mg:Str->Option Value)(aL t1 t2 t3 t4:Addr):Prop where
 lm:mg "LIDS" = some (.ref aL)
 ld:KD P w K aL (HQ t1 t2 t3 t4)
 k1:∀H:Hp,SqT K H t1 [V.str "shut",V.str "open"]
 k2:∀H:Hp,SqT K H t2 [V.str "open",V.str "shut"]
 k3:∀H:Hp,SqT K H t3 [V.str "shut",V.str "locked"]
 k4:∀H:Hp,SqT K H t4 [V.str "locked",V.str "shut"]
def EG:List Str:=["open", "shut", "lock", "unlock"]
def JN (w:Str):Str:=if w = "shut" then "open" else if w = "unlock" then "locked" else "shut"
def GO (w:Str):Str:=if w = "open" then "open" else if w = "lock" then "locked" else "shut"
def Vm {w:Str}(h:w∈EG):w = "open" \/ w = "shut" \/ w = "lock" \/ w = "unlock" := by simpa only [EG,Az,Bw,Bv] using h
def Dl.got (D:Dl P w K mg aL t1 t2 t3 t4) (h:x∈EG):∃t,Ax (HQ t1 t2 t3 t4) (Sum.inr x:Key)=some (.ref t)/\∀H:Hp,SqT K H t [V.str (JN x),V.str (GO x)]:=by
 unfold HQ;rcases Vm h with e | e | e | e
 ·subst e;exact⟨t1,Ct U,D.k1⟩
 ·subst e;exact⟨t2,by rw[Bp (BX Δ),Ct rfl],D.k2⟩
 ·subst e;exact⟨t3,by rw[Bp (BX Δ),Bp (BX Δ),Ct rfl],D.k3⟩
 subst e;exact⟨t4,by rw[Bp (BX Δ),Bp (BX Δ),Bp (BX Δ),Ct rfl],D.k4⟩
def LK (W:Wl)(p:Bo)(w:Str):Bool:=if w∈(["lock", "unlock"]:List Str)then W.hand.isSome && decide (oV W.hand=E1 p.2.2)else W.hand.isNone && p.2.1
def Fo (w:Str)(p:Bo)(W:Wl)(i:Nat)(l:Str):List Wl:=if l=JN w/\LK W p w=true then [⟨W.hand,W.heaps,W.lids.set i (GO w)⟩]else []
inductive MP (C:Addr)(vs:List V)(H:Hp)(Q:VK)(E0_:XK):Prop
 | mk (x:Addr) (rs:List Ro) (line a:Str) (ps:List Str) (c0:vs=[.ref x,.str line]) (c1:RoomAt C H x rs) (c2:Wd line (a::ps)) (c3:line.length<=1000) (c4:ps.length<=100) (c5:JL rs a ps=true) (c6:∀(l:Addr) (H':Hp),Same H H'->H' l=some (.lst ((a::ps).map V.str))->Q (.ref l) H'):MP C vs H Q E0_
inductive P9 (C:Addr)(vs:List V)(H:Hp)(Q:VK)(E0_:XK):Prop
 | mk (x:Addr) (rs:List Ro) (v:V) (W:Wl) (w:Str) (p:Bo) (c0:vs=[.ref x,v,.str w,.str p.1]) (c1:RoomAt C H x rs) (c2:Good rs) (c3:RdV H v (dW W)) (c4:p∈plc rs) (c5:∀H':Hp,Same H H'->Q (.bl (LK W p w)) H'):P9 C vs H Q E0_
abbrev Lj:List Str:=["room", "world", "word", "place"]
abbrev jV:List Str:=Lj
def ZE:AI jV Lj (Aq Nt):=AO
inductive PV (C:Addr)(vs:List V)(H:Hp)(Q:VK)(E0_:XK):Prop
 | mk (x:Addr) (rs:List Ro) (v:V) (W:Wl) (w:Str) (i:Nat) (p:Bo) (hp:List Str) (l:Str) (c0:vs=[.ref x,v,.str w,.str p.1]) (c1:RoomAt C H x rs) (c2:Good rs) (c3:RdV H v (dW W)) (c4:Pt rs W i p hp l) (c5:W.lids.length<=100) (c6:w∈EG) (c7:∀(lw:Addr) (us:List V) (H':Hp),Same H H'->H' lw=some (.lst us)->RdVs H' us ((Fo w p W i l).map dW)->Q (.ref lw) H'):PV C vs H Q E0_
abbrev Lb:List Str:=["room", "world", "word", "place"]
abbrev jE:List Str:=Cj Lb ["before", "behind"]
def scMoveLid:AI jE Lb (Aq Nj):=AO
abbrev Jg:List Str:=["room", "line", "world"]
abbrev iP:List Str:=Cj Jg ["words"]
def scTurns:AI iP Jg (Aq KE):=AO
def Wm {rs:List Ro}{a:Str}{i:Nat}{p:Bo}(b:(plc rs)[i]? = some p)(c:CC a=V.int 1):JL rs a [p.1]=true:=by
 unfold JL;rw[show decide (CC a=V.int (([p.1].length:Nat):Int))=true from AU c];rw[show([p.1].all λp=>decide (p∈(plc rs).map (·.1)))=true from ?_]
 ·rw[AU Θ];rfl
 rw[DB];intro y d;rw[AR.mp d];exact AU (CQ (Br b))
def lU {w:Str}(h:w∈EG):CC w=V.int 1:=by rcases Vm h with e | e | e | e <;> (rw[e];decide +kernel)
def N9 (t:Str)(W:Wl)(i:Nat):Wl:=⟨none,W.heaps.set i (W.heaps.getD i []++[t]),W.lids⟩
def putF (W:Wl)(i:Nat)(_:List Str)(l:Str):List Wl:=match W.hand with
 | some t=>if l = "open" then [N9 t W i]else []
 | none=>[]
inductive Kz (C:Addr)(F:Wl->Nat->List Str->Str->List Wl)(vs:List V)(H:Hp)(Q:VK)(E0_:XK):Prop
 | mk (x:Addr) (rs:List Ro) (v:V) (W:Wl) (i:Nat) (p:Bo) (hp:List Str) (l:Str) (c0:vs=[.ref x,v,.str p.1]) (c1:RoomAt C H x rs) (c2:Good rs) (c3:RdV H v (dW W)) (c4:Pt rs W i p hp l) (c5:(∀h∈W.heaps,h.length<=100)) (c6:∀(lw:Addr) (us:List V) (H':Hp),Same H H'->H lw=none->H' lw=some (.lst us)->RdVs H' us ((F W i hp l).map dW)->Q (.ref lw) H'):Kz C F vs H Q E0_
inductive Qk (C:Addr)(vs:List V)(H:Hp)(Q:VK)(E0_:XK):Prop
 | mk (x:Addr) (rs:List Ro) (v:V) (W:Wl) (i:Nat) (p:Bo) (l:Str) (c0:vs=[.ref x,v,.str p.1]) (c1:RoomAt C H x rs) (c2:Good rs) (c3:RdV H v (dW W)) (c4:(plc rs)[i]? = some p) (c5:W.lids[i]? = some l) (c6:∀H':Hp,Same H H'->Q (.bl (W.hand.isSome && decide (l = "open"))) H'):Qk C vs H Q E0_
abbrev Lp:List Str:=["room", "world", "place"]
abbrev kN:List Str:=Lp
def ZI:AI kN Lp (Aq Nz):=AO
inductive P3 (C:Addr)(vs:List V)(H:Hp)(Q:VK)(E0_:XK):Prop
 | mk (x:Addr) (rs:List Ro) (v:V) (W:Wl) (i:Nat) (p:Bo) (hp:List Str) (l t:Str) (c0:vs=[.ref x,v,.str p.1]) (c1:RoomAt C H x rs) (c2:Good rs) (c3:RdV H v (dW W)) (c4:Pt rs W i p hp l) (c5:W.hand=some t) (c6:∀(v':V) (H':Hp),Same H H'->RdV H' v' (dW (N9 t W i))->Q v' H'):P3 C vs H Q E0_
abbrev Le:List Str:=["room", "world", "place"]
abbrev jJ:List Str:=Cj Le ["heap"]
def scLaid:AI jJ Le (Aq Nn):=AO
abbrev K7:List Str:=["room", "world", "place"]
abbrev iY:List Str:=K7
def Zo:AI iY K7 (Aq Nf):=AO
abbrev K6:List Str:=["room", "world", "place"]
abbrev iR:List Str:=Cj K6 ["heap"]
def scTake:AI iR K6 (Aq Na):=AO
abbrev La:List Str:=["room", "world", "word", "place"]
abbrev jD:List Str:=La
def Zr:AI jD La (Aq Ni):=AO
def Jv:List Str:=["take", "put", "toss", "tip", "shake"]
def Vi {w:Str}(h:w∈Jv):w = "take" \/ w = "put" \/ w = "toss" \/ w = "tip" \/ w = "shake" := by simpa only [Jv,Az,Bw,Bv] using h
def FF (w a b:Str):List Str:=if w = "tip" then [w,a,b]else [w,a]
def lS {c b f d:Addr}{w:Str}(h:w∈Jv):Ax (HQ c b f d) (Sum.inr w:Key)=none:=by
 unfold HQ;have a:∀z∈EG,z≠w:=by rcases Vi h with e | e | e | e | e <;> (rw[e];decide +kernel)
 rw[Bp (BX (a "open" Δ)),Bp (BX (a "shut" Δ)),Bp (BX (a "lock" Δ)),Bp (BX (a "unlock" Δ))];rfl
def Pt.getD (h:Pt rs W i p hp l):W.heaps.getD i []=hp:=by rw[CA,h.he];rfl
def bK {rs:List Ro}{i j:Nat}{p q:Bo}(g:Good rs)(f:(plc rs)[i]? = some p)(a:(plc rs)[j]? = some q)(e:p.1=q.1):i=j:=by
 have d:((plc rs).map (·.1))[i]? = some p.1:=by rw[AQ,f];rfl
 have h:((plc rs).map (·.1))[j]? = some p.1:=by rw[AQ,a,e];rfl
 obtain⟨m,b⟩:=Ay.mp d;obtain⟨l,c⟩:=Ay.mp h;exact(F3 g.ndP).mp (b.trans c.symm)
def gD (F:Fun K "heap_in" "heap_in" Hn f fd)(L:Cl K C)(a:Binds K d_places ["self"] [])(b:Dv K C "places" f_places)(d:FnOk P w K mg base CX0 1 f_places d_places ["self"] (Hf C)):FnOk P w K mg base CX0 2 f fd EZ (IG C):=by
 refine F.oq ZD ?_;rintro cdv A outer s H vs Q E h⟨x,rs,v,W,i,p,hp,rfl,R,g,I,n,z,q⟩;obtain⟨S,u,y,o,kvs,D,h2,h3,h4⟩:=R.ex;obtain⟨c,v0,r,cl,xs,ys,rfl,N,r0,X,B,ec,rc⟩:=Gs I;obtain⟨t,M,T⟩:=oK B z;have e:((plc rs).map (·.1))[i]? = some p.1:=by rw[AQ,n];rfl
 refine⟨_,(Am (AC (Av Bu (Av Bu (pv 1) Ae (λ_ _=>U)) (CN Ea OY SF Q9 (Hv (pv 0) L.cl b d h a .nil Ao) (Aa (pv 2) Ab)) (λ_ _=>U)))),?_⟩;refine⟨_,U,c,_,_,_,U,U,SqT.of N,AB U,_,U,x,S,_,U,D,EX u y Δ Δ,x,rs,U,R,λl G m fl j=>?_⟩;exact⟨.inl ⟨U,_,SqL.of j⟩,_,U,l,_,_,i,U,U,j,e,RQ g.ndP e,r,_,_,_,U,U,SqT.of (m _ _ X),AB M,q t G m T⟩
def fF (F:Fun K "lid_on" "lid_on" Gh f fd)(L:Cl K C)(a:Binds K d_places ["self"] [])(b:Dv K C "places" f_places)(d:FnOk P w K mg base CX0 1 f_places d_places ["self"] (Hf C)):FnOk P w K mg base CX0 2 f fd ED (Hg C):=by
 refine F.oq Zu ?_;rintro cdv A outer s H vs Q E j⟨x,rs,v,W,i,p,l,rfl,R,g,G,r,z,q⟩;obtain⟨S,u,y,o,kvs,B,h2,h3,h4⟩:=R.ex;obtain⟨c,v0,hb,cl,xs,ys,rfl,M,r0,eb,rb,N,T⟩:=Gs G;have h:=NJ T;subst h;have I:(W.lids.map V.str)[i]? = some (.str l):=by rw[AQ,z];rfl
 have e:((plc rs).map (·.1))[i]? = some p.1:=by rw[AQ,r];rfl
 refine⟨_,(Am (AC (Av Bu (Av Bu (pv 1) Ae (λ_ _=>U)) (CN Ea OY SF Q9 (Hv (pv 0) L.cl b d j a .nil Ao) (Aa (pv 2) Ab)) (λ_ _=>U)))),?_⟩;refine⟨_,U,c,_,_,_,U,U,SqT.of M,AB U,_,U,x,S,_,U,B,EX u y Δ Δ,x,rs,U,R,λX D n fl m=>?_⟩;exact⟨.inl ⟨U,_,SqL.of m⟩,_,U,X,_,_,i,U,U,m,e,RQ g.ndP e,cl,_,_,_,U,U,SqT.of (n _ _ N),AB I,q D n⟩
def fG (F:Fun K "lid_of" "Room.lid_of" QA f fd)(L:Cl K C):FnOk P w K mg base CX0 1 f fd ["self", "place"] (MV C):=by refine F.oq Zv ?_;rintro cdv A outer s H vs Q E j⟨x,rs,p,rfl,R,g,n,q⟩;have h:=Cz j;obtain⟨c,a,b,o,kvs,e,l,r,u⟩:=R.ex;obtain⟨t,i,m⟩:=r.find g.ndP n;have d:DGet H a (.str p.1) (some (.ref t)):=.inl ⟨kvs,(Sum.inr p.1:Key),.inr ⟨o,l⟩,U,i.symm⟩;refine⟨_,Ah (AL (Hr (NS h (pv 1) (Fi (pv 0) U))) Cu AK) (Am (AC (CS h (Fi (pv 0) U) (pv 1) (λ_ _=>U)))),_,U,_,U,x,C,c,_,_,U,e,L.cl,L.nP,NG a b,a,_,U,d,_,U,?_⟩;apply BH;exact⟨_,U,x,C,c,_,_,U,e,L.cl,L.nP,NG a b,_,U,a,_,U,d,q t m⟩
def fH (F:Fun K "lidded" "Room.lidded" Qz f fd)(L:Cl K C)(l:Binds K dL ["self", "place"] [])(m:Dv K C "lid_of" fL)(b:FnOk P w K mg base CX0 1 fL dL ["self", "place"] (MV C)):FnOk P w K mg base CX0 2 f fd ["self", "place"] (MU C):=by refine F.oq Zt ?_;rintro cdv A outer s H vs Q E e⟨x,rs,p,rfl,R,g,j,q⟩;obtain⟨h,a,c,o,kvs,i,n,u,r⟩:=R.ex;refine⟨_,Am (AC (Av Bu (Je (pv 0) L.cl m b e l .nil Ao (Aa (pv 1) Ab)) Ae (λ_ _=>U))),_,U,x,h,_,U,i,EX a c Δ Δ,_,U,x,rs,p,U,R,g,j,λt d=>?_⟩;exact⟨t,_,_,_,U,U,SqT.of d,AB U,q⟩
def fQ (F:Fun K "key_of" "Room.key_of" QB f fd)(L:Cl K C)(l:Binds K dL ["self", "place"] [])(m:Dv K C "lid_of" fL)(b:FnOk P w K mg base CX0 1 fL dL ["self", "place"] (MV C)):FnOk P w K mg base CX0 2 f fd ["self", "place"] (P4 C):=by refine F.oq Zw ?_;rintro cdv A outer s H vs Q E e⟨x,rs,p,rfl,R,g,j,q⟩;obtain⟨h,a,c,o,kvs,i,n,u,r⟩:=R.ex;refine⟨_,Am (AC (Av Bu (Je (pv 0) L.cl m b e l .nil Ao (Aa (pv 1) Ab)) Ae (λ_ _=>U))),_,U,x,h,_,U,i,EX a c Δ Δ,_,U,x,rs,p,U,R,g,j,λt d=>?_⟩;exact⟨t,_,_,_,U,U,SqT.of d,AB U,q⟩
def fY (F:Fun K "is_free" "is_free" IQ f fd):FnOk P w K mg base CX0 1 f fd FK Ky:=by
 refine F.oq ZA ?_;rintro cdv A outer s H vs Q E i⟨v,W,rfl,b,q⟩;obtain⟨c,n,g,o,xs,ys,rfl,e,d,m,l,h,j⟩:=Gs b;have a:=Ob d;subst a;refine⟨_,(Am (AC (De Q0 (Av Bu (pv 0) Ae (λ_ _=>U)) Dc (AE _)))),?_⟩;refine⟨_,U,c,_,_,_,U,U,SqT.of e,AB U,U,?_⟩;cases hh:W.hand with
 | none=>rw[hh]at q;exact q
 | some t=>rw[hh]at q;exact q
def fS (F:Fun K "is_open" "is_open" KP f fd)(a:Ca P w K mg base CX0 2 "lid_on" Gh ED (Hg C)):FnOk P w K mg base CX0 3 f fd HK (MY C):=by refine F.oq Zx ?_;rintro cdv A outer s H vs Q E b⟨x,rs,v,W,i,p,l,rfl,R,g,h,d,j,q⟩;refine⟨_,(Am (AC (De Bt (AN a b Ao (Aa (pv 0) (Aa (pv 1) (Aa (pv 2) Ab)))) Aw (AE _)))),_,U,_,U,_,U,x,rs,v,W,i,p,l,U,R,g,h,d,j,λe c=>⟨U,?_⟩⟩;rw[Wu];exact q e c
def hE (F:Fun K "changed" "changed" IZ f fd)(L:Cl K C)(c:Binds K d_places ["self"] [])(a:Dv K C "places" f_places)(b:FnOk P w K mg base CX0 1 f_places d_places ["self"] (Hf C)):FnOk P w K mg base CX0 2 f fd Gy (KB C):=by
 refine F.oq scChanged λcdv A outer s H vs Q E n h=>?_;obtain⟨x,rs,e,xs,i,p,y,rfl,R,g,G,T,hx,j,q⟩:=h;have a0:sizeLine=16777216:=AF;obtain⟨dx,W,d2,o,kvs,X,h2,h3,h4⟩:=R.ex;have m:((plc rs).map (·.1))[i]? = some p.1:=by rw[AQ,j];rfl
 refine⟨_,(Ah (AD (i:=4) scChanged.nd (CN Ea OY SF Q9 (Hv (pv 0) L.cl a b n c .nil Ao) (Aa (pv 2) Ab))) (Am (AC (As Q3 (As Q3 (DI Qq (pv 1) DH (DG (pv 4))) (Bm (Aa (pv 3) Ab))) (DI Qq (pv 1) (DG (As Bq (pv 4) Ae)) DH))))),?_⟩;refine⟨_,U,x,dx,_,U,X,EX W d2 Δ Δ,x,rs,U,R,λl H1 M fl I=>?_⟩;refine⟨.inl ⟨U,_,SqL.of I⟩,_,U,l,_,_,i,U,U,I,m,RQ g.ndP m,?_⟩;have D:=M _ _ G;have c1:BB xs none (some ((i:Nat):Int))=xs.take i:=by unfold BB;rw[HT.sIx_none,HT.sIx_nat,L5,Oo];congr 1;lia
 have c2:BB xs (some (((i+1:Nat)):Int)) none=xs.drop (i+1):=LO Ψ;refine⟨_,U,_,U,_,U,e,xs,U,SqT.of D,?_,λp1 z=>?_⟩
 ·rw[HT.sIx_none,HT.sIx_nat];lia
 rw[c1];obtain⟨H2,v,s2,e2⟩:=Dg (H:=H1) (o:=.tup (xs.take i)) z;rw[v];refine⟨_,U,AA,λp2 B=>?_⟩;obtain⟨H3,v,s3,e3⟩:=Dg (H:=H2) (o:=.tup [y]) B;rw[v];refine RK (s3 _ _ e2) e3 (by rw[Bh];show _+1<=_;lia) λp3 N s4 e4=>?_;have d:=(M.trans s2).trans (s3.trans s4);have r:=d _ _ G;refine⟨_,U,_,U,_,_,U,U,_,U,e,xs,U,SqT.of r,?_,λp4 u=>?_⟩
 ·rw[show((i:Int)+1)=((i+1:Nat):Int) from U,HT.sIx_nat];lia
 rw[show((i:Int)+1)=((i+1:Nat):Int) from U,c2];have S:Same N (Y N p4 (.tup (xs.drop (i+1)))):=Same.new u;refine RK (S _ _ e4) Ag (by rw[AG,Bh,Dq];show _+1+_<=_;lia) λt H6 s6 e6=>?_;refine q t H6 (d.trans (S.trans s6)) ?_;rw[e6,List.set_eq_take_append_cons_drop,Ar T,Di];rfl
def dV (F:Fun K "read_deed" "read_deed" Hk f fd)(T:Bl mg)(L:Cl K C)(DD:Dd P w K mg aP)(j:Binds K d_places ["self"] [])(d:Dv K C "places" f_places)(g:FnOk P w K mg base CX0 1 f_places d_places ["self"] (Hf C)):FnOk P w K mg base CX0 2 f fd Hz (MP C):=by
 refine F.oq scReadDeed λcdv A outer s H vs Q E a4 h=>?_;obtain⟨x,rs,a8,a,ps,rfl,R,hw,ln,pl,G,q⟩:=h;have a9:sizeLine=16777216:=AF;obtain⟨dx,d1,d2,o,kvs,h1,h2,h3,h4⟩:=R.ex;unfold JL at G;rw[BV,BV]at G;have hn:=Bf G.1;have ha:=G.2.1;have a7:=Bf G.2.2;refine⟨_,(Ah (AD (i:=2) scReadDeed.nd (CN Ia FZ JR Ju (pv 1) (Aa Aw Ab))) (Ah (AD (i:=3) scReadDeed.nd (DI Ew (pv 2) (DG Ae) DH)) (Ah (AL (AM Gz (U0 (B7 (v:=.ref aP) Φ DD.pm U) (Av Bb (pv 2) Ae (λ_ _=>U)) ⟨Φ,Φ,Φ,Φ⟩) (AX BI Φ T.len Bj (Aa (pv 3) Ab)) (AE _)) Cu AK) (Ah (AL (DV (Ey (AX (RL U) Φ T.all RO (Aa (Dx (N:=["place", "room"]) (sc:=Aq Hk) (own:=["place"]) (fr:=["room"]) (js:=[0]) B0 U (BS (pv 3)) (λ_ _ _ _=>AS (i:=0) (show List.Nodup (["place", "room"]:List Str) by decide +kernel)) (λ_ _ _ _=>Ck) (λ_ _ _ _=>(De (cQ K U) (pv 0) (Hv (pv 1) L.cl d g a4 j .nil Ao) Φ))) Ab)))) Cu AK) (Ah (AL (AM GB (AX Oh Φ T.len Bj (Aa (BK (Og U) Φ T.set LS (Aa (pv 3) Ab)) Ab)) (AX BI Φ T.len Bj (Aa (pv 3) Ab)) (AE _)) Cu AK) (Am (AC (pv 2)))))))),?_⟩;refine⟨_,U,U,_,_,U,U,Φ,Ψ,λl hl=>?_⟩;refine N8 (a::ps) _ (by show(Txt.split _ blank).map V.str=_;rw[hw.split]) hl λW s1 el=>?_;refine⟨_,U,_,U,l,_,U,SqL.of el,λB a2=>?_⟩;have c:(Y W B (.lst (BB ((a::ps).map V.str) (some 1) none))) B=some (.lst (ps.map V.str)):=by rw[Ag,show((1:Int))=((1:Nat):Int) from U,LO Θ];rfl
 have s2:Same W (Y W B (.lst (BB ((a::ps).map V.str) (some 1) none))):=Same.new a2;generalize (Y W B (.lst (BB ((a::ps).map V.str) (some 1) none)))=H2 at c s2 ⊢;have r:=s1.trans s2;have a0:atI ((a::ps).map V.str) ((0:Nat):Int)=some (.str a):=AB U;have a3:(ps.map V.str).length=ps.length:=Ai ..;refine⟨aP,_,U,DD.pd,_,U,l,_,_,_,U,U,SqL.of (s2 _ _ el),a0,(Sum.inr a:Key),U,_,U,_,_,U,.inl ⟨_,SqL.of c,U⟩,?_,_,U,?_⟩
 ·show M8 (CC a) _=true;rcases QO a with e | e | e <;> (rw[e];rfl)
 show if (!decide (CC a=V.int ((ps.map V.str).length:Int)))=true then _ else _
 rw[a3,AU hn];refine BH ?_;refine⟨_,U,B,U,⟨_,SqL.of c⟩,λD hD=>?_⟩
 refine Co (n:=ps.length) (λi ys m=>ys=((ps.take i).map λp=>decide (p∈(plc rs).map (·.1))).map V.bl/\Same H2 m/\m D=some (.lst ys)) ⟨U,Same.new hD,Ag⟩
  (λi ys m S u=>by obtain⟨_,s3,_⟩:=u;exact⟨_,.str ps[i],SqL.of (s3 _ _ c),by simp[S]⟩) (λys m u=>by obtain⟨_,s3,_⟩:=u;exact⟨_,SqL.of (s3 _ _ c),Θ⟩) ?_ ?_
 ·rintro i ys m y H4 S ⟨rfl,s3,X⟩ ⟨rfl,hx⟩;have I:=hx _ (SqL.of (s3 _ _ c));have a5:y=.str ps[i]:=by rw[AQ,AJ S]at I;exact(BG I).symm
  subst a5;refine Cn ?_;have R3:=R.same (r.trans s3);refine⟨_,U,_,U,x,dx,_,U,(r.trans s3) _ _ h1,EX d1 d2 Δ Δ,x,rs,U,R3,λl4 H5 s5 f5 e5=>?_⟩;refine⟨l4,_,U,.inl (SqL.of e5),U,flat_strs _,_,s5 _ _ X,by simp only[Ai,Bh];lia,?_,(s3.trans s5).put hD,Ag⟩;rw[BL S,AW,AW];show _++[V.bl (Fq (V.str ps[i]) (((plc rs).map (·.1)).map V.str))]=_;rw[HW];rfl
 rintro ys m ⟨rfl,s3,X⟩;rw[Cd]at X;have a6:=r.trans s3;refine⟨D,_,U,SqL.of X,_,U,?_⟩;have M:(ps.map λp=>decide (p∈(plc rs).map (·.1))).all (λb=>b)=ps.all λp=>decide (p∈(plc rs).map (·.1)):=by rw[List.all_map];rfl
 rw[M,ha];refine BH ?_;have ek:ps.map V.str=(ps.map (Sum.inr:Str->Key)).map kV:=by rw[BD];rfl
 refine⟨_,U,B,ps.map Sum.inr,U,SqL.of (by rw[<- ek];exact s3 _ _ c),by rw[Ai];lia,λst a1=>?_⟩;have s4:Same m (Y m st (Hj P w st (SK.dd (Bx (ps.map (Sum.inr:Str->Key))) (ps.map (Sum.inr:Str->Key)).length).length)):=Same.new a1;refine⟨st,_,U,Ag,_,U,_,_,U,.inl ⟨_,SqL.of (s4 _ _ (s3 _ _ c)),U⟩,_,_,U,U,_,U,?_⟩;refine Bi (λz=>?_) (λ_=>?_)
 ·exfalso;have:=Bf z;rw[Qv a7]at this;lia
 exact⟨_,U,q l _ (a6.trans s4) (s4 _ _ (s3 _ _ (s2 _ _ el)))⟩
def gE {f1:Addr} (F:Fun K "hand_fits" "hand_fits" Nt f fd)(L:Cl K C)(D_is_free:Df K mg "is_free" IQ FK f1 B)(a:FnOk P w K mg base CX0 1 f1 B FK Ky)
  (d:Binds K d_key_of ["self", "place"] [])(l:Dv K C "key_of" f_key_of)(i:FnOk P w K mg base CX0 2 f_key_of d_key_of ["self", "place"] (P4 C))(j:Binds K d_lidded ["self", "place"] [])(b:Dv K C "lidded" f_lidded)(e:FnOk P w K mg base CX0 2 f_lidded d_lidded ["self", "place"] (MU C)):FnOk P w K mg base CX0 3 f fd Lj (P9 C):=by
 refine F.oq ZE λcdv A outer s H vs Q E n h=>?_
 obtain⟨x,rs,v,W,w,p,rfl,R,g,rv,T,q⟩:=h
 have z:Room 1 _:=n.mono Ξ
 obtain⟨S,B,M,o,kvs,X,h2,h3,h4⟩:=R.ex
 refine⟨_,(Ah (AL (AM Js (pv 2) (Bm (Aa Aw (Aa Aw Ab))) Φ) (Am (AC (NR (UZ (Bc a z Φ D_is_free.m D_is_free.F.kp D_is_free.b .nil Ao (Aa (pv 1) Ab))) (NQ (De Bt (Av Bu (pv 1) Ae (λ_ _=>U)) (Je (pv 0) L.cl l i n d .nil Ao (Aa (pv 3) Ab)) (AE _)))))) AK) (Am (AC (NR (Bc a z Φ D_is_free.m D_is_free.F.kp D_is_free.b .nil Ao (Aa (pv 1) Ab)) (NQ (Je (pv 0) L.cl b e n j .nil Ao (Aa (pv 3) Ab))))))),?_⟩
 refine⟨_,U,Ξ,λG D=>?_⟩
 have m:Same H (Y H G (.tup [V.str "lock",V.str "unlock"])):=Same.new D
 refine⟨G,_,U,.inr (SqT.of Ag),U,flat_strs ["lock", "unlock"],_,U,?_⟩
 show if Fq (V.str w) ((["lock", "unlock"]:List Str).map V.str)=true then _ else _
 rw[HW]
 generalize Y H G (.tup [V.str "lock",V.str "unlock"])=H0 at m ⊢
 unfold LK at q
 have r:=m.rd rv
 have N:=R.same m
 have y:=m _ _ X
 by_cases u:w∈(["lock", "unlock"]:List Str)
 ·rw[Ar u]at q;rw[AU u];refine BA ?_;refine⟨_,U,v,W,U,r,_,U,_,U,?_⟩;cases hh:W.hand with
  | none=>rw[hh]at q;refine BH ?_;exact q H0 m
  | some t=>
   rw[hh]at q;refine BA ?_;obtain⟨c,v0,u,cl,xs,ys,rfl,ea,r0,eb,rb,ec,rc⟩:=Gs r;have I:=Ob r0;subst I;have w0:atI [oV W.hand,V.ref u,V.ref cl] ((0:Nat):Int)=some (oV W.hand):=AB U;refine⟨_,U,c,_,_,_,U,U,SqT.of ea,w0,_,U,x,S,_,U,y,EX B M Δ Δ,_,U,x,rs,p,U,N,g,T,?_,?_⟩
   ·rw[hh];cases p.2.2 <;> rfl
   rw[hh];exact q H0 m
 rw[Ak u]at q
 rw[BR u]
 refine BH ?_
 refine⟨_,U,v,W,U,r,_,U,?_⟩
 cases hh:W.hand with
 | some t=>rw[hh]at q;refine BH ?_;exact q H0 m
 | none=>rw[hh]at q;refine BA ?_;exact⟨_,U,x,S,_,U,y,EX B M Δ Δ,_,U,x,rs,p,U,N,g,T,q H0 m⟩
def eR (F:Fun K "move_lid" "move_lid" Nj f fd)(D:Dl P w K mg aL t1 I t3 t4)(j:Ca P w K mg base CX0 2 "lid_on" Gh ED (Hg C))(a:Ca P w K mg base CX0 3 "hand_fits" Nt Lj (P9 C))(d:Ca P w K mg base CX0 2 "changed" IZ Gy (KB C)):FnOk P w K mg base CX0 4 f fd Lb (PV C):=by
 refine F.oq scMoveLid λcdv A outer s H vs Q E B h=>?_;obtain⟨x,rs,v,W,w,i,p,hp,l,rfl,R,g,rv,pt,T,hw,q⟩:=h;have o:Room 2 _:=B.mono Ξ;have a6:sizeLine=16777216:=AF;obtain⟨t,hv,hT⟩:=D.got hw;have b0:atI [V.str (JN w),V.str (GO w)] ((0:Nat):Int)=some (.str (JN w)):=AB U;have b1:atI [V.str (JN w),V.str (GO w)] ((1:Nat):Int)=some (.str (GO w)):=AB U;have S:=Br pt.pl;refine⟨_,(Ah (AD (i:=4) scMoveLid.nd (Av Bu (U1 (B7 (v:=.ref aL) Φ D.lm U) (pv 2) (λ_ _=>U)) Ae (λ_ _=>U))) (Ah (AD (i:=5) scMoveLid.nd (Av Bu (U1 (B7 (v:=.ref aL) Φ D.lm U) (pv 2) (λ_ _=>U)) Ae (λ_ _=>U))) (Ah (AL (PW.pt (Ex (AM Gz (AN j o Ao (Aa (pv 0) (Aa (pv 1) (Aa (pv 3) Ab)))) (pv 4) (AE _)) (Fg (DV (Ey (AN a B Ao (Aa (pv 0) (Aa (pv 1) (Aa (pv 2) (Aa (pv 3) Ab)))))))))) (Am (AC (AZ Ab))) AK) (Am (AC (AZ (Aa (Bm (Aa (Av Bu (pv 1) Ae (λ_ _=>U)) (Aa (Av Bu (pv 1) Ae (λ_ _=>U)) (Aa (AN d o Ao (Aa (pv 0) (Aa (Av Bu (pv 1) Ae (λ_ _=>U)) (Aa (pv 3) (Aa (pv 5) Ab))))) Ab)))) Ab))))))),?_⟩;refine⟨_,U,aL,_,(Sum.inr w:Key),_,U,D.ld,U,hv,t,_,_,_,U,U,hT H,b0,?_⟩;refine⟨_,U,aL,_,(Sum.inr w:Key),_,U,D.ld,U,hv,t,_,_,_,U,U,hT H,b1,?_⟩;refine⟨_,U,_,U,_,U,x,rs,v,W,i,p,l,U,R,g,rv,pt.pl,pt.li,λH1 L=>?_⟩;have none':Fo w p W i l=[]->∀H':Hp,Same H H'->∀y:Addr,H' y=none->Q (.ref y) (Y H' y (.lst [])):=λe H' s' y X=>q y [] _ (s'.trans (Same.new X)) Ag (by rw[e];exact .nil);refine⟨_,U,U,_,U,?_⟩;by_cases N:l=JN w
 ·refine VB N ?_;refine⟨_,U,_,U,_,U,_,U,x,rs,v,W,w,p,U,R.same L,g,L.rd rv,S,λH2 s2=>⟨_,U,?_⟩⟩;have b:=L.trans s2;cases hf:LK W p w with
  | false=>refine BA ?_;exact⟨Bn _,none' (by unfold Fo;rw[Ak (λz=>by rw[hf]at z;cases z.2)]) H2 b⟩
  | true=>
   refine BH ?_;obtain⟨c,v0,m,G,xs,ys,rfl,ea,r0,eb,rb,ec,rc⟩:=Gs rv;have a2:=NJ rc;subst a2;have Be:atI [v0,V.ref m,V.ref G] ((0:Nat):Int)=some v0:=AB U;have a0:atI [v0,V.ref m,V.ref G] ((1:Nat):Int)=some (.ref m):=AB U;have a5:atI [v0,V.ref m,V.ref G] ((2:Nat):Int)=some (.ref G):=AB U;have hi:i<(W.lids.map V.str).length:=by rw[Ai];exact(Ay.mp pt.li).1
   refine⟨_,U,c,_,_,_,U,U,SqT.of (b _ _ ea),Be,_,U,c,_,_,_,U,U,SqT.of (b _ _ ea),a0,_,U,_,U,c,_,_,_,U,U,SqT.of (b _ _ ea),a5,_,U,_,U,?_⟩;refine⟨x,rs,G,_,i,p,.str (GO w),U,R.same b,g,b _ _ ec,hi,by rw[Ai];exact T,pt.pl,λI M s4 e4=>?_⟩;have a1:=b.trans s4;refine⟨AA,λr a3=>⟨AA,λlw a4=>?_⟩⟩;have s5:Same M (Y M r (.tup [v0,.ref m,.ref I])):=Same.new a3;have s6:Same (Y M r (.tup [v0,.ref m,.ref I])) (Y (Y M r (.tup [v0,.ref m,.ref I])) lw (.lst [V.ref r])):=Same.new a4;have n:=s5.trans s6;have u:=a1.trans n;refine q lw [.ref r] _ u Ag ?_;unfold Fo;rw[Ar ⟨N,hf⟩];refine .cons (FE (s6 _ _ Ag) (u.rd r0) (u _ _ eb) (u.rds rb) (n _ _ e4) ?_) .nil;rw[List.map_set];exact NK i (u.rds rc) (.str _)
 refine VC N ?_;refine BA ?_;exact⟨Bn _,none' (by unfold Fo;rw[Ak (λz=>N z.1)]) H1 L⟩
def hH (F:Fun K "can_put" "can_put" Nz f fd)(b:Ca P w K mg base CX0 1 "is_free" IQ FK Ky)(a:Ca P w K mg base CX0 3 "is_open" KP HK (MY C)):FnOk P w K mg base CX0 4 f fd Lp (Qk C):=by
 refine F.oq ZI ?_;rintro cdv A outer s H vs Q E c⟨x,rs,v,W,i,p,l,rfl,R,g,d,h,m,q⟩;refine⟨_,(Am (AC (NR (UZ (AN b (c.mono Ξ) Ao (Aa (pv 1) Ab))) (NQ (AN a c Ao (Aa (pv 0) (Aa (pv 1) (Aa (pv 2) Ab)))))))),?_⟩;refine⟨_,U,v,W,U,d,_,U,_,U,?_⟩;cases hh:W.hand with
 | none=>rw[hh]at q;exact BH (q H (Same.refl _))
 | some t=>rw[hh]at q;apply BA;exact⟨_,U,_,U,_,U,x,rs,v,W,i,p,l,U,R,g,d,h,m,λj e=>q j e⟩
def fO (F:Fun K "laid" "laid" Nn f fd)(b:Ca P w K mg base CX0 2 "heap_in" Hn EZ (IG C))(a:Ca P w K mg base CX0 2 "changed" IZ Gy (KB C)):FnOk P w K mg base CX0 3 f fd Le (P3 C):=by
 refine F.oq scLaid λcdv A outer s H vs Q E n h=>?_;obtain⟨x,rs,v,W,i,p,u,l,t,rfl,R,g,rv,pt,hh,q⟩:=h;have a1:sizeLine=16777216:=AF;have X:=pt.len;have a0:=pt.few;have G:=rv;obtain⟨c,v0,m,y,xs,ys,rfl,L,r0,eb,rb,ec,rc⟩:=Gs rv;have N:=Ob r0;subst N;have B:=rb.length;rw[Ai]at B;have hi:i<xs.length:=by have:=(Ay.mp pt.he).1;lia
 have T:(u.map V.str).length=u.length:=Ai ..;have r:atI [oV W.hand,V.ref m,V.ref y] ((0:Nat):Int)=some (.str t):=by rw[hh];exact AB U
 have z:atI [oV W.hand,V.ref m,V.ref y] ((1:Nat):Int)=some (.ref m):=AB U;have I:atI [oV W.hand,V.ref m,V.ref y] ((2:Nat):Int)=some (.ref y):=AB U;refine⟨_,(Ah (AD (i:=3) scLaid.nd (As Q3 (AN b n Ao (Aa (pv 0) (Aa (pv 1) (Aa (pv 2) Ab)))) (Bm (Aa (Av Bu (pv 1) Ae (λ_ _=>U)) Ab)))) (Am (AC (Bm (Aa Dc (Aa (AN a n Ao (Aa (pv 0) (Aa (Av Bu (pv 1) Ae (λ_ _=>U)) (Aa (pv 2) (Aa (pv 3) Ab))))) (Aa (Av Bu (pv 1) Ae (λ_ _=>U)) Ab))))))),?_⟩;refine⟨_,U,_,U,_,U,x,rs,_,W,i,p,u,U,R,g,G,pt.pl,pt.he,λt1 H1 M et=>?_⟩;refine⟨_,U,c,_,_,_,U,U,SqT.of (M _ _ L),r,AA,λp2 S=>?_⟩;obtain⟨H2,g0,s2,e2⟩:=Dg (H:=H1) (o:=.tup [V.str t]) S;rw[g0];refine RK (s2 _ _ (M _ _ et)) e2 (by rw[T];show _+1<=_;lia) λp3 H3 s3 e3=>?_;have e:=(M.trans s2).trans s3;refine⟨_,U,_,U,c,_,_,_,U,U,SqT.of (e _ _ L),z,_,U,_,U,x,rs,m,xs,i,p,.ref p3,U,R.same e,g,e _ _ eb,hi,Ψ,pt.pl,λt2 H4 s4 e4=>?_⟩;have d:=e.trans s4;refine⟨_,U,c,_,_,_,U,U,SqT.of (d _ _ L),I,AA,λtw D=>?_⟩;have j:Same H4 (Y H4 tw (.tup [V.non,.ref t2,.ref y])):=Same.new D;refine q (.ref tw) _ (d.trans j) (FE Ag .non (j _ _ e4) ?_ (j _ _ (d _ _ ec)) ((d.trans j).rds rc));show RdVs _ _ ((W.heaps.set i (W.heaps.getD i []++[t])).map dH);rw[List.map_set,pt.getD];refine NK i ((d.trans j).rds rb) (.tup (j _ _ (s4 _ _ e3)) ?_);rw[show u.map V.str++[V.str t]=(u++[t]).map V.str by simp];exact RdVs.strs _
def dY (F:Fun K "put" "put" Nf f fd)(a:Ca P w K mg base CX0 4 "can_put" Nz Lp (Qk C))(b:Ca P w K mg base CX0 3 "laid" Nn Le (P3 C)):FnOk P w K mg base CX0 5 f fd K7 (Kz C putF):=by
 refine F.oq Zo λcdv A outer s H vs Q E n h=>?_;obtain⟨x,rs,v,W,i,p,z,l,rfl,R,g,y,pt,I,q⟩:=h;have r:Room 3 _:=n.mono Ξ;have G:sizeLine=16777216:=AF;have none':putF W i z l=[]->∀H':Hp,Same H H'->∀j:Addr,H' j=none->Q (.ref j) (Y H' j (.lst [])):=λe H' s' j m=>q j [] _ (s'.trans (Same.new m)) (s'.free m) Ag (by rw[e];exact .nil);refine⟨_,(Am (AC (Jf (Ey (AN a n Ao (Aa (pv 0) (Aa (pv 1) (Aa (pv 2) Ab))))) (AZ (Aa (AN b r Ao (Aa (pv 0) (Aa (pv 1) (Aa (pv 2) Ab)))) Ab)) (AZ Ab)))),?_⟩;refine⟨_,U,_,U,_,U,x,rs,v,W,i,p,l,U,R,g,y,pt.pl,pt.li,λu d=>⟨_,U,?_⟩⟩;cases hh:W.hand with
 | none=>exact BH ⟨Bn _,none' (by unfold putF;rw[hh]) u d⟩
 | some t=>
  by_cases o:l = "open"
  ·rw[AU o];refine BA ?_;refine⟨_,U,_,U,_,U,x,rs,v,W,i,p,z,l,t,U,R.same d,g,d.rd y,pt,hh,λD L s2 rd=>⟨AA,λB c=>?_⟩⟩;refine q B [D] _ ((d.trans s2).trans (Same.new c)) ((d.trans s2).free c) Ag ?_;unfold putF;rw[hh];dsimp only;rw[Ar o];exact .cons ((Same.new c).rd rd) .nil
  rw[BR o];refine BH ⟨Bn _,none' ?_ u d⟩;unfold putF;rw[hh];dsimp only;rw[Ak o]
def cZ {f1 f2 f3 f4:Addr} (F:Fun K "take" "take" Na f fd)(T:Bl mg)(D_heap_in:Df K mg "heap_in" Hn EZ f1 d1)(D_is_free:Df K mg "is_free" IQ FK f2 d2)(D_is_open:Df K mg "is_open" KP HK f3 d3)(D_changed:Df K mg "changed" IZ Gy f4 d4)
  (a:FnOk P w K mg base CX0 2 f1 d1 EZ (IG C))(j:FnOk P w K mg base CX0 1 f2 d2 FK Ky)(d:FnOk P w K mg base CX0 3 f3 d3 HK (MY C))(b:FnOk P w K mg base CX0 2 f4 d4 Gy (KB C)):FnOk P w K mg base CX0 4 f fd K6 (Kz C Eu):=by
 refine F.oq scTake λcdv A outer s H vs Q E D h=>?_
 obtain⟨x,rs,v,W,i,p,u,l,rfl,R,g,rv,pt,fh,q⟩:=h
 have a2:Room 1 _:=D.mono Ξ
 have L:Room 2 _:=D.mono Ξ
 have ac:sizeLine=16777216:=AF
 have a9:=pt.len
 have none':Eu W i u l=[]->∀H':Hp,Same H H'->∀X:Addr,H' X=none->Q (.ref X) (Y H' X (.lst [])):=λe H' s' X M=>q X [] _ (s'.trans (Same.new M)) (s'.free M) Ag (by rw[e];exact .nil)
 refine⟨_,(Ah (AD (i:=3) scTake.nd (Bc a L Φ D_heap_in.m D_heap_in.F.kp D_heap_in.b .nil Ao (Aa (pv 0) (Aa (pv 1) (Aa (pv 2) Ab))))) (Ah (AL (PW.pt (Ex (DV (Ey (Bc j a2 Φ D_is_free.m D_is_free.F.kp D_is_free.b .nil Ao (Aa (pv 1) Ab)))) (Ex (DV (Ey (Bc d D Φ D_is_open.m D_is_open.F.kp D_is_open.b .nil Ao (Aa (pv 0) (Aa (pv 1) (Aa (pv 2) Ab)))))) (Fg (AM Bt (AX BI Φ T.len Bj (Aa (pv 3) Ab)) Ae (AE _)))))) (Am (AC (AZ Ab))) AK) (Am (AC (AZ (Aa (Bm (Aa (Av Bu (pv 3) (NP MD Ae) (λ_ _=>U)) (Aa (Bc b L Φ D_changed.m D_changed.F.kp D_changed.b .nil Ao (Aa (pv 0) (Aa (Av Bu (pv 1) Ae (λ_ _=>U)) (Aa (pv 2) (Aa (DI Qq (pv 3) DH (DG (NP MD Ae))) Ab))))) (Aa (Av Bu (pv 1) Ae (λ_ _=>U)) Ab)))) Ab)))))),?_⟩
 refine⟨_,U,_,U,_,U,x,rs,v,W,i,p,u,U,R,g,rv,pt.pl,pt.he,λt H1 s1 et=>?_⟩
 refine⟨_,U,v,W,U,s1.rd rv,_,U,?_⟩
 cases hh:W.hand with
 | some tt=>refine BA (BA ?_);exact⟨Bn _,none' (by unfold Eu;rw[Ak (λz=>by rw[hh]at z;cases z.1)]) H1 s1⟩
 | none=>
  refine BH ?_;refine⟨_,U,_,U,_,U,x,rs,v,W,i,p,l,U,R.same s1,g,s1.rd rv,pt.pl,pt.li,λH2 s2=>⟨_,U,?_⟩⟩;have r:=s1.trans s2;by_cases hl:l = "open"
  ·rw[AU hl];refine BH ?_;have G:=r _ _ et;refine⟨_,U,_,_,U,.inr ⟨_,SqT.of G,U⟩,U,_,U,?_⟩;cases hl0:u.getLast? with
   | none=>have hn:u=[]:=O1.mp hl0;subst hn;refine BA ?_;exact⟨Bn _,none' (by unfold Eu;rw[Ak (λz=>z.2.2 U)]) H2 r⟩
   | some y=>
    have a0:u≠[]:=λe=>by rw[e]at hl0;cases hl0
    have aa:=So.mpr a0;have a8:(u.map V.str).length=u.length:=Ai ..;refine Bi (λz=>?_) (λ_=>?_)
    ·exfalso;have:=V.int.inj (Bf z);lia
    obtain⟨c,v0,hb,I,xs,ys,rfl,ea,r0,eb,rb,ec,rc⟩:=Gs rv;have a4:=rb.length;rw[Ai]at a4;have ab:=pt.few;have hi:i<xs.length:=by have:=(Ay.mp pt.he).1;lia
    have a3:atI [v0,V.ref hb,V.ref I] ((1:Nat):Int)=some (.ref hb):=AB U;have a6:atI [v0,V.ref hb,V.ref I] ((2:Nat):Int)=some (.ref I):=AB U;have a1:BB (u.map V.str) none (some (-1))=(u.dropLast).map V.str:=by unfold BB;rw[HT.sIx_none,L5,Oo,Uo,a8,<- Ep,List.dropLast_eq_take]
    refine⟨_,U,_,U,t,_,_,_,U,U,SqT.of G,W9 (by rw[List.getLast?_map,hl0];rfl),?_⟩;refine⟨_,U,_,U,c,_,_,_,U,U,SqT.of (r _ _ ea),a3,_,U,_,U,_,U,?_⟩;refine⟨_,U,t,_,U,SqT.of G,?_,λp1 a7=>?_⟩
    ·rw[HT.sIx_none,Uo];lia
    rw[a1];obtain⟨H3,g0,s3,e3⟩:=Dg (H:=H2) (o:=.tup ((u.dropLast).map V.str)) a7;rw[g0];have B:=r.trans s3;refine⟨x,rs,hb,xs,i,p,.ref p1,U,R.same B,g,B _ _ eb,hi,Ψ,pt.pl,λt2 H4 s4 e4=>?_⟩;have n:=B.trans s4;refine⟨_,U,c,_,_,_,U,U,SqT.of (n _ _ ea),a6,AA,λN a5=>⟨AA,λlw S=>?_⟩⟩;have s5:Same H4 (Y H4 N (.tup [V.str y,.ref t2,.ref I])):=Same.new a5;have s6:Same (Y H4 N (.tup [V.str y,.ref t2,.ref I])) (Y (Y H4 N (.tup [V.str y,.ref t2,.ref I])) lw (.lst [V.ref N])):=Same.new S;have m:=s5.trans s6;refine q lw [.ref N] _ (n.trans m) ((n.trans s5).free S) Ag ?_;unfold Eu;rw[Ar ⟨hh,hl,a0⟩,hl0];refine .cons (FE (s6 _ _ Ag) (.str y) (m _ _ e4) ?_ (m _ _ (n _ _ ec)) ((n.trans m).rds rc)) .nil;rw[List.map_set];exact NK i ((n.trans m).rds rb) (.tup (m _ _ (s4 _ _ e3)) (RdVs.strs _))
  rw[BR hl];refine BA (BA ?_);exact⟨Bn _,none' (by unfold Eu;rw[Ak (λz=>hl z.2.1)]) H2 r⟩
def Ru (x y:Str):PyData.eqv (.str x) (.str y)=decide (x=y):=by
 rw[PyData.eqv];by_cases h:x=y
 ·simp[h]
 simp[h]
theorem Wa {c:Type}[DecidableEq c]{g:c->PyData}(d:∀a b,PyData.eqv (g a) (g b)=decide (a=b)):∀xs ys:List c,PyData.eqvAll (xs.map g) (ys.map g)=decide (xs=ys)
 | [],[]=>by(simp[PyData.eqvAll])
 | [],_::_=>by(simp[PyData.eqvAll])
 | _::_,[]=>by(simp[PyData.eqvAll])
 | x::xs,y::ys=>by rw[Bg,Bg,PyData.eqvAll,d,Wa d xs ys,<- RZ];simp
def Rt {c:Type}[DecidableEq c]{g:c->PyData}(d:∀a b,PyData.eqv (g a) (g b)=decide (a=b))(xs ys:List c):PyData.eqv (.tuple (xs.map g)) (.tuple (ys.map g))=decide (xs=ys):=by rw[PyData.eqv,Wa d]
def qC (xs ys:List Str):PyData.eqv (dH xs) (dH ys)=decide (xs=ys):=Rt Ru xs ys
theorem qB:∀a b:Option Str,PyData.eqv (dO a) (dO b)=decide (a=b)
 | none,none=>by simp[dO,PyData.eqv]
 | none,some _=>by simp[dO,PyData.eqv]
 | some _,none=>by simp[dO,PyData.eqv]
 | some x,some y=>by show PyData.eqv (.str x) (.str y)=_;rw[Ru];simp
def V9 (a b:Wl):PyData.eqv (dW a) (dW b)=decide (a=b):=by unfold dW;rw[PyData.eqv,PyData.eqvAll,PyData.eqvAll,PyData.eqvAll,PyData.eqvAll,qB,Rt qC,Rt Ru,Bool.and_true,<- RZ,<- RZ];obtain⟨g,f,h⟩:=a;obtain⟨e,c,d⟩:=b;simp
def Lx:List Str:=["take", "put", "toss", "tip", "shake", "open", "shut", "lock", "unlock"]
def iK {w:Str}(h:w∈Lx):w∈Jv\/w∈EG:=by simp[Lx,Jv,EG,Az,Bw,Bv]at h ⊢;rcases h with e | e | e | e | e | e | e | e | e <;> simp[e]
def Iy:List Str:=["take", "put"]
def ME {w:Str}(h:w∈Iy):w = "take" \/ w = "put" := by simpa only [Iy,Az,Bw,Bv] using h
def IH:List Str:=["take", "put", "open", "shut"]
def Qr {w:Str}(h:w∈IH):w∈Iy\/(w = "open" \/ w = "shut"):=by simp[IH,Iy,Az,Bw,Bv]at h ⊢;rcases h with e | e | e | e <;> simp[e]
def TF {w:Str}(h:w∈Iy):w∉EG:=by rcases ME h with e | e <;> (rw[e];decide +kernel)
def Jw (w:Str)(W:Wl)(i:Nat)(hp:List Str)(l:Str):List Wl:=if w = "take" then Eu W i hp l else putF W i hp l
def GC (w:Str)(p:Bo)(W:Wl)(i:Nat)(hp:List Str)(l:Str)(_:Nat)(_:List Str)(_:Str):List Wl:=if w∈EG then Fo w p W i l else Jw w W i hp l
inductive MM (C:Addr)(vs:List V)(H:Hp)(Q:VK)(E0_:XK):Prop
 | mk (x:Addr) (rs:List Ro) (v:V) (W:Wl) (line w:Str) (i:Nat) (p:Bo) (hp:List Str) (l:Str) (j:Nat) (pj:Bo) (hq:List Str) (lq:Str) (c0:vs=[.ref x,.str line,v]) (c1:RoomAt C H x rs) (c2:Good rs) (c3:RdV H v (dW W)) (c4:Wd line (FF w p.1 pj.1)) (c5:line.length<=1000) (c6:Pt rs W i p hp l) (c7:Pt rs W j pj hq lq) (c8:(w = "tip" -> i≠j)) (c9:w∈IH) (c10:(∀h∈W.heaps,h.length<=100)) (c11:W.lids.length<=100) (c12:∀(lw:Addr) (us:List V) (H':Hp),Same H H'->H' lw=some (.lst us)->RdVs H' us ((GC w p W i hp l j hq lq).map dW)->Q (.ref lw) H'):MM C vs H Q E0_
inductive PU (C:Addr)(vs:List V)(H:Hp)(Q:VK)(E0_:XK):Prop
 | mk (x:Addr) (rs:List Ro) (v:V) (W:Wl) (w:Str) (i:Nat) (p:Bo) (hp:List Str) (l:Str) (c0:vs=[.ref x,v,.str w,.str p.1]) (c1:RoomAt C H x rs) (c2:Good rs) (c3:RdV H v (dW W)) (c4:Pt rs W i p hp l) (c5:w∈Iy) (c6:(∀h∈W.heaps,h.length<=100)) (c7:∀(lw:Addr) (us:List V) (H':Hp),Same H H'->H lw=none->H' lw=some (.lst us)->RdVs H' us ((Jw w W i hp l).map dW)->Q (.ref lw) H'):PU C vs H Q E0_
def Rl {xss:List (List Str)}:∀{i:Nat}(_:i<xss.length) (z:List Str),(xss.set i z).flatten.Perm (z++(xss.set i []).flatten):=by
 induction xss with
 | nil=>intro i h;cases h
 | cons y r ih=>
  intro i h z;cases i with
  | zero=>exact .refl _
  | succ i=>show(y++(r.set i z).flatten).Perm (z++(y++(r.set i []).flatten));refine(JQ y (ih (Nat.lt_of_succ_lt_succ h) z)).trans ?_;(rw[<- Di,<- Di]);(exact Sw _ Sv)
def V3 {xss:List (List Str)}{i:Nat}{a:List Str}(h:xss[i]? = some a):xss.flatten.Perm (a++(xss.set i []).flatten):=by
 (obtain⟨b,e⟩:=Ay.mp h);have c:xss.set i a=xss:=by rw[<- e];exact List.set_getElem_self b
 have:=Rl b a;rw[c]at this;exact this
def VY (a:Fw rs W)(sz:Sz W (plc rs).length)(c:(Z.hand.toList++Z.heaps.flatten).Perm (W.hand.toList++W.heaps.flatten))(d:Z.heaps.length=W.heaps.length)(b:Z.lids=W.lids):Fw rs Z/\Sz Z (plc rs).length:=
 ⟨⟨c.trans a.perm,b▸a.lids⟩,d.trans sz.1,b▸sz.2⟩
def mE {t:Str}{k:Nat}(c:Fw rs W)(sz:Sz W (plc rs).length)(d:W.hand=some t)(b:k<W.heaps.length):Fw rs (N9 t W k)/\Sz (N9 t W k) (plc rs).length:=by
 have a:W.heaps[k]? = some (W.heaps.getD k []):=by rw[CA,AJ b];rfl
 refine VY c sz ?_ (FU ..) U;rw[d];refine(Rl b _).trans (List.Perm.trans ?_ (JQ [t] (V3 a).symm));rw[<- Di];(exact Sw _ Sv)
def iL {w:Str} (f:Fw rs W)(sz:Sz W (plc rs).length)(pt:Pt rs W i p hp l)(C:Pt rs W j pj hq lq)(B:w = "tip" -> i≠j)(A:w∈IH):∀a∈GC w p W i hp l j hq lq,Fw rs a/\Sz a (plc rs).length:=by
 have d:=(Ay.mp pt.he).1;have m:=(Ay.mp pt.li).1;intro a b;unfold GC at b;split at b
 ·rename_i u;have s:w = "open" \/ w = "shut" := (Qr A).resolve_left λz=>TF z u;unfold Fo at b;split at b
  ·rename_i g;rw[AR.mp b];refine⟨⟨f.perm,λk pk lk o h=>?_⟩,sz.1,(FU ..).trans sz.2⟩;have c:(W.lids.set i (GO w))[k]? = some lk:=h;by_cases e:i=k
   ·subst e;rw[JS m]at c;have v:=BG c;rw[pt.pl]at o;have r:=BG o;subst r;subst v;have n:=g.2;unfold LK at n;rcases s with e | e
    ·subst e;exact .inl Δ
    subst e;rw[Ak Δ,BV]at n;exact .inr (.inl ⟨Δ,n.2⟩)
   rw[Ki e]at c;exact f.lids k pk lk o c
  cases b
 unfold Jw at b;split at b
 ·unfold Eu at b;split at b
  ·rename_i g;rw[AR.mp b];refine VY f sz ?_ (by show(W.heaps.set i _).length=_;rw[FU]) U
   obtain⟨y,q⟩:∃y,hp.getLast? = some y:=by
    cases hg:hp.getLast? with
    | none=>exact absurd (O1.mp hg) g.2.2
    | some y=>exact⟨y,U⟩
   obtain⟨ys,e⟩:=Xj.mp q;rw[g.1];show(hp.getLast?.toList++(W.heaps.set i hp.dropLast).flatten).Perm ([]++W.heaps.flatten);rw[q];refine(JQ _ (Rl d _)).trans ?_;refine List.Perm.trans ?_ (V3 pt.he).symm;rw[<- Di];refine Sw _ ?_;rw[e,List.dropLast_concat];exact Sv
  cases b
 unfold putF at b;split at b
 ·rename_i t x;split at b
  ·rw[AR.mp b];exact mE f sz x d
  cases b
 cases b
inductive MX (K:W.Frag)(vs:List V)(H:Hp)(Q:VK)(E0_:XK):Prop
 | mk (a:Addr) (ns:List Int) (c0:vs=[.ref a]) (c1:SqL K H a (ns.map V.int)) (c2:ns.length<=63) (c3:∀H',Q (.bl true) H'):MX K vs H Q E0_
abbrev QY:List Str:=["_law_script"]
abbrev jI:List Str:=Cj QY ["_law_drawn", "_law_room_here", "_law_worlds", "_law_places", "_law_deeds", "_law_looks", "_law_told", "_law_first", "_law_due"]
def scLaw:AI jI QY (Aq Hl):=AO
def eS (F:Fun K "move_things" "move_things" Ni f fd)(a:Ca P w K mg base CX0 4 "take" Na K6 (Kz C Eu))(b:Ca P w K mg base CX0 5 "put" Nf K7 (Kz C putF)):FnOk P w K mg base CX0 6 f fd La (PU C):=by
 refine F.oq Zr λcdv A outer s H vs Q E d h=>?_;obtain⟨x,rs,v,W,w,i,p,o,l,rfl,R,g,n,pt,r,j,q⟩:=h;have e:Room 4 _:=d.mono Ξ;refine⟨_,(Ah (AL (AM Bt (pv 2) Aw (AE _)) (Am (AC (AN a e Ao (Aa (pv 0) (Aa (pv 1) (Aa (pv 3) Ab)))))) AK) (Ah (AL (AM Bt (pv 2) Aw (AE _)) (Am (AC (AN b d Ao (Aa (pv 0) (Aa (pv 1) (Aa (pv 3) Ab)))))) AK) (Ah (AL (AM Bt (pv 2) Aw (AE _)) (Am QM) AK) (Am QM)))),?_⟩;unfold Jw at q;refine⟨_,U,U,_,U,?_⟩;rcases ME r with c | m
 ·rw[Ar c]at q;exact HU c ⟨_,U,_,U,_,U,x,rs,v,W,i,p,o,l,U,R,g,n,pt,j,q⟩
 have c:¬w = "take" := by rw[m];decide +kernel
 rw[Ak c]at q;refine HV c ?_;refine⟨_,U,U,_,U,?_⟩;exact HU m ⟨_,U,_,U,_,U,x,rs,v,W,i,p,o,l,U,R,g,n,pt,j,q⟩
def cV (F:Fun K "turns" "turns" KE f fd)(DL:Dl P w K mg aL t1 t2 t3 t4)(b:Ca P w K mg base CX0 2 "read_deed" Hk Hz (MP C))(a:Ca P w K mg base CX0 6 "move_things" Ni La (PU C))(c:Ca P w K mg base CX0 4 "move_lid" Nj Lb (PV C)):FnOk P w K mg base CX0 7 f fd Jg (MM C):=by
 refine F.oq scTurns λcdv A outer s H vs Q E o h=>?_;obtain⟨x,rs,v,W,z,w,i,p,hp,l,j,pj,hq,lq,rfl,R,g,rv,hw,ln,pt,pq,a2,m,fh,L,q⟩:=h;have G:Room 2 _:=o.mono Ξ;have X:Room 4 _:=o.mono Ξ;refine⟨_,(Ah (AD (i:=3) scTurns.nd (AN b G Ao (Aa (pv 0) (Aa (pv 1) Ab)))) (Ah (AL (AM Bt (Av Bb (pv 3) Ae (λ_ _=>U)) Aw (AE _)) (Am QM) AK) (Ah (AL (Hr (cH (Av Bb (pv 3) Ae (λ_ _=>U)) (B7 (v:=.ref aL) Φ DL.lm U))) (Am (AC (AN c X Ao (Aa (pv 0) (Aa (pv 2) (Aa (Av Bb (pv 3) Ae (λ_ _=>U)) (Aa (Av Bb (pv 3) Ae (λ_ _=>U)) Ab))))))) AK) (Am (AC (AN a o Ao (Aa (pv 0) (Aa (pv 2) (Aa (Av Bb (pv 3) Ae (λ_ _=>U)) (Aa (Av Bb (pv 3) Ae (λ_ _=>U)) Ab)))))))))),?_⟩;unfold GC at q;have n:¬w = "tip" := λe=>by rw[e]at m;exact absurd m Δ
 unfold FF at hw;rw[Ak n]at hw
 have S:CC w=V.int 1:=by
  rcases Qr m with d | d | d
  ·rcases ME d with e | e <;> (rw[e];decide +kernel)
  ·rw[d];decide +kernel
  rw[d];decide +kernel
 refine⟨_,U,_,U,x,rs,z,_,_,U,R,hw,ln,by show 1<=100;decide,Wm pt.pl S,λr H1 y u=>?_⟩;have B:atI (([w,p.1]:List Str).map V.str) ((0:Nat):Int)=some (.str w):=AB U;have a1:atI (([w,p.1]:List Str).map V.str) ((1:Nat):Int)=some (.str p.1):=AB U;refine⟨_,U,r,_,_,_,U,U,SqL.of u,B,U,_,U,?_⟩;refine HV n ?_;refine⟨_,U,r,_,_,_,U,U,SqL.of u,B,aL,_,(Sum.inr w:Key),U,DL.ld,U,_,U,?_⟩;rcases Qr m with d | d
 ·rw[Ak (TF d)]at q;have D:w∈Jv:=by rcases ME d with e | e <;> (rw[e];decide +kernel)
  rw[lS D];refine BH ?_;exact⟨_,U,_,U,_,U,r,_,_,_,U,U,SqL.of u,B,_,U,r,_,_,_,U,U,SqL.of u,a1,x,rs,v,W,w,i,p,hp,l,U,R.same y,g,y.rd rv,pt,d,fh,λI us M s2 _ N T=>q I us M (y.trans s2) N T⟩
 have d:w∈EG:=by rcases d with e | e <;> (rw[e];decide +kernel)
 rw[Ar d]at q;obtain⟨t,hv,_⟩:=DL.got d;rw[hv];refine BA ?_;exact⟨_,U,_,U,_,U,r,_,_,_,U,U,SqL.of u,B,_,U,r,_,_,_,U,U,SqL.of u,a1,x,rs,v,W,w,i,p,hp,l,U,R.same y,g,y.rd rv,pt,L,d,λI us M s2 N T=>q I us M (y.trans s2) N T⟩
def SU (ns:List Int):Prop:=∀n∈ns,0<=n/\n<200
def bt (ns:List Int):Nat:=ns.foldl (λm n=>m|||2^n.toNat) 0
def U8 (a b:Nat):Builtin.bitOr (a:Int) b=((a|||b:Nat):Int):=by
 have d:¬(0:Int)<=Builtin.bitNot a:=by unfold Builtin.bitNot;lia
 have e:¬(0:Int)<=Builtin.bitNot b:=by unfold Builtin.bitNot;lia
 have c:∀x:Int,Builtin.bitNot (Builtin.bitNot x)=x:=λx=>by unfold Builtin.bitNot;lia
 unfold Builtin.bitOr Builtin.bitAnd;rw[BR d,BR e];dsimp only;rw[c,c,c,C9,C9]
def WX (ns:List Int)(n:Int):bt (ns++[n])=bt ns|||2^n.toNat:=by unfold bt;rw[List.foldl_append];rfl
def bE (k:Nat):(2:Int)^k=((2^k:Nat):Int):=by rw[Int.natCast_pow];rfl
def Zi (I:L2.St->Hp->Prop)(c:∀a H',I a H'->R D a H')(e:∀N:L2.St->Hp->Prop,(∀a H',I a H'->N a H')->E4 i v σ H λb d=>s { D with nx:=N } b d):E4 i v σ H (TN s R D):=e (R D) c
theorem QI :∀ns:List Int,RdVs H (ns.map V.int) (ns.map PyData.int)
 | []=>.nil
 | n::r=>.cons (.int n) (QI r)
def qA (n:Int):PyData.eqv (.int n) (.int n)=true:=by simp[PyData.eqv]
theorem Wb:∀ns:List Int,PyData.eqvAll (ns.map PyData.int) (ns.map PyData.int)=true
 | []=>by simp[PyData.eqvAll]
 | n::r=>by rw[Bg,PyData.eqvAll,qA,Wb r];rfl
def pZ (ns:List Int):PyData.eqv (.list (ns.map PyData.int)) (.list (ns.map PyData.int))=true:=by rw[PyData.eqv,Wb]
theorem Vt:∀ns:List Int,PyData.canLayAll0 (ns.map PyData.int)=true
 | []=>by rw[Eb,PyData.canLayAll0]
 | n::r=>by rw[Bg,PyData.canLayAll0,Vt r,PyData.canLay0];rfl
theorem Wq:∀ns:List Int,PyData.depthAll (ns.map PyData.int)<=0
 | []=>by rw[Eb,PyData.depthAll];exact Bn _
 | n::r=>by have h:=Wq r;rw[Bg,PyData.depthAll,PyData.depth];lia
def Ud (ns:List Int):shaped (.list (ns.map PyData.int))=true:=by unfold shaped;rw[PyData.canLay0,Vt,PyData.depth];have:=Wq ns;(rw[AU Ψ]);rfl
def qX (ns:List Int):∃ds:List Int,SK.dd (Bx (ns.map (Sum.inl:Int->Key))) (ns.map (Sum.inl:Int->Key)).length=ds.map Sum.inl/\ds.Nodup/\(∀n,n∈ds↔n∈ns)/\ds.length<=ns.length:=by
 have l:(ns.map (Sum.inl:Int->Key)).length=ns.length:=Ai ..;rw[l]
 have o:∀i,i<=ns.length->∃ds:List Int,SK.dd (Bx (ns.map (Sum.inl:Int->Key))) i=ds.map Sum.inl/\ds.Nodup/\(∀n,n∈ds↔n∈ns.take i)/\ds.length<=i:=by
  intro i;induction i with
  | zero=>exact λ_=>⟨[],U,JV,λn=>by simp,An _⟩
  | succ i ih=>
   intro j;have d:i<ns.length:=j;obtain⟨ds,e,nd,b,le⟩:=ih Ψ;have g:Bx (ns.map (Sum.inl:Int->Key)) i=Sum.inl ns[i]:=by simp[Bx,List.getD,d]
   have f:=BL d;have c:(Sum.inl ns[i]:Key)∈ds.map (Sum.inl:Int->Key)↔ns[i]∈ds:=by rw[Ba];exact⟨λ⟨m,a,e⟩=>by cases e;exact a,λh=>⟨_,h,U⟩⟩
   by_cases a:ns[i]∈ds
   ·refine⟨ds,?_,nd,λn=>?_,Ψ⟩
    ·unfold SK.dd;rw[e,g,Ar (c.mpr a)]
    rw[f,BF,AR,b n];exact⟨.inl,λz=>z.elim id λz=>by rw[z];exact(b _).mp a⟩
   refine⟨ds++[ns[i]],?_,Q8 nd a,λn=>?_,by rw[AG];exact L8 le⟩
   ·unfold SK.dd;rw[e,g,Ak λz=>a (c.mp z),AW];rfl
   rw[f,BF,BF,b n]
 obtain⟨ds,e,nd,b,le⟩:=o ns.length (An _);rw[Cd]at b;exact⟨ds,e,nd,b,le⟩
inductive Kx (K:W.Frag)(vs:List V)(H:Hp)(Q:VK)(E0_:XK):Prop
 | mk (a:Addr) (ns:List Int) (c0:vs=[.ref a]) (c1:SqL K H a (ns.map V.int)) (c2:SU ns) (c3:Q (.int (bt ns:Nat)) H):Kx K vs H Q E0_
abbrev Hy:List Str:=["worlds"]
abbrev iT:List Str:=Cj Hy ["some", "world"]
def scSetOf:AI iT Hy (Aq IK):=AO
abbrev cI:List Str:=["some"]
def dF (F:Fun K "set_of" "set_of" IK f fd):FnOk P w K mg base CX0 1 f fd Hy (Kx K):=by
 refine F.oq scSetOf λcdv A outer s H vs Q E v h=>?_;obtain⟨a,ns,rfl,o,wd,q⟩:=h;refine⟨_,(Ah (AD (i:=1) scSetOf.nd Ae) (Ah (Cg CK U (BS (pv 0)) (AS (i:=2) scSetOf.nd) (Am (AD (i:=1) scSetOf.nd (As U9 (pv 1) (As cK Ae (pv 2)))))) (Am (AC (pv 1))))),?_⟩;refine⟨_,U,a,U,⟨_,o⟩,DM (K:=K) (a:=a) (xs:=ns.map V.int) (λi b c=>∃j:Option V,b = [some (.ref a),some (.int (bt (ns.take i):Nat)),j]/\c=H) ⟨none,U,U⟩ (λi b c _ d=>by obtain⟨_,_,e⟩:=d;rw[e];exact o) ?_ ?_⟩
 ·rintro i x b c p ⟨j,rfl,e⟩;rw[AQ]at p;obtain⟨n,m,rfl⟩:=L7.mp p;have r:i<ns.length:=(Ay.mp m).1;have l:ns[i]=n:=(Ay.mp m).2;have u:=wd n (Br m);have g:Builtin.bitOr ((bt (ns.take i):Nat):Int) (1*2^n.toNat)=((bt (ns.take (i+1)):Nat):Int):=by rw[BL r,l,WX,one_mul,bE,U8]
  refine⟨_,U,_,U,_,_,U,U,⟨u.1,Ψ,Ξ⟩,_,_,U,U,?_⟩;exact⟨some (.int n),by rw[<- g];rfl,e⟩
 rintro b c ⟨j,rfl,e⟩;rw[show(ns.map V.int).length=ns.length from Ai ..,Cd,e];exact⟨_,U,q⟩
structure Mc (mg:Str->Option Value):Prop where
 mw:∃t,mg "MOST_WORLDS" = some (.int 200 t)
 ms:∃t,mg "MOST_STEPS" = some (.int 40 t)
 mn:∃t,mg "MOST_SIGNS" = some (.int 30 t)
 mp:∃t,mg "MOST_PRICE" = some (.int 1000000000 t)
inductive StV (H:Hp)(v:V)(n:Str)(p:Int)(t:Addr):Prop
 | mk (a:Addr) (e:v=.ref a) (h:H a=some (.tup [.str n,.int p,.ref t])):StV H v n p t
structure A2 {α:Type}(R:V->α->Prop)(vs:List V)(ts:List α):Prop where
 len:vs.length=ts.length
 got:∀(i:Nat) v t,vs[i]? = some v->ts[i]? = some t->R v t
def A2.mono {b:Type}{R S:V->b->Prop}{vs:List V}{ts:List b}(h:A2 R vs ts)(m:∀v t,v∈vs->R v t->S v t):A2 S vs ts:=⟨h.len,λi v t a c=>m v t (Br a) (h.got i v t a c)⟩
def A2.at {d:Type}{R:V->d->Prop}{vs:List V}{b:List d}(h:A2 R vs b){i:Nat}{v:V}(c:vs[i]? = some v):∃t,b[i]? = some t/\t∈b/\R v t:=by
 have a:i<b.length:=by rw[<- h.len];exact ((Ay.mp c).1)
 exact⟨b[i],AJ a,CI a,h.got i v _ c (AJ a)⟩
def A2.app {g:Type}{R:V->g->Prop}{vs b:List V}{f a:List g}(h:A2 R vs f)(h':A2 R b a):A2 R (vs++b) (f++a):=⟨by rw[AG,AG,h.len,h'.len],λi v t c d=>by
 by_cases e:i<vs.length
 ·rw[Da e]at c;rw[Da (by rw[<- h.len];exact e)]at d;exact h.got i v t c d
 rw[ER Ψ]at c;rw[ER (by rw[<- h.len];lia),<- h.len]at d;exact h'.got _ v t c d⟩
structure Dee where
 name:Str
 price:Int
 tab:List (List Int)
structure Loo where
 name:Str
 price:Int
 tab:List (Option Str)
def oS:Option Str->V
 | none=>.non
 | some x=>.str x
inductive EnV (H:Hp)(v:V)(ns:List Int):Prop
 | mk (b:Addr) (e:v=.ref b) (h:H b=some (.lst (ns.map V.int))):EnV H v ns
inductive DeV (H:Hp)(v:V)(d:Dee):Prop
 | mk (t:Addr) (es:List V) (s:StV H v d.name d.price t) (ht:H t=some (.lst es)) (he:A2 (EnV H) es d.tab):DeV H v d
inductive LoV (H:Hp)(v:V)(l:Loo):Prop
 | mk (t:Addr) (s:StV H v l.name l.price t) (ht:H t=some (.lst (l.tab.map oS))):LoV H v l
inductive Qg (vs:List V)(H:Hp)(Q:VK)(E0_:XK):Prop
 | mk (m:Int) (c0:vs=[.int m]) (c1:1<=m) (c2:m<=200) (c3:Q .non H):Qg  vs H Q E0_
inductive M7 (vs:List V)(H:Hp)(Q:VK)(E0_:XK):Prop
 | mk (x:Str) (c0:vs=[.str x]) (c1:1<=x.length) (c2:x.length<=30) (c3:Q .non H):M7  vs H Q E0_
inductive M5 (vs:List V)(H:Hp)(Q:VK)(E0_:XK):Prop
 | mk (p:Int) (c0:vs=[.int p]) (c1:1<=p) (c2:p<=1000000000) (c3:Q .non H):M5  vs H Q E0_
inductive M3 (vs:List V)(H:Hp)(Q:VK)(E0_:XK):Prop
 | mk (m:Int) (n:V) (t:Addr) (xs:List V) (c0:vs=[.int m,n,.ref t]) (c1:H t=some (.lst xs)) (c2:(xs.length:Int)=m) (c3:Q .non H):M3  vs H Q E0_
inductive Qi (vs:List V)(H:Hp)(Q:VK)(E0_:XK):Prop
 | mk (m:Int) (n:V) (b:Addr) (ns:List Int) (c0:vs=[.int m,n,.ref b]) (c1:H b=some (.lst (ns.map V.int))) (c2:ns.Pairwise (· < ·)) (c3:(∀x∈ns,0<=x/\x<m)) (c4:ns.length<=60) (c5:∀H':Hp,Same H H'->Q .non H'):Qi  vs H Q E0_
abbrev Gx:List Str:=["many"]
abbrev kG:List Str:=Gx
def Ul:AI kG Gx (Aq IU):=AO
abbrev HM:List Str:=["name"]
abbrev kE:List Str:=HM
def Uk:AI kE HM (Aq IT):=AO
abbrev HL:List Str:=["price"]
abbrev kD:List Str:=HL
def Uj:AI kD HL (Aq IS):=AO
abbrev Jq:List Str:=["many", "name", "table"]
abbrev kB:List Str:=Jq
def ZG:AI kB Jq (Aq KS):=AO
abbrev Lm:List Str:=["many", "name", "entry"]
abbrev kH:List Str:=Lm
def ZH:AI kH Lm (Aq KU):=AO
abbrev Gw:List Str:=["deeds", "looks"]
abbrev kC:List Str:=Cj Gw ["steps", "names", "step"]
def scCheckSteps:AI kC Gw (Aq Gk):=AO
structure Ec (s:Str×Int):Prop where
 n1:1<=s.1.length
 n2:s.1.length<=30
 p1:1<=s.2
 p2:s.2<=1000000000
def Mm (H:Hp)(v:V)(s:Str×Int):Prop:=∃(a:Addr) (r:List V),v=V.ref a/\H a=some (.tup (.str s.1::.int s.2::r))
inductive M4 (vs:List V)(H:Hp)(Q:VK)(E0_:XK):Prop
 | mk (a b:Addr) (ds ls:List V) (st:List (Str×Int)) (c0:vs=[.ref a,.ref b]) (c1:H a=some (.lst ds)) (c2:H b=some (.lst ls)) (c3:A2 (Mm H) (ds++ls) st) (c4:ds.length<=40) (c5:ls.length<=40) (c6:(st.map (·.1)).Nodup) (c7:(∀s∈st,Ec s)) (c8:∀H':Hp,Same H H'->Q .non H'):M4  vs H Q E0_
structure KA {α:Type}(nm:α->Str)(R:V->α->Prop)(kvs:List (Key×V))(ds:List α):Prop where
 len:kvs.length=ds.length
 got:∀(i:Nat) kv d,kvs[i]? = some kv->ds[i]? = some d->kv.1=Sum.inr (nm d)/\R kv.2 d
def KA.nil {a:Type}{nm:a->Str}{R:V->a->Prop}:KA nm R [] []:=⟨U,λi b d h _=>by cases h⟩
def KA.mono {b:Type}{nm:b->Str}{R S:V->b->Prop}{kvs:List (Key×V)}{ds:List b}(h:KA nm R kvs ds)(m:∀v d,d∈ds->R v d->S v d):KA nm S kvs ds:=⟨h.len,λi e d c a=>⟨(h.got i e d c a).1,m _ _ (Br a) (h.got i e d c a).2⟩⟩
def KA.snoc {c:Type}{nm:c->Str}{R:V->c->Prop}{kvs:List (Key×V)}{ds:List c}{d:c}{v:V}(h:KA nm R kvs ds)(r:R v d):KA nm R (kvs++[(Sum.inr (nm d),v)]) (ds++[d]):=⟨by simp[h.len],λi f x a b=>by
 by_cases e:i<kvs.length
 ·rw[Da e]at a;rw[Da (by rw[<- h.len];exact e)]at b;exact h.got i f x a b
 rw[ER Ψ]at a;rw[ER (by rw[<- h.len];lia),<- h.len]at b;have h0:i-kvs.length=0:=by have:=(Ay.mp a).1;simp at this;lia
 rw[h0]at a b;cases a;cases b;exact⟨U,r⟩⟩
def KA.keysE {b:Type}{nm:b->Str}{R:V->b->Prop}{kvs:List (Key×V)}{ds:List b}(h:KA nm R kvs ds):kvs.map (·.1)=ds.map λd=>(Sum.inr (nm d):Key):=by
 apply R9;intro i;rw[AQ,AQ];cases hk:kvs[i]? with
 | none=>have:kvs.length<=i:=LW.mp hk;rw[R8 (by rw[<- h.len];exact this)];rfl
 | some kv=>
  have c:=(Ay.mp hk).1;have a:i<ds.length:=by rw[<- h.len];exact c
  rw[AJ a];show some kv.1=some _;rw[(h.got i kv _ hk (AJ a)).1]
theorem KA.none {a:Type}{nm:a->Str}{R:V->a->Prop}{kvs:List (Key×V)}{ds:List a}(h:KA nm R kvs ds){x:Str}(f:x∉ds.map nm):Ax kvs (Sum.inr x:Key)=none:=by
 cases e:Ax kvs (Sum.inr x:Key)with
 | none=>rfl
 | some v=>exfalso;have:=MA e;rw[h.keysE]at this;obtain⟨d,c,b⟩:=Ba.mp this;exact f (Ba.mpr ⟨d,c,C0 b⟩)
def X0 {kvs:List (Key×V)}(nd:(kvs.map (·.1)).Nodup){i:Nat}{a:Key×V}(h:kvs[i]? = some a):Ax kvs a.1=some a.2:=by
 induction (kvs) generalizing i with
 | nil=>cases h
 | cons p r ih=>
  rw[Bg]at nd;(obtain⟨b,c⟩:=B6.mp nd);cases i with
  | zero=>cases h;exact Ct U
  | succ i=>have h':=h;rw[Bp (λe=>b (e▸Ba.mpr ⟨a,Br h',U⟩))];exact ih c h'
inductive OuV (H:Hp)(v:V)(d:Dee):Prop
 | mk (t:Addr) (e:v=.ref t) (h:H t=some (.tup (d.tab.map λn=>V.int (bt n:Nat)))):OuV H v d
inductive AnV (H:Hp)(v:V)(l:Loo):Prop
 | mk (t:Addr) (e:v=.ref t) (h:H t=some (.tup (l.tab.map oS))):AnV H v l
structure DeOk (many:Nat)(d:Dee):Prop where
 len:d.tab.length=many
 up:∀e∈d.tab,e.Pairwise (· < ·)
 inn:∀e∈d.tab,∀x∈e,0<=x/\x<(many:Int)
 few:∀e∈d.tab,e.length<=60
def DeOk.wd (h:DeOk many d)(m:many<=200):∀e∈d.tab,SU e:=λe b n a=>⟨(h.inn e b n a).1,by have:=(h.inn e b n a).2;lia⟩
inductive PM (vs:List V)(H:Hp)(Q:VK)(E0_:XK):Prop
 | mk (m:Nat) (a:Addr) (us:List V) (ds:List Dee) (c0:vs=[.int (m:Int),.ref a]) (c1:m<=200) (c2:H a=some (.lst us)) (c3:A2 (DeV H) us ds) (c4:(∀d∈ds,DeOk m d)) (c5:(ds.map Dee.name).Nodup) (c6:ds.length<=40) (c7:∀(d:Addr) (kvs:List (Key×V)) (H':Hp),Same H H'->H d=none->H' d=some (.dK kvs)->KA Dee.name (OuV H') kvs ds->Q (.ref d) H'):PM  vs H Q E0_
inductive PK (vs:List V)(H:Hp)(Q:VK)(E0_:XK):Prop
 | mk (m:Nat) (a:Addr) (us:List V) (ls:List Loo) (c0:vs=[.int (m:Int),.ref a]) (c1:m<=200) (c2:H a=some (.lst us)) (c3:A2 (LoV H) us ls) (c4:(∀l∈ls,l.tab.length=m)) (c5:(ls.map Loo.name).Nodup) (c6:ls.length<=40) (c7:∀(d:Addr) (kvs:List (Key×V)) (H':Hp),Same H H'->H d=none->H' d=some (.dK kvs)->KA Loo.name (AnV H') kvs ls->Q (.ref d) H'):PK  vs H Q E0_
abbrev Jj:List Str:=["many", "deeds"]
abbrev iW:List Str:=Cj Jj ["found", "deed", "name", "table", "entry"]
def scReadDeeds:AI iW Jj (Aq KI):=AO
abbrev Ji:List Str:=["many", "looks"]
abbrev iU:List Str:=Cj Ji ["found", "look"]
def scReadLooks:AI iU Ji (Aq Nd):=AO
def OuV.keep (k:∀b xs,H b=some (.tup xs)->H' b=some (.tup xs))(h:OuV H v d):OuV H' v d:=by obtain⟨t,e,h⟩:=h;exact⟨t,e,k _ _ h⟩
def AnV.keep (k:∀b xs,H b=some (.tup xs)->H' b=some (.tup xs))(h:AnV H v l):AnV H' v l:=by obtain⟨t,e,h⟩:=h;exact⟨t,e,k _ _ h⟩
def gV (F:Fun K "check_many" "check_many" IU f fd)(M:Mc mg):FnOk P w K mg base CX0 1 f fd Gx Qg:=by obtain⟨d,c⟩:=M.mw;refine F.oq Ul ?_;rintro cdv A outer s H vs Q E e⟨m,rfl,a,b,q⟩;refine⟨_,(Am (AL (DV (Ja Eh Eh Ae (pv 0) (B7 (v:=.int 200) Φ c ⟨_,U⟩))) Cu AK)),_,U,_,_,U,U,_,U,?_⟩;rw[AU a];apply BA;refine⟨_,_,U,U,_,U,?_⟩;rw[AU b];exact BH q
def gU (F:Fun K "check_name" "check_name" IT f fd)(T:Bl mg)(M:Mc mg):FnOk P w K mg base CX0 1 f fd HM M7:=by obtain⟨g,a⟩:=M.mn;refine F.oq Uk ?_;rintro cdv A outer s H vs Q E c⟨x,rfl,e,d,q⟩;have b:=AF;refine⟨_,(Am (AL (DV (Ja Eh Eh Ae (AX BI Φ T.len Bj (Aa (pv 0) Ab)) (B7 (v:=.int 30) Φ a ⟨_,U⟩))) Cu AK)),_,U,_,_,U,⟨Ψ,U⟩,_,_,U,U,_,U,?_⟩;rw[AU (show(1:Int)<=(x.length:Int) by lia)];apply BA;refine⟨_,_,U,U,_,U,?_⟩;rw[AU (show(x.length:Int)<=30 by lia)];exact BH q
def gS (F:Fun K "check_price" "check_price" IS f fd)(M:Mc mg):FnOk P w K mg base CX0 1 f fd HL M5:=by obtain⟨d,c⟩:=M.mp;refine F.oq Uj ?_;rintro cdv A outer s H vs Q E e⟨m,rfl,a,b,q⟩;refine⟨_,(Am (AL (DV (Ja Eh Eh Ae (pv 0) (B7 (v:=.int 1000000000) Φ c ⟨_,U⟩))) Cu AK)),_,U,_,_,U,U,_,U,?_⟩;rw[AU a];apply BA;refine⟨_,_,U,U,_,U,?_⟩;rw[AU b];exact BH q
def gQ (F:Fun K "check_table" "check_table" KS f fd)(T:Bl mg):FnOk P w K mg base CX0 1 f fd Jq M3:=by refine F.oq ZG ?_;rintro cdv A outer s H vs Q E c⟨m,n,t,xs,rfl,b,a,q⟩;refine⟨_,(Am (AL (AM Gz (AX BI Φ T.len Bj (Aa (pv 2) Ab)) (pv 0) (AE _)) Cu AK)),_,U,_,_,U,.inl ⟨_,SqL.of b,U⟩,_,U,U,_,U,?_⟩;rw[a];refine Bi (λz=>?_) (λ_=>q);simp at z
def gX (F:Fun K "check_entry" "check_entry" KU f fd)(T:Bl mg):FnOk P w K mg base CX0 1 f fd Lm Qi:=by
 refine F.oq ZH λcdv A outer s H vs Q E hr h=>?_;obtain⟨m,n,b,ns,rfl,u,L,hx,hl,q⟩:=h;have x:=hr.units;have a0:sizeLine=16777216:=AF;refine⟨_,(Ah (AL (AM (cM x) (BK DQ Φ T.list Dh (Aa (pv 2) Ab)) (AX (rT U) Φ T.sorted RM (Aa (BK (rV U) Φ T.set LS (Aa (pv 2) Ab)) Ab)) (AE _)) Cu AK) (Am (AL (DV (Ey (AX (RL U) Φ T.all RO (Aa (Dx (N:=["world", "many"]) (sc:=Aq KU) (own:=["world"]) (fr:=["many"]) (js:=[0]) B0 U (BS (pv 2)) (λ_ _ _ _=>AS (i:=0) (show List.Nodup (["world", "many"]:List Str) by decide +kernel)) (λ_ _ _ _=>Ck) (λ_ _ _ _=>(cD Eh GB Ae (pv 0) (pv 1)))) Ab)))) Cu AK))),?_⟩;refine⟨_,U,b,_,U,.inl (SqL.of u),λl1 B=>?_⟩;obtain⟨e,g0,I,e1⟩:=Dg (H:=H) (o:=.lst (ns.map V.int)) B;rw[g0];have l:=I _ _ u;obtain⟨ds,ed,nd,me,ld⟩:=qX ns;have W:ns.map V.int=(ns.map (Sum.inl:Int->Key)).map kV:=by rw[BD];rfl
 refine⟨_,U,b,ns.map Sum.inl,U,SqL.of (by rw[<- W];exact l),by rw[Ai];lia,λst v=>?_⟩;rw[ed];have s2:Same e (Y e st (Gf P w st (ds.map Sum.inl))):=Same.new v;refine⟨st,ds,U,Ag,nd,Ψ,λp c z M so=>?_⟩;have hz:c=ns:=by have X:ds.Perm ns:=(perm_ext_iff_of_nodup nd (L.imp λh=>Int.ne_of_lt h)).mpr me;exact List.Perm.eq_of_pairwise (le:=(·<=·)) (λa b _ _ h1 h2=>by lia) so (L.imp λh=>Int.le_of_lt h) (M.trans X)
 subst hz;have s3:Same e (Y (Y e st (Gf P w st (ds.map Sum.inl))) p (.lst (c.map V.int))):=Same.put (H':=Y e st (Gf P w st (ds.map Sum.inl))) (o:=.lst (c.map V.int)) s2 (s2.free z);have S:(Y (Y e st (Gf P w st (ds.map Sum.inl))) p (.lst (c.map V.int))) p=some (.lst (c.map V.int)):=Ag;refine⟨l1,p,_,_,_,_,U,U,s3 _ _ e1,S,QI _,QI _,Ud _,Ud _,_,U,?_⟩;rw[pZ];refine BH ?_;have d:=s3 _ _ l;refine⟨_,U,b,U,⟨_,SqL.of d⟩,λD hD=>?_⟩
 refine Co (n:=c.length) (λi ys j=>ys=(replicate i true).map V.bl/\Same (Y (Y e st (Gf P w st (ds.map Sum.inl))) p (.lst (c.map V.int))) j/\j D=some (.lst ys)) ⟨U,Same.new hD,Ag⟩
  (λi ys j r g=>by obtain⟨_,s4,_⟩:=g;exact⟨_,.int c[i],SqL.of (s4 _ _ d),by simp[r]⟩) (λys j g=>by obtain⟨_,s4,_⟩:=g;exact⟨_,SqL.of (s4 _ _ d),Θ⟩) ?_ ?_
 ·rintro i ys j y H4 r ⟨rfl,s4,C⟩ ⟨rfl,hy⟩;refine Cn ?_;have G:y=.int c[i]:=by have:=hy _ (SqL.of (s4 _ _ d));rw[AQ,AJ r]at this;(exact(BG this).symm)
  subst G;obtain⟨x0,R⟩:=hx _ (CI r);refine⟨_,U,_,_,U,U,_,U,?_⟩;rw[AU x0];refine BA ?_;refine⟨_,U,_,_,U,U,?_⟩;rw[AU R];refine⟨_,C,by rw[Ai,Fz];lia,?_,s4.put hD,Ag⟩;rw[List.replicate_succ',AW];rfl
 rintro ys j ⟨rfl,s4,C⟩;refine⟨D,_,U,SqL.of C,_,U,?_⟩;rw[show(replicate c.length true).all (λb=>b)=true from DB.mpr λb u=>(HZ.mp u).2];exact BH (q j ((I.trans s3).trans s4))
def gR (F:Fun K "check_steps" "check_steps" Gk f fd)(T:Bl mg)(M:Mc mg)(d:Ca P w K mg base CX0 1 "check_name" IT HM M7)(c:Ca P w K mg base CX0 1 "check_price" IS HL M5):FnOk P w K mg base CX0 2 f fd Gw M4:=by
 obtain⟨t1,m1⟩:=M.ms;refine F.oq scCheckSteps λcdv A outer s H vs Q E R h=>?_;obtain⟨a,b,ds,ls,st,rfl,ha,hb,G,ad,fl,nd,ok,q⟩:=h;have ae:sizeLine=16777216:=AF;refine⟨_,(Ah (AL (PW.pt (Ex (AM Fk (AX BI Φ T.len Bj (Aa (pv 0) Ab)) (B7 (v:=.int 40) Φ m1 ⟨_,U⟩) (AE _)) (Fg (AM Fk (AX BI Φ T.len Bj (Aa (pv 1) Ab)) (B7 (v:=.int 40) Φ m1 ⟨_,U⟩) (AE _))))) Cu AK) (Ah (AD (i:=2) scCheckSteps.nd (As CU (BK DQ Φ T.list Dh (Aa (pv 0) Ab)) (BK DQ Φ T.list Dh (Aa (pv 1) Ab)))) (Ah (Ez (i:=3) (N:=["step"]) (sc:=Aq Gk) (own:=["step"]) (fr:=[]) (js:=[]) scCheckSteps.nd U U B0 U (BS (pv 2)) (λ_ _ _ _=>AS (i:=0) (show List.Nodup (["step"]:List Str) by decide +kernel)) (λ_ _ _ _=>Ck) (λ_ _ _ _=>(Av (E3 K U) (pv 0) Ae (λ_ _=>U)))) (Ah (AL (AM GB (AX Oh Φ T.len Bj (Aa (BK (Og U) Φ T.set LS (Aa (pv 3) Ab)) Ab)) (AX BI Φ T.len Bj (Aa (pv 3) Ab)) (AE _)) Cu AK) (Am (Cg CK U (BS (pv 2)) (AS (i:=4) scCheckSteps.nd) (Ah (BY (AN d R Ao (Aa (Av Bu (pv 4) Ae (λ_ _=>U)) Ab))) (Am (BY (AN c R Ao (Aa (Av Bu (pv 4) Ae (λ_ _=>U)) Ab))))))))))),?_⟩;refine⟨_,U,_,_,U,.inl ⟨_,SqL.of ha,U⟩,_,_,U,U,_,U,?_⟩;refine Bi (λz=>?_) (λ_=>?_)
 ·exfalso;have:=Bf z;lia
 refine⟨_,U,_,_,U,.inl ⟨_,SqL.of hb,U⟩,_,_,U,U,_,U,?_⟩;refine Bi (λz=>?_) (λ_=>?_)
 ·exfalso;have:=Bf z;lia
 refine⟨_,U,a,_,U,.inl (SqL.of ha),λl1 aa=>?_⟩;obtain⟨H1,g0,s1,e1⟩:=Dg (H:=H) (o:=.lst ds) aa;rw[g0];refine⟨_,U,b,_,U,.inl (SqL.of (s1 _ _ hb)),λl2 a9=>?_⟩;obtain⟨H2,g0,s2,e2⟩:=Dg (H:=H1) (o:=.lst ls) a9;rw[g0];refine⟨l1,l2,_,_,U,U,s2 _ _ e1,e2,Ψ,λl3 a1=>?_⟩;obtain⟨H3,g0,s3,B⟩:=Dg (H:=H2) (o:=.lst (ds++ls)) a1;rw[g0];have X:=(s1.trans s2).trans s3;have j:=G.mono λv s _ ⟨a,r,e,h⟩=>(⟨a,r,e,X _ _ h⟩:Mm H3 v s);have p:=G.len;have a6:(ds++ls).length<=80:=by rw[AG];lia
 generalize ds++ls=xs at B j p a6;refine⟨_,U,l3,U,⟨_,SqL.of B⟩,λD hD=>?_⟩
 refine Co (n:=xs.length) (λi ys u=>ys=((st.take i).map (·.1)).map V.str/\Same H3 u/\u D=some (.lst ys)) ⟨U,Same.new hD,Ag⟩
  (λi ys u hi l=>by obtain⟨_,s4,_⟩:=l;exact⟨_,xs[i],SqL.of (s4 _ _ B),by simp[hi]⟩) (λys u l=>by obtain⟨_,s4,_⟩:=l;exact⟨_,SqL.of (s4 _ _ B),Θ⟩) ?_ ?_
 ·rintro i ys u y H5 hi ⟨rfl,s4,L⟩ ⟨rfl,hy⟩;refine Cn ?_;obtain⟨g,a0,m,a',r',rfl,et⟩:=j.at (hy _ (SqL.of (s4 _ _ B)));have Be:atI (V.str g.1::V.int g.2::r') ((0:Nat):Int)=some (.str g.1):=AB U;refine⟨_,U,a',_,_,_,U,U,SqT.of (s4 _ _ et),Be,_,L,by simp only[Ai,Bh];lia,?_,s4.put hD,Ag⟩;obtain⟨a5,e⟩:=Ay.mp a0;rw[BL a5,AW,AW,e];rfl
 rintro ys u ⟨rfl,s4,L⟩;rw[p,Cd]at L;have ab:(st.map (·.1)).length=st.length:=Ai ..;have ek:(st.map (·.1)).map V.str=((st.map (·.1)).map (Sum.inr:Str->Key)).map kV:=by rw[BD,BD,BD];rfl
 have a4:=Qv nd;have ac:((st.map (·.1)).map (Sum.inr:Str->Key)).length=st.length:=by rw[Ai,Ai]
 refine⟨_,U,D,(st.map (·.1)).map Sum.inr,U,SqL.of (by rw[<- ek];exact L),Ψ,λx S=>?_⟩;have s5:Same u (Y u x (Hj P w x (SK.dd (Bx ((st.map (·.1)).map (Sum.inr:Str->Key))) ((st.map (·.1)).map (Sum.inr:Str->Key)).length).length)):=Same.new S;refine⟨x,_,U,Ag,_,U,_,_,U,.inl ⟨_,SqL.of (s5 _ _ L),U⟩,_,_,U,U,_,U,?_⟩;have a2:((st.map (·.1)).map V.str).length=(st.map (·.1)).length:=Ai ..;refine Bi (λa8=>?_) (λ_=>?_)
 ·exfalso;have:=Bf a8;rw[a2,a4]at this;lia
 have I:=s4.trans s5;have a7:=I _ _ B;refine⟨_,U,l3,U,⟨_,SqL.of a7⟩,DM (K:=K) (a:=l3) (xs:=xs) (λi σ H6=>∃v4:Option V,σ = [some (.ref a),some (.ref b),some (.ref l3),some (.ref D),v4]/\Same H3 H6) ⟨none,U,I⟩ (λi σ H6 _ l=>by obtain⟨_,_,C⟩:=l;exact SqL.of (C _ _ B)) ?_ ?_⟩
 ·rintro i y σ H6 hy ⟨v4,rfl,C⟩;obtain⟨g,a0,m,a',r',rfl,et⟩:=j.at hy;have Be:atI (V.str g.1::V.int g.2::r') ((0:Nat):Int)=some (.str g.1):=AB U;have a3:atI (V.str g.1::V.int g.2::r') ((1:Nat):Int)=some (.int g.2):=AB U;have W:=C _ _ et;have o:=ok _ m;refine⟨_,U,a',_,_,_,U,U,SqT.of W,Be,g.1,U,o.n1,o.n2,?_⟩;refine⟨_,U,a',_,_,_,U,U,SqT.of W,a3,g.2,U,o.p1,o.p2,?_⟩;exact⟨_,U,C⟩
 rintro σ H6 ⟨v4,rfl,C⟩;exact q H6 (X.trans C)
def dM (F:Fun K "read_looks" "read_looks" Nd f fd)(T:Bl mg)(c:Ca P w K mg base CX0 1 "check_table" KS Jq M3):FnOk P w K mg base CX0 2 f fd Ji PK:=by
 refine F.oq scReadLooks λcdv A outer s H vs Q E p h=>?_;obtain⟨m,a,us,ls,rfl,hm,ha,hl,ok,nd,few,q⟩:=h;have hu:=Cz p;have a4:sizeLine=16777216:=AF;have a0:=hl.len;refine⟨_,(Ah (AD (i:=2) scReadLooks.nd FJ) (Ah (Cg CK U (BS (pv 1)) (AS (i:=3) scReadLooks.nd) (Ah (BY (AN c p Ao (Aa (pv 0) (Aa (Av Bu (pv 3) Ae (λ_ _=>U)) (Aa (Av Bu (pv 3) Ae (λ_ _=>U)) Ab))))) (Am (DW hu (pv 2) (Av Bu (pv 3) Ae (λ_ _=>U)) (BK GM Φ T.tuple FT (Aa (Av Bu (pv 3) Ae (λ_ _=>U)) Ab)) U)))) (Am (AC (pv 2))))),?_⟩;intro d N;have s0:Same H (Y H d (.dK [])):=Same.new N;refine⟨_,U,a,U,⟨_,SqL.of (s0 _ _ ha)⟩,DM (K:=K) (a:=a) (xs:=us) (λi L g=>∃(S:Option V) (kvs:List (Key×V)),L = [some (.int (m:Int)),some (.ref a),some (.ref d),S]/\Same H g/\g d=some (.dK kvs)/\KA Loo.name (AnV g) kvs (ls.take i)) ⟨none,[],U,s0,Ag,by rw[GZ];exact KA.nil⟩ (λi L g _ a1=>by obtain⟨_,_,_,s2,_⟩:=a1;exact SqL.of (s2 _ _ ha)) ?_ ?_⟩
 ·rintro i y L g hy ⟨S,kvs,rfl,s2,D,o⟩;obtain⟨l,X,a3,t,⟨M,rfl,et⟩,ht⟩:=hl.at hy;have Be:atI [V.str l.name,V.int l.price,V.ref t] ((0:Nat):Int)=some (.str l.name):=AB U;have G:atI [V.str l.name,V.int l.price,V.ref t] ((2:Nat):Int)=some (.ref t):=AB U;have j:=s2 _ _ et;have u:=s2 _ _ ht;have W:(l.tab.map oS).length=m:=by rw[Ai];exact ok l a3
  have a2:=o.len;rw[Bh]at a2;obtain⟨B,ei⟩:=Ay.mp X
  have n:Ax kvs (Sum.inr l.name:Key)=none:=o.none λz=>by
   have I:((ls.take (i+1)).map Loo.name).Nodup:=by rw[Ep];exact GU (F4 _ _) nd
   rw[BL B,ei,AW]at I;exact(Cr.mp I).2.2 _ z l.name (AR.mpr U) U
  refine⟨_,U,_,U,M,_,_,_,U,U,SqT.of j,Be,_,U,M,_,_,_,U,U,SqT.of j,G,_,_,t,_,U,u,by rw[W],?_⟩;refine⟨_,U,M,_,_,_,U,U,SqT.of j,G,t,_,U,.inl ⟨SqL.of u,λR C=>?_⟩⟩;have s3:Same g (Y g R (.tup (l.tab.map oS))):=Same.new C;refine⟨_,U,_,U,M,_,_,_,U,U,SqT.of (s3 _ _ j),Be,d,_,U,DPut.k (k:=(Sum.inr l.name:Key)) (s3 _ _ D) Ψ,?_⟩;rw[Ef _ n];refine⟨_,_,U,(s2.trans s3).put N,Ag,?_⟩;have dt:R≠d:=(Au D C).symm;rw[BL B,ei];refine KA.snoc (o.mono λv x _ r=>r.keep λb xs e=>?_) ⟨R,U,by rw[Af dt];exact Ag⟩;rw[Af (A8 e D (by intro z;cases z))];exact s3 _ _ e
 rintro L g ⟨S,kvs,rfl,s2,D,o⟩;rw[a0,Cd]at o;exact⟨_,U,q d kvs g s2 N D o⟩
def dU (F:Fun K "read_deeds" "read_deeds" KI f fd)(T:Bl mg)(g:Ca P w K mg base CX0 1 "check_table" KS Jq M3)(c:Ca P w K mg base CX0 1 "check_entry" KU Lm Qi)(u:Ca P w K mg base CX0 1 "set_of" IK Hy (Kx K)):FnOk P w K mg base CX0 2 f fd Jj PM:=by
 refine F.oq scReadDeeds λcdv A outer s H vs Q E G h=>?_;obtain⟨m,a,us,ds,rfl,hm,ha,hl,ok,nd,few,q⟩:=h;have hu:=Cz G;have af:sizeLine=16777216:=AF;have ac:=hl.len;refine⟨_,(Ah (AD (i:=2) scReadDeeds.nd FJ) (Ah (Cg CK U (BS (pv 1)) (AS (i:=3) scReadDeeds.nd) (Ah (AD (i:=4) scReadDeeds.nd (Av Bu (pv 3) Ae (λ_ _=>U))) (Ah (AD (i:=5) scReadDeeds.nd (Av Bu (pv 3) Ae (λ_ _=>U))) (Ah (BY (AN g G Ao (Aa (pv 0) (Aa (pv 4) (Aa (pv 5) Ab))))) (Ah (Cg CK U (BS (pv 5)) (AS (i:=6) scReadDeeds.nd) (Am (BY (AN c G Ao (Aa (pv 0) (Aa (pv 4) (Aa (pv 6) Ab))))))) (Am (DW hu (pv 2) (pv 4) (BK GM Φ T.tuple FT (Aa (Dx (N:=["entry"]) (sc:=Aq KI) (own:=["entry"]) (fr:=[]) (js:=[]) B0 U (BS (pv 5)) (λ_ _ _ _=>AS (i:=0) (show List.Nodup (["entry"]:List Str) by decide +kernel)) (λ_ _ _ _=>Ck) (λ_ _ _ _=>(AN u G Ao (Aa (pv 0) Ab)))) Ab)) U))))))) (Am (AC (pv 2))))),?_⟩;intro d hd;have s0:Same H (Y H d (.dK [])):=Same.new hd;refine⟨_,U,a,U,⟨_,SqL.of (s0 _ _ ha)⟩,DM (K:=K) (a:=a) (xs:=us) (λi L R=>∃(v3 v4 v5 v6:Option V) (kvs:List (Key×V)),L = [some (.int (m:Int)),some (.ref a),some (.ref d),v3,v4,v5,v6]/\Same H R/\R d=some (.dK kvs)/\KA Dee.name (OuV R) kvs (ds.take i)) ⟨none,none,none,none,[],U,s0,Ag,by rw[GZ];exact KA.nil⟩ (λi L R _ p=>by obtain⟨_,_,_,_,_,_,s2,_⟩:=p;exact SqL.of (s2 _ _ ha)) ?_ ?_⟩
 ·rintro i y L R hy ⟨v3,v4,v5,v6,kvs,rfl,s2,e2,ka⟩;obtain⟨l,ab,ae,t,es,⟨a',rfl,et⟩,ht,he⟩:=hl.at hy;have Be:atI [V.str l.name,V.int l.price,V.ref t] ((0:Nat):Int)=some (.str l.name):=AB U;have aa:atI [V.str l.name,V.int l.price,V.ref t] ((2:Nat):Int)=some (.ref t):=AB U;have a8:=s2 _ _ et;have I:=s2 _ _ ht;have o:=ok l ae;have a2:=he.len;have ad:=ka.len;rw[Bh]at ad;obtain⟨a3,ei⟩:=Ay.mp ab
  have W:Ax kvs (Sum.inr l.name:Key)=none:=ka.none λz=>by
   have a6:((ds.take (i+1)).map Dee.name).Nodup:=by rw[Ep];exact GU (F4 _ _) nd
   rw[BL a3,ei,AW]at a6;exact(Cr.mp a6).2.2 _ z l.name (AR.mpr U) U
  refine⟨_,U,a',_,_,_,U,U,SqT.of a8,Be,?_⟩;refine⟨_,U,a',_,_,_,U,U,SqT.of a8,aa,?_⟩;refine⟨_,U,_,U,_,U,_,_,t,_,U,I,by rw[a2,o.len],?_⟩;refine⟨_,U,t,U,⟨_,SqL.of I⟩,DM (K:=K) (a:=t) (xs:=es) (λj L H3=>(∃a1:Option V,L = [some (.int (m:Int)),some (.ref a),some (.ref d),some (.ref a'),some (.str l.name),some (.ref t),a1])/\Same R H3) ⟨⟨_,U⟩,Same.refl _⟩ (λj L H3 _ p=>by obtain⟨_,s3⟩:=p;exact SqL.of (s3 _ _ I)) ?_ ?_⟩
  ·rintro j y L H3 a0 ⟨⟨a1,rfl⟩,s3⟩;obtain⟨ns,a5,B,b,rfl,eb⟩:=he.at a0;exact⟨_,U,_,U,_,U,_,_,b,ns,U,(s2.trans s3) _ _ eb,o.up ns B,o.inn ns B,o.few ns B,λM s4=>⟨⟨_,U⟩,s3.trans s4⟩⟩
  rintro L H3 ⟨⟨a1,rfl⟩,s3⟩;have C:=s3 _ _ I;refine⟨_,U,t,U,⟨_,SqL.of C⟩,λD hD=>?_⟩
  refine Co (n:=es.length) (λj ys M=>ys=(l.tab.take j).map (λn=>V.int (bt n:Nat))/\Same H3 M/\M D=some (.lst ys)) ⟨U,Same.new hD,Ag⟩
   (λj ys M hj p=>by obtain⟨_,s4,_⟩:=p;exact⟨_,es[j],SqL.of (s4 _ _ C),by simp[hj]⟩) (λys M p=>by obtain⟨_,s4,_⟩:=p;exact⟨_,SqL.of (s4 _ _ C),Θ⟩) ?_ ?_
  ·rintro j ys M y H5 hj ⟨rfl,s4,e4⟩ ⟨rfl,a0⟩;refine Cn ?_;obtain⟨ns,a5,B,b,rfl,eb⟩:=he.at (a0 _ (SqL.of (s4 _ _ C)));refine⟨_,U,b,ns,U,SqL.of (((s2.trans s3).trans s4) _ _ eb),o.wd hm ns B,_,e4,by rw[Ai,Bh,o.len];lia,?_,s4.put hD,Ag⟩;obtain⟨a9,ej⟩:=Ay.mp a5;rw[BL a9,AW,ej];rfl
  rintro ys M ⟨rfl,s4,e4⟩;rw[a2,Cd]at e4;refine⟨D,_,U,.inl ⟨SqL.of e4,λtp a4=>?_⟩⟩;have X:=s3.trans s4;have S:Same M (Y M tp (.tup (l.tab.map λn=>V.int (bt n:Nat)))):=Same.new a4;have a7:=X _ _ e2;refine⟨_,U,_,U,d,_,U,DPut.k (k:=(Sum.inr l.name:Key)) (S _ _ a7) Ψ,?_⟩;rw[Ef _ W];refine⟨_,_,_,_,_,U,((s2.trans X).trans S).put hd,Ag,?_⟩;have dt:tp≠d:=(Au a7 a4).symm;rw[BL a3,ei];refine KA.snoc (ka.mono λv x _ r=>r.keep λb xs e=>?_) ⟨tp,U,by rw[Af dt];exact Ag⟩;rw[Af (A8 e e2 (by intro z;cases z))];exact S _ _ (X _ _ e)
 rintro L R ⟨v3,v4,v5,v6,kvs,rfl,s2,e2,ka⟩;rw[ac,Cd]at ka;exact⟨_,U,q d kvs R s2 hd e2 ka⟩
def RN:bootBuiltins "enumerate" = some (.type "enumerate"):=by decide +kernel
def WY:bootBuiltins "dict" = some (.type "dict"):=by decide +kernel
def Vr {c:It} (d:Nat->List V->Hp->Prop)(h0:d 0 [] (Y H0 D (.lst [])))
  (B:∀i ys H,i<n->d i ys H->c.go i H)(g:∀ys H,d n ys H->c.stop n H)
  (z:∀i ys H x j,i<n->d i ys H->c.yld i H x j->∃(a:Addr) (u v:V),x=.ref a/\SqT K j a [u,v]/\tc (some u::some v::ρ) j λb q=>if b=true then te (some u::some v::ρ) q λy o=>∃l,o D=some (.lst l)/\l.length<sizeLine/\d (i+1) (l++[y]) (Y o D (.lst (l++[y])))else d (i+1) ys q)
  (s:∀ys H,d n ys H->fin H):∃W:Nat->Nat->List V->Hp->Prop,(∃m,W 0 m [] (Y H0 D (.lst [])))/\ID c D (none::none::ρ) (JG K 2 (JH (E4 0) (JH (E4 1) Rj))) tc te fin W:=by
 refine⟨λi m ys H=>m=n-i/\i<=n/\d i ys H,⟨n,U,Bn _,h0⟩,?_⟩
 rintro i m ys H ⟨rfl,E,p⟩
 by_cases f:i<n
 ·refine .inr ⟨B i ys H f p,d (i+1),λr H' A=>⟨n-(i+1),Ψ,U,f,A⟩,λx j y=>?_⟩;obtain⟨a,u,v,rfl,C,h⟩:=z i ys H x j f p y;exact⟨a,_,U,C,U,_,_,U,_,_,U,U,YR,h⟩
 have e:i=n:=by lia
 subst e
 exact .inl ⟨g ys H p,s ys H p⟩
def pR {a:Addr}{xs:List V}{g:TG}{l:TS}{D:Ga}{b:L2.St}{H:Hp}(c:Nat->L2.St->Hp->Prop)(h0:c 0 b H)(B:∀i b H,i<=xs.length->c i b H->SqT K H a xs)
  (C:∀i x p b H,xs[i]? = some x->c i b H->H p=none->g (.ref p) b (Y H p (.tup [.int (i:Nat),x])) λf j=>l { D with nx:=c (i+1),ct:=c (i+1),bk:=D.nx } f j)(u:∀b H,c xs.length b H->D.nx b H) :
  ∃W:Nat->Nat->L2.St->Hp->Prop,(∃m,W 0 m b H)/\∀i m b H,W i m b H ->
   ((Ks K a).stop i H/\D.nx b H)\/((Ks K a).go i H/\∃N:L2.St->Hp->Prop,(∀d H',N d H'->∃n,n<m/\W (i+1) n d H')/\∀x H',(Ks K a).yld i H x H'->g x b H' λf j=>l { D with nx:=N,ct:=N,bk:=D.nx } f j):=by
 refine⟨λi m b H=>m=xs.length-i/\i<=xs.length/\c i b H,⟨xs.length,Θ,Bn _,h0⟩,?_⟩
 rintro i m b H ⟨rfl,s,p⟩
 have q:=B i b H s p
 by_cases h:i<xs.length
 ·refine .inr ⟨⟨xs,xs[i],q,by simp[h]⟩,c (i+1),λd H' r=>⟨xs.length-(i+1),Ψ,U,h,r⟩,λx H' y=>?_⟩;obtain⟨o,v,rfl,z,rfl,A⟩:=y;exact C i v o b H (A xs q) p z
 have e:i=xs.length:=by lia
 subst e
 exact .inl ⟨⟨xs,q,U⟩,u b H p⟩
def VZ {a:Addr}{o:Obj}{kvs:List (Key×V)}{g:TG}{n:TS}{D:Ga}{b:L2.St}{H:Hp}(c:Nat->L2.St->Hp->Prop)(h0:c 0 b H)(F:∀i b H,i<=kvs.length->c i b H->H a=some (.frz o (.dK kvs)))
  (A:∀i j p b H,kvs[i]? = some j->c i b H->H p=none->g (.ref p) b (Y H p (.tup [kV j.1,j.2])) λd l=>n { D with nx:=c (i+1),ct:=c (i+1),bk:=D.nx } d l)(z:∀b H,c kvs.length b H->D.nx b H) :
  ∃W:Nat->Nat->L2.St->Hp->Prop,(∃m,W 0 m b H)/\∀i m b H,W i m b H ->
   ((Kr a o kvs).stop i H/\D.nx b H)\/((Kr a o kvs).go i H/\∃N:L2.St->Hp->Prop,(∀f H',N f H'->∃r,r<m/\W (i+1) r f H')/\∀x H',(Kr a o kvs).yld i H x H'->g x b H' λd l=>n { D with nx:=N,ct:=N,bk:=D.nx } d l):=by
 refine⟨λi m b H=>m=kvs.length-i/\i<=kvs.length/\c i b H,⟨kvs.length,Θ,Bn _,h0⟩,?_⟩
 rintro i m b H ⟨rfl,u,p⟩
 have q:=F i b H u p
 by_cases h:i<kvs.length
 ·refine .inr ⟨⟨h,q⟩,c (i+1),λf H' B=>⟨kvs.length-(i+1),Ψ,U,h,B⟩,λx H' y=>?_⟩;obtain⟨s,k,v,rfl,C,rfl,E⟩:=y;exact A i (k,v) s b H E p C
 have e:i=kvs.length:=by lia
 subst e
 exact .inl ⟨⟨An _,q⟩,z b H p⟩
def Ej (tab:List (Option Str))(s:Str):List Int:=((List.range tab.length).filter λi=>decide (tab[i]? = some (some s))).map λi:Nat=>(i:Int)
def Rf (a:List (Option Str))(x:Option Str)(s:Str):Ej (a++[x]) s=Ej a s++(if x=some s then [(a.length:Int)]else []):=by
 unfold Ej;rw[AG,OH,G0,filter_append,AW];congr 1
 ·congr 1;refine filter_congr λi b=>?_;rw[Da (Do.mp b)]
 by_cases h:x=some s
 ·rw[Ar h,List.filter_cons_of_pos (by simp[h])];rfl
 rw[Ak h,List.filter_cons_of_neg (by simp[h])];rfl
structure PsOk (tab:List (Option Str))(ps:List (Str×V)):Prop where
 nd:(ps.map (·.1)).Nodup
 val:∀p∈ps,p.2=V.int (bt (Ej tab p.1):Nat)
 has:∀s,some s∈tab↔s∈ps.map (·.1)
abbrev kf (p:Str×V):Key×V:=(Sum.inr p.1,p.2)
def PsOk.zero:PsOk [] []:=⟨JV,(λp h=>nomatch h),λs=>⟨(λh=>nomatch h),(λh=>nomatch h)⟩⟩
def PsOk.skip (h:PsOk tab ps):PsOk (tab++[none]) ps:=⟨h.nd,λp a=>by
 rw[Rf,Ak Θ,Cc];exact h.val p a,λs=>by
 rw[<- h.has s];simp⟩
def Th {ps:List (Str×V)}{s:Str}(h:s∉ps.map (·.1)):Ax (ps.map kf) (Sum.inr s:Key)=none:=by
 cases e:Ax (ps.map kf) (Sum.inr s:Key)with
 | none=>rfl
 | some v=>exfalso;have:=MA e;rw[BD]at this;obtain⟨p,a,ep⟩:=Ba.mp this;exact h (Ba.mpr ⟨p,a,C0 ep⟩)
def PsOk.old (h:PsOk tab ps)(s:Str):(Ax (ps.map kf) (Sum.inr s:Key)).getD (.int 0)=V.int (bt (Ej tab s):Nat):=by
 by_cases a:s∈ps.map (·.1)
 ·obtain⟨p,c,ep⟩:=Ba.mp a;obtain⟨i,b⟩:=EL c;have d:(ps.map kf)[i]? = some (kf p):=by rw[AQ,b];rfl
  have nd:((ps.map kf).map (·.1)).Nodup:=by rw[BD,show((λx:Key×V=>x.1) ∘ kf)=(Sum.inr ∘ λp:Str×V=>p.1) from U,<- BD];exact Oq.mpr (List.Pairwise.imp (λh e=>h (C0 e)) h.nd)
  have:=X0 nd d;rw[show(kf p).1=(Sum.inr s:Key) from by rw[<- ep]]at this;rw[this,<- ep];exact h.val p c
 rw[Th a]
 have e:Ej tab s=[]:=by
  unfold Ej;rw[filter_eq_nil_iff.mpr λi b z=>?_]
  ·rfl
  exact a ((h.has s).mp (Br (Bf z)))
 rw[e];rfl
def PsOk.put (h:PsOk tab ps)(s:Str):∃ps':List (Str×V),BW (ps.map kf) (Sum.inr s:Key) (V.int (bt (Ej (tab++[some s]) s):Nat))=ps'.map kf/\PsOk (tab++[some s]) ps':=by
 generalize hv:V.int (bt (Ej (tab++[some s]) s):Nat)=v;have c:∀x,x≠s->Ej (tab++[some s]) x=Ej tab x:=λx r=>by rw[Rf,Ak (λe=>r (BG e).symm),Cc]
 have f:∀x,some x∈tab++[some s]↔(some x∈tab\/x=s):=λx=>by rw[BF,AR,Option.some.injEq]
 by_cases d:s∈ps.map (·.1)
 ·refine⟨ps.map λp=>if p.1=s then(p.1,v)else p,?_,?_⟩
  ·unfold BW;rw[Ar]
   ·rw[BD,BD];refine map_congr_left λp _=>?_;show(if (Sum.inr p.1:Key)=Sum.inr s then((Sum.inr p.1:Key),v)else(Sum.inr p.1,p.2))=kf (if p.1=s then(p.1,v)else p);by_cases e:p.1=s
    ·rw[Ar (by rw[e]),Ar e]
    rw[Ak (λz=>e (C0 z)),Ak e]
   obtain⟨p,g,ep⟩:=Ba.mp d;exact J1.mpr ⟨kf p,Ba.mpr ⟨p,g,U⟩,AU (by rw[<- ep])⟩
  have m:(ps.map λp=>if p.1=s then(p.1,v)else p).map (·.1)=ps.map (·.1):=by rw[BD];refine map_congr_left λp _=>?_;show(if p.1=s then(p.1,v)else p).1=p.1;split <;> rfl
  refine⟨by rw[m];exact h.nd,λp g=>?_,λx=>?_⟩
  ·obtain⟨n,j,e⟩:=Ba.mp g;by_cases i:n.1=s
   ·rw[Ar i]at e;rw[<- e];show v=_;rw[<- hv,i]
   rw[Ak i]at e;rw[<- e,c _ i];exact h.val n j
  rw[m,f,h.has];exact⟨λz=>z.elim id (λe=>by rw[e];exact d),.inl⟩
 refine⟨ps++[(s,v)],?_,?_⟩
 ·rw[Ef _ (Th d),AW];rfl
 refine⟨?_,λp g=>?_,λx=>?_⟩
 ·rw[AW];exact Cr.mpr ⟨h.nd,Θ,λa q b o e=>d (by have l:b=s:=AR.mp o;rw[<- l,<- e];exact q)⟩
 ·rcases(BF.mp g)with z | z
  ·rw[c _ (λe=>d (by rw[<- e];exact Ba.mpr ⟨p,z,U⟩))];exact h.val p z
  rw[AR.mp z];exact hv.symm
 rw[f,h.has,AW,BF];simp
inductive PN (vs:List V)(H:Hp)(Q:VK)(E0_:XK):Prop
 | mk (t:Addr) (tab:List (Option Str)) (as:List Str) (c0:vs=[.ref t]) (c1:H t=some (.tup (tab.map oS))) (c2:tab.length<=200) (c3:(∀s,some s∈tab->s∈as)) (c4:as.length<=4) (c5:as.Nodup) (c6:∀(r:Addr) (ro:Obj) (ts:List Addr) (ps zs:List (Str×V)) (H':Hp),Same H H'->ro.dict=none->H' r=some (.frz ro (.tup (ts.map V.ref)))->O7 H' ts zs->zs.Perm ps->N7 zs=true->PsOk tab ps->Q (.ref r) H'):PN  vs H Q E0_
abbrev Jk:List Str:=["answers"]
abbrev iZ:List Str:=Cj Jk ["found", "world", "answer"]
def scParted:AI iZ Jk (Aq Ng):=AO
def eH (F:Fun K "parted" "parted" Ng f fd)(T:Bl mg)(c:Ca P w K mg base CX0 1 "set_of" IK Hy (Kx K)):FnOk P w K mg base CX0 2 f fd Jk PN:=by
 refine F.oq scParted λcdv A outer s H vs Q E u h=>?_;obtain⟨t,b,as,rfl,ht,hl,has,a3,a0,q⟩:=h;have hu:=Cz u;have a4:sizeLine=16777216:=AF;refine⟨_,(Ah (AD (i:=1) scParted.nd FJ) (Ah (Cg CK U (QS Φ T.enumerate RN (Aa (pv 0) Ab)) (Hu U (Dw (AS (i:=2) scParted.nd) (Dw (AS (i:=3) scParted.nd) Ht))) (Am (AL (AM NY (pv 3) Dc (AE _)) (Am (DW hu (pv 1) (pv 3) (As U9 (cC hu (pv 1) (pv 3) Ae ⟨Φ,Φ,Φ,Φ⟩) (AN c u Ao (Aa (AZ (Aa (pv 2) Ab)) Ab))) U)) AK))) (Am (AC (BK rQ Φ T.tuple FT (Aa (AX (rS U) Φ T.sorted RM (Aa (QV Ml OX PySem.F.type_dict_items kY (pv 1)) Ab)) Ab)))))),?_⟩;intro d hd;have s0:Same H (Y H d (.dK [])):=Same.new hd;refine⟨_,U,t,U,⟨_,SqT.of (s0 _ _ ht)⟩,pR (K:=K) (a:=t) (xs:=b.map oS) (λi G e=>∃(X L:Option V) (ps:List (Str×V)),G = [some (.ref t),some (.ref d),X,L]/\Same H e/\e d=some (.dK (ps.map kf))/\PsOk (b.take i) ps) ⟨none,none,[],U,s0,Ag,by rw[GZ];exact PsOk.zero⟩ (λi G e _ W=>by obtain⟨_,_,_,_,s2,_⟩:=W;exact SqT.of (s2 _ _ ht)) ?_ ?_⟩
 ·rintro i x p G e B ⟨X,L,ps,rfl,s2,C,g⟩ hp;rw[AQ]at B;cases hti:b[i]? with
  | none=>rw[hti]at B;cases B
  | some o=>
   rw[hti]at B;have R:x=oS o:=(BG B).symm;subst R;obtain⟨hi,ei⟩:=Ay.mp hti;have j:b.take (i+1)=b.take i++[o]:=by rw[BL hi,ei]
   have s3:Same e (Y e p (.tup [.int (i:Nat),oS o])):=Same.new hp;refine⟨p,_,U,SqT.of Ag,U,_,_,U,_,_,U,U,?_⟩;generalize (Y e p (.tup [.int (i:Nat),oS o]))=H3 at s3 ⊢;have D:=s3 _ _ C;cases o with
   | none=>refine⟨_,U,U,_,U,?_⟩;refine BH ⟨_,_,ps,U,s2.trans s3,D,?_⟩;rw[j];exact g.skip
   | some sa=>
    refine⟨_,U,U,_,U,?_⟩;refine BA ?_;refine⟨_,U,d,U,.inl ⟨_,.inl D⟩,_,U,_,DGet.k (k:=(Sum.inr sa:Key)) D,?_⟩;rw[g.old sa];refine⟨_,U,AA,λlb N=>?_⟩;have s4:Same H3 (Y H3 lb (.lst [.int (i:Nat)])):=Same.new N;refine⟨lb,[(i:Int)],U,SqL.of Ag,λn hn=>by rw[AR.mp hn];exact⟨Ψ,Ψ⟩,_,_,U,U,?_⟩;have I:Builtin.bitOr ((bt (Ej (b.take i) sa):Nat):Int) ((bt [(i:Int)]:Nat):Int)=((bt (Ej (b.take (i+1)) sa):Nat):Int):=by rw[U8,j,Rf,Ar U,Bh,L6 Ψ,WX,show bt [(i:Int)]=2^((i:Int)).toNat from by unfold bt;simp]
    rw[I];obtain⟨M,e',y⟩:=g.put sa;rw[<- j]at e' y;have a2:(ps.map kf).length<=200:=by have m:(ps.map (·.1)).length<=as.length:=Xs g.nd λz hz=>has z (Ih ((g.has z).mpr hz));rw[Ai]at m ⊢;lia
    refine⟨_,U,_,U,d,_,U,DPut.k (k:=(Sum.inr sa:Key)) (s4 _ _ D) Ψ,?_⟩;rw[e'];exact⟨_,_,M,U,((s2.trans s3).trans s4).put hd,Ag,y⟩
 rintro G e ⟨X,L,ps,rfl,s2,C,g⟩;rw[Ai,Cd]at g;have h3:ps.length<=4:=by have m:(ps.map (·.1)).length<=as.length:=Xs g.nd λz hz=>has z ((g.has z).mpr hz);rw[Ai]at m;lia
 refine⟨_,U,.inr (.inr (.inl ⟨U,.inl ⟨_,C⟩⟩)),d,_,U,U,C,λv hv=>?_⟩;have s3:Same e (Y e v (CL v d)):=Same.new hv;refine⟨v,d,ps,U,Ag,s3 _ _ C,h3,λl ts zs H4 s4 a1 pm lt el pr=>?_⟩;refine⟨l,_,U,SqL.of el,λr ro hr S=>?_⟩;have s5:Same H4 (Y H4 r (.frz ro (.tup (ts.map V.ref)))):=Same.new hr;exact q r ro ts ps zs _ (((s2.trans s3).trans s4).trans s5) S Ag ⟨pr.1,λi a p m h2=>s5 _ _ (pr.2 i a p m h2)⟩ pm lt g
abbrev Jp:List Str:=["outs", "answers"]
abbrev jX:List Str:=Cj Jp ["found", "name", "sets", "told"]
def scDoableSets:AI jX Jp (Aq IR):=AO
def Dm {α:Type}(p:α->Bool)(tab:List α):List Int:=((List.range tab.length).filter λi=>(tab[i]?.map p).getD false).map λi:Nat=>(i:Int)
def Wk {b:Type}(p:b->Bool)(a:List b)(x:b):Dm p (a++[x])=Dm p a++(if p x=true then [(a.length:Int)]else []):=by
 unfold Dm;rw[AG,OH,G0,filter_append,AW];congr 1
 ·congr 1;refine filter_congr λi c=>?_;rw[Da (Do.mp c)]
 by_cases h:p x=true
 ·rw[Ar h,List.filter_cons_of_pos (by simp[h])];rfl
 rw[Ak h,List.filter_cons_of_neg (by simp[h])];rfl
def Wj {b:Type}(p:b->Bool){a:List b}(h:a.length<=200):SU (Dm p a):=λn d=>by obtain⟨i,c,rfl⟩:=Ba.mp d;have:=Do.mp (mem_filter.mp c).1;exact⟨Ψ,Ψ⟩
def qT {b:Type}(p:b->Bool)(a:List b):(Dm p a).length<=a.length:=by unfold Dm;rw[Ai];exact Er (length_filter_le _ _) (Em▸An _)
inductive Qc (vs:List V)(H:Hp)(Q:VK)(E0_:XK):Prop
 | mk (a b:Addr) (ka kb:List (Key×V)) (ds:List Dee) (ls:List Loo) (o2:Obj) (c0:vs=[.ref a,.ref b]) (c1:a≠b) (c2:H a=some (.dK ka)) (c3:H b=some (.frz o2 (.dK kb))) (c4:KA Dee.name (OuV H) ka ds) (c5:KA Loo.name (AnV H) kb ls) (c6:(ds.map Dee.name++ls.map Loo.name).Nodup) (c7:ds.length<=40) (c8:ls.length<=40) (c9:(∀d∈ds,d.tab.length<=200)) (c10:(∀l∈ls,l.tab.length<=200)) (c11:∀(d:Addr) (kvs:List (Key×V)) (H':Hp) (o1:Obj),(∀c u,H c=some u->c≠a->H' c=some u)->H d=none->H' d=some (.dK kvs)->H' a=some (.frz o1 (.dK ka)) ->     KA (λp:Str×Nat=>p.1) (λv p=>v=V.int (p.2:Int)) kvs (ds.map (λd=>(d.name,bt (Dm (λn=>decide (bt n≠0)) d.tab)))++ls.map λl=>(l.name,bt (Dm isSome l.tab)))->Q (.ref d) H'):Qc  vs H Q E0_
def KA.snoc2 {k:Nat}(h:KA (λp:Str×Nat=>p.1) (λv p=>v=V.int (p.2:Int)) kvs L):KA (λp:Str×Nat=>p.1) (λv p=>v=V.int (p.2:Int)) (kvs++[(Sum.inr n,V.int (k:Int))]) (L++[(n,k)]):=KA.snoc (d:=(n,k)) h U
def IB {a:Type}{xs:List a}{i:Nat}{x:a}(h:xs[i]? = some x):xs.take (i+1)=xs.take i++[x]:=by (obtain⟨b,e⟩:=Ay.mp h);rw[BL b,e]
def Wi {z:Type}(p:z->Bool){K:W.Frag}{t D:Addr}{xs:List V}{a:List z}{l:Hp}(f:xs.length=a.length)(d:l t=some (.tup xs))(M:a.length<=200){fin:Hp->Prop}{E:TT}{G:L2.St}(hD:l D=none)
  (i:∀(j:Nat) (x:V) (y:z) (c:Hp) (A B:Hp->Prop),xs[j]? = some x->a[j]? = some y->(p y=true->A c)->(¬p y=true->B c)->E (some (.int (j:Nat))::some x::G) c λb C=>if b=true then A C else B C)
  (q:∀c:Hp,Same l c->c D=some (.lst ((Dm p a).map V.int))->fin c):∃W:Nat->Nat->List V->Hp->Prop,(∃m,W 0 m [] (Y l D (.lst [])))/\ID (Ks K t) D (none::none::G) (JG K 2 (JH (E4 0) (JH (E4 1) Rj))) E (IC 0) fin W:=by
 have I:sizeLine=16777216:=AF
 refine Vr (K:=K) (n:=xs.length) (λj ys c=>ys=(Dm p (a.take j)).map V.int/\Same l c/\c D=some (.lst ys)) ⟨U,Same.new hD,Ag⟩
  (λj ys c H e=>by obtain⟨_,s4,_⟩:=e;exact⟨_,xs[j],SqT.of (s4 _ _ d),by simp[H]⟩) (λys c e=>by obtain⟨_,s4,_⟩:=e;exact⟨_,SqT.of (s4 _ _ d),U⟩) ?_ ?_
 ·rintro j ys c x C H ⟨rfl,s4,g⟩ ⟨pp,x',rfl,hpp,rfl,hx⟩;have s:=hx _ (SqT.of (s4 _ _ d));have u:j<a.length:=by lia
  have F:a[j]? = some a[j]:=AJ u;have r:Same c (Y c pp (.tup [.int (j:Nat),x'])):=Same.new hpp;have o:a.take (j+1)=a.take j++[a[j]]:=IB F;have v:(a.take j).length=j:=by rw[Bh];lia
  have L:=qT p (a.take j);refine⟨pp,_,_,U,SqT.of Ag,i j x' _ _ _ _ s F (λh=>?_) (λh=>⟨?_,s4.trans r,r _ _ g⟩)⟩
  ·refine⟨_,U,_,r _ _ g,by rw[Ai];lia,?_,(s4.trans r).put hD,Ag⟩;rw[o,Wk,Ar h,AW,v];rfl
  rw[o,Wk,Ak h,Cc]
 rintro ys c ⟨rfl,s4,g⟩
 rw[f,Cd]at g
 exact q c s4 g
def gJ (F:Fun K "doable_sets" "doable_sets" IR f fd)(T:Bl mg)(m:Ca P w K mg base CX0 1 "set_of" IK Hy (Kx K)):FnOk P w K mg base CX0 2 f fd Jp Qc:=by
 refine F.oq scDoableSets λcdv A outer s H vs Q E a7 h=>?_;obtain⟨a,b,ka,kb,ds,ls,o2,rfl,ab,ha,hb,am,ac,nd,aq,fl,td,tl,q⟩:=h;have hu:=Cz a7;have ar:sizeLine=16777216:=AF;refine⟨_,(Ah (AD (i:=2) scDoableSets.nd FJ) (Ah (Cg CK U (QR (QT (pv 0))) (Hu U (Dw (AS (i:=3) scDoableSets.nd) (Dw (AS (i:=4) scDoableSets.nd) Ht))) (Am (DW hu (pv 2) (pv 3) (AN m a7 Ao (Aa (Dx (N:=["world", "some"]) (sc:=Aq IR) (own:=["world", "some"]) (fr:=[]) (js:=[]) B0 U (QS Φ T.enumerate RN (Aa (pv 4) Ab)) (λ_ _ _ _=>Ri K U (Hu (n:=2) U (Dw (AS (i:=0) (show List.Nodup (["world", "some"]:List Str) by decide +kernel)) (Dw (AS (i:=1) (show List.Nodup (["world", "some"]:List Str) by decide +kernel)) Ht)))) (λ_ _ _ _=>QP (AM Gz (pv 1) Ae (AE _))) (λ_ _ _ _=>(pv 0))) Ab)) U))) (Ah (Cg CK U (QR (QT (pv 1))) (Hu U (Dw (AS (i:=3) scDoableSets.nd) (Dw (AS (i:=5) scDoableSets.nd) Ht))) (Am (DW hu (pv 2) (pv 3) (AN m a7 Ao (Aa (Dx (N:=["world", "answer"]) (sc:=Aq IR) (own:=["world", "answer"]) (fr:=[]) (js:=[]) B0 U (QS Φ T.enumerate RN (Aa (pv 5) Ab)) (λ_ _ _ _=>Ri K U (Hu (n:=2) U (Dw (AS (i:=0) (show List.Nodup (["world", "answer"]:List Str) by decide +kernel)) (Dw (AS (i:=1) (show List.Nodup (["world", "answer"]:List Str) by decide +kernel)) Ht)))) (λ_ _ _ _=>QP (AM NY (pv 1) Dc (AE _))) (λ_ _ _ _=>(pv 0))) Ab)) U))) (Am (AC (pv 2)))))),?_⟩;intro d hd;have s0:Same H (Y H d (.dK [])):=Same.new hd;have da:a≠d:=Au ha hd;have db:b≠d:=Au hb hd;refine⟨_,U,a,ka,U,.inl (s0 _ _ ha),λv hv=>?_⟩;have s1:Same (Y H d (.dK [])) (Y (Y H d (.dK [])) v (CL v a)):=Same.new hv;have ah:=s0.trans s1;have vd:d≠v:=λz=>by rw[<- z,Ag]at hv;cases hv
 refine⟨v,a,ka,U,Ag,.inl ⟨ah _ _ ha,λo1=>?_⟩⟩;have ae:∀c u,H c=some u->c≠a->(Y (Y (Y H d (.dK [])) v (CL v a)) a (.frz o1 (.dK ka))) c=some u:=λc u e R=>by rw[Af R];exact ah _ _ e
 have al:(Y (Y (Y H d (.dK [])) v (CL v a)) a (.frz o1 (.dK ka))) a=some (.frz o1 (.dK ka)):=Ag;have aj:(Y (Y (Y H d (.dK [])) v (CL v a)) a (.frz o1 (.dK ka))) d=some (.dK []):=by rw[Af da.symm,Af vd];exact Ag
 generalize (Y (Y (Y H d (.dK [])) v (CL v a)) a (.frz o1 (.dK ka)))=H1 at ae al aj ⊢;have ao:=am.len;have ai:=ac.len
 refine VZ (a:=a) (o:=o1) (kvs:=ka) (λi σ g=>∃(v3 v4 v5:Option V) (kvs:List (Key×V)),σ = [some (.ref a),some (.ref b),some (.ref d),v3,v4,v5]/\(∀c u,H c=some u->c≠a->g c=some u)/\g a=some (.frz o1 (.dK ka))/\g d=some (.dK kvs)/\KA (λp:Str×Nat=>p.1) (λv p=>v=V.int (p.2:Int)) kvs ((ds.map (λd=>(d.name,bt (Dm (λn=>decide (bt n≠0)) d.tab)))).take i)) ⟨none,none,none,[],U,ae,al,aj,by rw[GZ];exact KA.nil⟩
  (λi σ g _ a9=>by obtain⟨_,_,_,_,_,_,e,_⟩:=a9;exact e) ?_ ?_
 ·rintro i kv p σ g W ⟨v3,v4,v5,kvs,rfl,kp,ea,ed,kk⟩ hp;have L:i<ds.length:=by have:=(Ay.mp W).1;lia
  have r:ds[i]? = some ds[i]:=AJ L;obtain⟨ek,t,ev,ht⟩:=am.got i kv _ W r;have I:ds[i]∈ds:=CI L;generalize ds[i]=de at r ek ht I;obtain⟨k0,v0⟩:=kv;have a6:k0=Sum.inr de.name:=ek;have a3:v0=V.ref t:=ev;subst a6 a3;have s3:Same g (Y g p (.tup [kV (Sum.inr de.name:Key),V.ref t])):=Same.new hp;refine⟨p,_,U,SqT.of Ag,U,_,_,U,_,_,U,U,?_⟩;have ta:t≠a:=A8 ht ha (by intro z;cases z);have C:=s3 _ _ (kp _ _ ht ta);have a2:=s3 _ _ ed;have S:=s3 _ _ ea;have M:∀c u,H c=some u->c≠a->(Y g p (.tup [kV (Sum.inr de.name:Key),V.ref t])) c=some u:=λc u e R=>s3 _ _ (kp c u e R);generalize (Y g p (.tup [kV (Sum.inr de.name:Key),V.ref t]))=H3 at C a2 S M ⊢;have a0:=td de I;refine⟨_,U,t,U,⟨_,SqT.of C⟩,λD hD=>?_⟩;refine Wi (λn=>decide (bt n≠0)) (Ai ..) C a0 hD (λj x y H4 A B hx hy h1 h2=>?_) λH4 s4 e4=>?_
  ·rw[AQ,hy]at hx;have a4:x=V.int (bt y:Nat):=(BG hx).symm;subst a4;refine⟨_,U,U,_,U,?_⟩;refine Bi (λz=>h1 (AU λe=>?_)) (λz=>h2 λe=>z ?_)
   ·rw[e]at z;exact absurd z Ξ
   have:=Bf e;show(!decide (V.int ((bt y:Nat):Int)=V.int 0))=true;rw[BR λw=>this (by have:=V.int.inj w;lia)];rfl
  refine⟨D,_,U,SqL.of e4,Wj _ a0,?_⟩;have a8:=s4 _ _ a2;have G:Ax kvs (Sum.inr de.name:Key)=none:=kk.none λz=>?_
  ·have X:=kk.len;rw[Bh,Ai]at X;refine⟨_,U,_,U,d,_,U,DPut.k (k:=(Sum.inr de.name:Key)) a8 Ψ,?_⟩;rw[Ef _ G];refine⟨_,_,_,_,U,λc u e R=>?_,?_,Ag,?_⟩
   ·rw[Af (λz=>by rw[z,hd]at e;cases e)];exact s4 _ _ (M c u e R)
   ·rw[Af da];exact s4 _ _ S
   rw[IB (x:=(de.name,bt (Dm (λn=>decide (bt n≠0)) de.tab))) (by rw[AQ,r];rfl)];exact kk.snoc2
  rw[<- Ep,BD]at z;have ap:=(Cr.mp nd).1;have a1:((ds.take (i+1)).map Dee.name).Nodup:=by rw[Ep];exact GU (F4 _ _) ap
  rw[IB r,AW]at a1;exact(Cr.mp a1).2.2 _ z de.name (AR.mpr U) U
 rintro σ g ⟨v3,v4,v5,ad,rfl,kp,ea,ed,ak⟩;rw[ao,Eo (by rw[Ai];exact An _)]at ak;have a5:=kp _ _ hb ab.symm;refine⟨_,U,b,kb,U,.inr ⟨o2,a5⟩,λv hv=>?_⟩;have s1:Same g (Y g v (CL v b)):=Same.new hv;refine⟨v,b,kb,U,Ag,.inr ⟨o2,s1 _ _ a5,?_⟩⟩;have an:=s1 _ _ a5;have af:∀c u,H c=some u->c≠a->(Y g v (CL v b)) c=some u:=λc u e R=>s1 _ _ (kp c u e R);have aa:=s1 _ _ ea;have ag:=s1 _ _ ed;generalize (Y g v (CL v b))=H1 at af aa ag an ⊢
 refine VZ (a:=b) (o:=o2) (kvs:=kb) (λi σ g=>∃(v3 v4 v5:Option V) (kvs:List (Key×V)),σ = [some (.ref a),some (.ref b),some (.ref d),v3,v4,v5]/\(∀c u,H c=some u->c≠a->g c=some u)/\g a=some (.frz o1 (.dK ka))/\g d=some (.dK kvs)/\KA (λp:Str×Nat=>p.1) (λv p=>v=V.int (p.2:Int)) kvs (ds.map (λd=>(d.name,bt (Dm (λn=>decide (bt n≠0)) d.tab)))++(ls.map λl=>(l.name,bt (Dm isSome l.tab))).take i)) ⟨_,_,_,ad,U,af,aa,ag,by rw[GZ,Cc];exact ak⟩
  (λi σ g _ a9=>by obtain⟨_,_,_,_,_,k,_⟩:=a9;exact k _ _ hb ab.symm) ?_ ?_
 ·rintro i kv p σ g W ⟨v3,v4,v5,kvs,rfl,kp,ea,ed,kk⟩ hp;have L:i<ls.length:=by have:=(Ay.mp W).1;lia
  have r:ls[i]? = some ls[i]:=AJ L;obtain⟨ek,t,ev,ht⟩:=ac.got i kv _ W r;have I:ls[i]∈ls:=CI L;generalize ls[i]=de at r ek ht I;obtain⟨k0,v0⟩:=kv;have a6:k0=Sum.inr de.name:=ek;have a3:v0=V.ref t:=ev;subst a6 a3;have s3:Same g (Y g p (.tup [kV (Sum.inr de.name:Key),V.ref t])):=Same.new hp;refine⟨p,_,U,SqT.of Ag,U,_,_,U,_,_,U,U,?_⟩;have ta:t≠a:=A8 ht ha (by intro z;cases z);have C:=s3 _ _ (kp _ _ ht ta);have a2:=s3 _ _ ed;have S:=s3 _ _ ea;have M:∀c u,H c=some u->c≠a->(Y g p (.tup [kV (Sum.inr de.name:Key),V.ref t])) c=some u:=λc u e R=>s3 _ _ (kp c u e R);generalize (Y g p (.tup [kV (Sum.inr de.name:Key),V.ref t]))=H3 at C a2 S M ⊢;have a0:=tl de I;refine⟨_,U,t,U,⟨_,SqT.of C⟩,λD hD=>?_⟩;refine Wi isSome (Ai ..) C a0 hD (λj x y H4 A B hx hy h1 h2=>?_) λH4 s4 e4=>?_
  ·rw[AQ,hy]at hx;have a4:x=oS y:=(BG hx).symm;subst a4;refine⟨_,U,U,_,U,?_⟩;cases y with
   | none=>exact BH (h2 Ξ)
   | some z=>exact BA (h1 U)
  refine⟨D,_,U,SqL.of e4,Wj _ a0,?_⟩;have a8:=s4 _ _ a2;have G:Ax kvs (Sum.inr de.name:Key)=none:=kk.none λz=>?_
  ·have X:=kk.len;rw[AG,Bh,Ai,Ai]at X;refine⟨_,U,_,U,d,_,U,DPut.k (k:=(Sum.inr de.name:Key)) a8 Ψ,?_⟩;rw[Ef _ G];refine⟨_,_,_,_,U,λc u e R=>?_,?_,Ag,?_⟩
   ·rw[Af (λz=>by rw[z,hd]at e;cases e)];exact s4 _ _ (M c u e R)
   ·rw[Af da];exact s4 _ _ S
   rw[IB (x:=(de.name,bt (Dm isSome de.tab))) (by rw[AQ,r];rfl),<- Di];exact kk.snoc2
  rw[AW,BD,<- Ep,BD]at z;have a1:(ds.map Dee.name++(ls.take (i+1)).map Loo.name).Nodup:=by rw[Ep];exact GU (List.Sublist.append (OJ _) (F4 _ _)) nd
  rw[IB r,AW,<- Di]at a1;exact(Cr.mp a1).2.2 _ z de.name (AR.mpr U) U
 rintro σ g ⟨v3,v4,v5,kvs,rfl,kp,ea,ed,kk⟩;rw[ai,Eo (by rw[Ai];exact An _)]at kk;exact⟨_,U,q d kvs g o1 kp hd ed ea kk⟩
structure XI (K:W.Frag)(C:Addr):Prop where
 cl:Cls K C
 n1:NoAttr K C "many"
 n2:NoAttr K C "prices"
 n3:NoAttr K C "told_outs"
 n4:NoAttr K C "told_answers"
 n5:NoAttr K C "told_parts"
 n6:NoAttr K C "told_doable"
def f1 (m:Int):List (Str×V):=L2.putF "many" (.int m) []
def f2 (m:Int)(p:Addr):List (Str×V):=L2.putF "prices" (.ref p) (f1 m)
def f3 (m:Int)(p o:Addr):List (Str×V):=L2.putF "told_outs" (.ref o) (f2 m p)
def f4 (m:Int)(p o a:Addr):List (Str×V):=L2.putF "told_answers" (.ref a) (f3 m p o)
def f5 (m:Int)(p o a q:Addr):List (Str×V):=L2.putF "told_parts" (.ref q) (f4 m p o a)
def f6 (m:Int)(p o a q d:Addr):List (Str×V):=L2.putF "told_doable" (.ref d) (f5 m p o a q)
structure tS (m:Nat)(ds:List Dee)(ls:List Loo)(as:List Str):Prop where
 m1:1<=m
 m2:m<=200
 fd:ds.length<=40
 fl:ls.length<=40
 nd:(ds.map Dee.name++ls.map Loo.name).Nodup
 so:∀d∈ds,Ec (d.name,d.price)
 sl:∀l∈ls,Ec (l.name,l.price)
 de:∀d∈ds,DeOk m d
 lo:∀l∈ls,l.tab.length=m
 an:∀l∈ls,∀s,some s∈l.tab->s∈as
 a3:as.length<=4
 ad:as.Nodup
abbrev Ee (ds:List Dee)(ls:List Loo):List (Str×Int):=ds.map (λd=>(d.name,d.price))++ls.map λl=>(l.name,l.price)
abbrev qS (ds:List Dee)(ls:List Loo):List (Str×Nat):=ds.map (λd=>(d.name,bt (Dm (λn=>decide (bt n≠0)) d.tab)))++ls.map λl=>(l.name,bt (Dm isSome l.tab))
inductive PaV (H:Hp)(v:V)(l:Loo):Prop
 | mk (r:Addr) (ro:Obj) (ts:List Addr) (ps zs:List (Str×V)) (e:v=.ref r) (d0:ro.dict=none) (h:H r=some (.frz ro (.tup (ts.map V.ref)))) (hp:O7 H ts zs) (pm:zs.Perm ps) (lt:N7 zs=true) (ok:PsOk l.tab ps):PaV H v l
structure XJ (C:Addr)(H:Hp)(x:Addr)(m:Nat)(ds:List Dee)(ls:List Loo):Prop where
 ex:∃(dx p o a q d:Addr) (kp ko ka kq kd:List (Key×V)) (o1 o2:Obj),H x=some (.ins C dx (f6 (m:Int) p o a q d))/\H p=some (.dK kp)/\H o=some (.frz o1 (.dK ko))/\H a=some (.frz o2 (.dK ka))/\H q=some (.dK kq)/\H d=some (.dK kd) /\
  KA (λs:Str×Int=>s.1) (λv s=>v=V.int s.2) kp (Ee ds ls)/\KA Dee.name (OuV H) ko ds/\KA Loo.name (AnV H) ka ls/\KA Loo.name (PaV H) kq ls/\KA (λs:Str×Nat=>s.1) (λv s=>v=V.int (s.2:Int)) kd (qS ds ls)
inductive P8 (C:Addr)(vs:List V)(H:Hp)(Q:VK)(E0_:XK):Prop
 | mk (x dx a b:Addr) (m:Nat) (us ws:List V) (ds:List Dee) (ls:List Loo) (as:List Str) (c0:vs=[.ref x,.int (m:Int),.ref a,.ref b]) (c1:H x=some (.ins C dx [])) (c2:H a=some (.lst us)) (c3:H b=some (.lst ws)) (c4:A2 (DeV H) us ds) (c5:A2 (LoV H) ws ls) (c6:tS m ds ls as) (c7:∀H':Hp,(∀c u,H c=some u->c≠x->H' c=some u)->XJ C H' x m ds ls->Q .non H'):P8 C vs H Q E0_
abbrev Jr:List Str:=["self", "many", "deeds", "looks"]
abbrev kL:List Str:=Jr
def Um:AI kL Jr (Aq IW):=AO
def StV.kx {fs:List (Str×V)}(k:∀c u,H c=some u->c≠x->H' c=some u)(b:H x=some (.ins C dx fs)) {t:Addr}(h:StV H v n p t):StV H' v n p t:=by obtain⟨a,e,h⟩:=h;exact⟨a,e,k _ _ h (A8 h b nofun)⟩
def EnV.kx {fs:List (Str×V)}(k:∀c u,H c=some u->c≠x->H' c=some u)(b:H x=some (.ins C dx fs)) (h:EnV H v ns):EnV H' v ns:=by obtain⟨a,e,h⟩:=h;exact⟨a,e,k _ _ h (A8 h b nofun)⟩
def DeV.kx {fs:List (Str×V)}(k:∀c u,H c=some u->c≠x->H' c=some u)(a:H x=some (.ins C dx fs)) (h:DeV H v d):DeV H' v d:=by obtain⟨t,es,st,b,e⟩:=h;exact⟨t,es,st.kx k a,k _ _ b (A8 b a nofun),e.mono λv t _ r=>r.kx k a⟩
def LoV.kx {fs:List (Str×V)}(k:∀c u,H c=some u->c≠x->H' c=some u)(a:H x=some (.ins C dx fs)) (h:LoV H v l):LoV H' v l:=by obtain⟨t,st,b⟩:=h;exact⟨t,st.kx k a,k _ _ b (A8 b a nofun)⟩
def A2.map {c d:Type}{R:V->c->Prop}{S:V->d->Prop}{g:c->d}{vs:List V}{b:List c}(h:A2 R vs b)(m:∀v t,R v t->S v (g t)):A2 S vs (b.map g):=⟨by rw[Ai];exact h.len,λi v t f a=>by
 rw[AQ]at a;cases e:b[i]? with
 | none=>rw[e]at a;cases a
 | some x=>rw[e]at a;cases a;exact m v x (h.got i v x f e)⟩
def aX (kvs:List (Key×V)):∀a:List (Key×V),((a++kvs).map (·.1)).Nodup->kvs.foldl (λm b=>BW m b.1 b.2) a=a++kvs:=by
 induction kvs with
 | nil=>exact λa _=>(Cc _).symm
 | cons p r ih=>
  intro a nd;have e:a++p::r=(a++[p])++r:=by simp
  rw[JX,Ef,ih]
  ·rw[e]
  ·rw[<- e];exact nd
  cases hv:Ax a p.1 with
  | none=>rfl
  | some v=>exfalso;rw[AW,Bg]at nd;exact(Cr.mp nd).2.2 _ (MA hv) p.1 A9 U
def UQ (nd:(kvs.map (·.1)).Nodup):L2.putAll kvs=kvs:=by show kvs.foldl (λm a=>BW m a.1 a.2) []=kvs;rw[aX kvs [] (by simpa using nd)];rfl
def Vv {a:Type}{g:a->Str}{xs:List a}(nd:(xs.map g).Nodup):(xs.map λx=>(Sum.inr (g x):Key)).Nodup:=by
 have:(xs.map λx=>(Sum.inr (g x):Key))=(xs.map g).map Sum.inr:=by rw[BD];rfl
 rw[this];exact Oq.mpr (List.Pairwise.imp (λh e=>h (C0 e)) nd)
def YU (ds:List Dee)(a:List Loo):(Ee ds a).map (λs=>s.1)=ds.map Dee.name++a.map Loo.name:=by rw[AW,BD,BD];rfl
def PaV.same (s:Same H H') (h:PaV H v l):PaV H' v l:=by obtain⟨r,j,n,ps,f,e,d,h,b,c,lt,ok⟩:=h;exact⟨r,j,n,ps,f,e,d,s _ _ h,⟨b.1,λi a p m g=>s _ _ (b.2 i a p m g)⟩,c,lt,ok⟩
def PaV.keep (k:∀b xs,H b=some (.tup xs)->H' b=some (.tup xs))(k2:∀b o xs,H b=some (.frz o (.tup xs))->H' b=some (.frz o (.tup xs))) (h:PaV H v l):PaV H' v l:=by obtain⟨r,m,q,ps,g,e,f,h,c,d,lt,ok⟩:=h;exact⟨r,m,q,ps,g,e,f,k2 _ _ _ h,⟨c.1,λi a p n j=>k _ _ (c.2 i a p n j)⟩,d,lt,ok⟩
def KA.of_map {a:Type}{nm:a->Str}{R:V->a->Prop}{g:a->V}(xs:List a)(r:∀x,R (g x) x):KA nm R (xs.map λx=>((Sum.inr (nm x):Key),g x)) xs:=⟨Ai ..,λi e d b c=>by rw[AQ,c]at b;cases b;exact⟨U,r d⟩⟩
def gA (F:Fun K "__init__" "Chart.__init__" IW f fd)(L:XI K C)(T:Bl mg)(D_check_many:Df K mg "check_many" IU Gx f1' d1)(M:FnOk P w K mg base CX0 1 f1' d1 Gx Qg)(D_check_steps:Df K mg "check_steps" Gk Gw f2' d2)(G:FnOk P w K mg base CX0 2 f2' d2 Gw M4)
  (D_read_deeds:Df K mg "read_deeds" KI Jj f3' d3)(S:FnOk P w K mg base CX0 2 f3' d3 Jj PM)(D_read_looks:Df K mg "read_looks" Nd Ji f4' d4)(R:FnOk P w K mg base CX0 2 f4' d4 Ji PK)(D_parted:Df K mg "parted" Ng Jk f5' d5)(a2:FnOk P w K mg base CX0 2 f5' d5 Jk PN)
  (D_doable_sets:Df K mg "doable_sets" IR Jp f6' d6)(I:FnOk P w K mg base CX0 2 f6' d6 Jp Qc):FnOk P w K mg base CX0 3 f fd Jr (P8 C):=by
 refine F.oq Um λcdv A outer s H vs Q E a1 h=>?_
 obtain⟨x,p,a,b,m,us,ws,ds,ls,as,rfl,hx,ha,hb,hd,hl,ok,q⟩:=h
 have c7:Room 1 _:=a1.mono Ξ
 have ci:sizeLine=16777216:=AF
 refine⟨_,(Ah (BY (Bc M c7 Φ D_check_many.m D_check_many.F.kp D_check_many.b .nil Ao (Aa (pv 1) Ab))) (Ah (BY (Bc G a1 Φ D_check_steps.m D_check_steps.F.kp D_check_steps.b .nil Ao (Aa (pv 2) (Aa (pv 3) Ab)))) (Ah (EY (pv 0) (pv 1) U) (Ah (EY (pv 0) (BK (WW U) Φ T.dict WY (Aa (Dx (N:=["step"]) (sc:=Aq IW) (own:=["step"]) (fr:=[]) (js:=[]) B0 U (BS (As CU (BK DQ Φ T.list Dh (Aa (pv 2) Ab)) (BK DQ Φ T.list Dh (Aa (pv 3) Ab)))) (λ_ _ _ _=>AS (i:=0) (show List.Nodup (["step"]:List Str) by decide +kernel)) (λ_ _ _ _=>Ck) (λ_ _ _ _=>(Bm (Aa (Av (E3 K U) (pv 0) Ae (λ_ _=>U)) (Aa (Av (E3 K U) (pv 0) Ae (λ_ _=>U)) Ab))))) Ab)) U) (Ah (EY (pv 0) (Bc S a1 Φ D_read_deeds.m D_read_deeds.F.kp D_read_deeds.b .nil Ao (Aa (pv 1) (Aa (pv 2) Ab))) U) (Ah (EY (pv 0) (Bc R a1 Φ D_read_looks.m D_read_looks.F.kp D_read_looks.b .nil Ao (Aa (pv 1) (Aa (pv 3) Ab))) U) (Ah (EY (pv 0) (BK (WW U) Φ T.dict WY (Aa (Dx (N:=["name", "answers"]) (sc:=Aq IW) (own:=["name", "answers"]) (fr:=[]) (js:=[]) B0 U (QR (QT (Fi (pv 0) U))) (λ_ _ _ _=>Ri K U (Hu (n:=2) U (Dw (AS (i:=0) (show List.Nodup (["name", "answers"]:List Str) by decide +kernel)) (Dw (AS (i:=1) (show List.Nodup (["name", "answers"]:List Str) by decide +kernel)) Ht)))) (λ_ _ _ _=>Ck) (λ_ _ _ _=>(Bm (Aa (pv 0) (Aa (Bc a2 a1 Φ D_parted.m D_parted.F.kp D_parted.b .nil Ao (Aa (pv 1) Ab)) Ab))))) Ab)) U) (Am (EY (pv 0) (Bc I a1 Φ D_doable_sets.m D_doable_sets.F.kp D_doable_sets.b .nil Ao (Aa (Fi (pv 0) U) (Aa (Fi (pv 0) U) Ab))) U))))))))),?_⟩
 refine⟨_,U,(m:Int),U,by have:=ok.m1;lia,by have:=ok.m2;lia,?_⟩
 have ay:A2 (λv s=>∃t,StV H v s.1 s.2 t) (us++ws) (Ee ds ls):=A2.app (hd.map λv d r=>by obtain⟨t,es,st,_⟩:=r;exact⟨t,st⟩) (hl.map λv l r=>by obtain⟨t,st,_⟩:=r;exact⟨t,st⟩)
 have b4:=ok.fd
 have b9:=ok.fl
 have cg:=hd.len
 have cf:=hl.len
 have b5:((Ee ds ls).map (λs=>s.1)).Nodup:=by rw[YU];exact ok.nd
 refine⟨_,U,_,U,a,b,us,ws,Ee ds ls,U,ha,hb,(ay.mono λv s _ bo=>by obtain⟨t,a,e,h⟩:=bo;exact⟨a,[.ref t],e,h⟩),Ψ,Ψ,b5,λs hs=>?_,λH1 s1=>?_⟩
 ·rcases(BF.mp hs)with z | z
  ·obtain⟨d,az,rfl⟩:=Ba.mp z;exact ok.so d az
  obtain⟨l,au,rfl⟩:=Ba.mp z;exact ok.sl l au
 have bq:=s1 _ _ hx
 refine⟨_,U,_,U,x,C,p,[],U,bq,L.cl,L.n1,by show 0<1000;decide,?_⟩
 have a5:∀c u,H c=some u->c≠x->(Y H1 x (.ins C p (L2.putF "many" (.int (m:Int)) []))) c=some u:=λc u e B=>by rw[Af B];exact s1 _ _ e
 have b1:(Y H1 x (.ins C p (L2.putF "many" (.int (m:Int)) []))) x=some (.ins C p (L2.putF "many" (.int (m:Int)) [])):=Ag
 generalize (Y H1 x (.ins C p (L2.putF "many" (.int (m:Int)) [])))=H2 at a5 b1 ⊢
 have ax:a≠x:=A8 ha hx (by intro z;cases z)
 have bx:b≠x:=A8 hb hx (by intro z;cases z)
 refine⟨_,U,a,_,U,.inl (SqL.of (a5 _ _ ha ax)),λl1 bn=>?_⟩
 obtain⟨H3,g0,s3,e3⟩:=Dg (H:=H2) (o:=.lst us) bn
 rw[g0]
 refine⟨_,U,b,_,U,.inl (SqL.of (s3 _ _ (a5 _ _ hb bx))),λl2 bm=>?_⟩
 obtain⟨H4,g0,s4,e4⟩:=Dg (H:=H3) (o:=.lst ws) bm
 rw[g0]
 refine⟨l1,l2,_,_,U,U,s4 _ _ e3,e4,Ψ,λl3 c0=>?_⟩
 obtain⟨H5,g0,s5,e5⟩:=Dg (H:=H4) (o:=.lst (us++ws)) c0
 rw[g0]
 have av:=(s3.trans s4).trans s5
 have c5:∀c u,H c=some u->c≠x->H5 c=some u:=λc u e B=>av _ _ (a5 c u e B)
 have bi:A2 (λv s=>∃t,StV H5 v s.1 s.2 t) (us++ws) (Ee ds ls):=ay.mono λv s _ ⟨t,r⟩=>⟨t,r.kx c5 hx⟩
 have al:=ay.len
 have ch:(us++ws).length<=80:=by rw[AG];lia
 refine⟨l3,U,⟨_,SqL.of e5⟩,λD hD=>?_⟩
 refine Co (n:=(us++ws).length) (λi ys H6=>∃X:List Addr,ys=X.map V.ref/\X.length=i/\(∀(j:Nat) t s,X[j]? = some t->(Ee ds ls)[j]? = some s->H6 t=some (.tup [.str s.1,.int s.2]))/\Same H5 H6/\H6 D=some (.lst ys)) ⟨[],U,U,(λj t s h=>by cases h),Same.new hD,Ag⟩
  (λi ys H6 hi ⟨_,_,_,_,s6,_⟩=>⟨_,(us++ws)[i],SqL.of (s6 _ _ e5),AJ hi⟩) (λys H6 af=>by obtain⟨_,_,_,_,s6,_⟩:=af;exact⟨_,SqL.of (s6 _ _ e5),An _⟩) ?_ ?_
 ·rintro i ys H6 y H7 hi ⟨X,rfl,a0,ht,s6,e6⟩ ⟨rfl,hy⟩;refine Cn ?_;obtain⟨sp,bv,ce,t,a',rfl,et⟩:=bi.at (hy _ (SqL.of (s6 _ _ e5)));have Be:atI [V.str sp.1,V.int sp.2,V.ref t] ((0:Nat):Int)=some (.str sp.1):=AB U;have bu:atI [V.str sp.1,V.int sp.2,V.ref t] ((1:Nat):Int)=some (.int sp.2):=AB U;have ba:=s6 _ _ et;refine⟨_,U,a',_,_,_,U,U,SqT.of ba,Be,_,U,a',_,_,_,U,U,SqT.of ba,bu,AA,λtp a6=>?_⟩;have s7:Same H7 (Y H7 tp (.tup [.str sp.1,.int sp.2])):=Same.new a6;have tD:tp≠D:=(Au e6 a6).symm;refine⟨_,s7 _ _ e6,by rw[Ai];lia,X++[tp],by rw[AW];rfl,by rw[AG,a0];rfl,λj t' s' h1 h2=>?_,(s6.trans s7).put hD,Ag⟩;by_cases hj:j<X.length
  ·rw[Da hj]at h1;have:=ht j t' s' h1 h2;rw[Af (A8 this e6 (by intro z;cases z))];exact s7 _ _ this
  rw[ER Ψ]at h1;have h0:j-X.length=0:=by have:=(Ay.mp h1).1;simp at this;lia
  rw[h0]at h1;cases h1;have ej:j=i:=by lia
  subst ej;rw[bv]at h2;cases h2;rw[Af tD];exact Ag
 rintro ys H6 ⟨X,rfl,a0,ht,s6,e6⟩
 have nk:(((Ee ds ls).map λs=>((Sum.inr s.1:Key),V.int s.2)).map (·.1)).Nodup:=by rw[BD];exact Vv (g:=λs:Str×Int=>s.1) b5
 refine⟨D,X,(Ee ds ls).map λs=>((Sum.inr s.1:Key),V.int s.2),U,e6,by rw[Ai,a0,al],by rw[Ai,<- al];lia,λi t k v h1 h2=>?_,λdp b8=>?_⟩
 ·rw[AQ]at h2;cases hs:(Ee ds ls)[i]? with
  | none=>rw[hs]at h2;cases h2
  | some s=>rw[hs]at h2;cases h2;exact ht i t s h1 hs
 rw[UQ nk]
 have bd:KA (λs:Str×Int=>s.1) (λv s=>v=V.int s.2) ((Ee ds ls).map λs=>((Sum.inr s.1:Key),V.int s.2)) (Ee ds ls):=KA.of_map (nm:=λs:Str×Int=>s.1) (g:=λs:Str×Int=>V.int s.2) _ λ_=>rfl
 generalize ((Ee ds ls).map λs=>((Sum.inr s.1:Key),V.int s.2))=kp at bd ⊢
 have s7:Same H6 (Y H6 dp (.dK kp)):=Same.new b8
 have bf:=(av.trans s6).trans s7
 have xp:x≠dp:=λz=>by have:=(av.trans s6) _ _ b1;rw[z,b8]at this;cases this
 refine⟨_,U,x,C,p,_,U,bf _ _ b1,L.cl,L.n2,by show 1<1000;decide,?_⟩
 have aa:∀c u,H c=some u->c≠x->(Y (Y H6 dp (.dK kp)) x (.ins C p (L2.putF "prices" (.ref dp) (L2.putF "many" (.int (m:Int)) [])))) c=some u:=λc u e B=>by rw[Af B];exact bf _ _ (a5 c u e B)
 have ad:(Y (Y H6 dp (.dK kp)) x (.ins C p (L2.putF "prices" (.ref dp) (L2.putF "many" (.int (m:Int)) [])))) x=some (.ins C p (f2 (m:Int) dp)):=Ag
 have pA:(Y (Y H6 dp (.dK kp)) x (.ins C p (L2.putF "prices" (.ref dp) (L2.putF "many" (.int (m:Int)) [])))) dp=some (.dK kp):=by rw[Af xp.symm];exact Ag
 generalize (Y (Y H6 dp (.dK kp)) x (.ins C p (L2.putF "prices" (.ref dp) (L2.putF "many" (.int (m:Int)) []))))=HA at aa ad pA ⊢
 have c3:=(Cr.mp ok.nd).1
 have b6:=(Cr.mp ok.nd).2.1
 refine⟨_,U,_,U,m,a,us,ds,U,ok.m2,aa _ _ ha ax,hd.mono (λv d _ r=>r.kx aa hx),ok.de,c3,b4,λdO kO HB sB fB eB c1=>?_⟩
 have xO:x≠dO:=λz=>by rw[z,fB]at ad;cases ad
 refine⟨_,U,x,C,p,_,U,sB _ _ ad,L.cl,L.n3,by show 2<1000;decide,?_⟩
 have a4:∀c u,H c=some u->c≠x->(Y HB x (.ins C p (L2.putF "told_outs" (.ref dO) (f2 (m:Int) dp)))) c=some u:=λc u e B=>by rw[Af B];exact sB _ _ (aa c u e B)
 have ac:(Y HB x (.ins C p (L2.putF "told_outs" (.ref dO) (f2 (m:Int) dp)))) x=some (.ins C p (f3 (m:Int) dp dO)):=Ag
 have pC:(Y HB x (.ins C p (L2.putF "told_outs" (.ref dO) (f2 (m:Int) dp)))) dp=some (.dK kp):=by rw[Af xp.symm];exact sB _ _ pA
 have oC:(Y HB x (.ins C p (L2.putF "told_outs" (.ref dO) (f2 (m:Int) dp)))) dO=some (.dK kO):=by rw[Af xO.symm];exact eB
 have ao:KA Dee.name (OuV (Y HB x (.ins C p (L2.putF "told_outs" (.ref dO) (f2 (m:Int) dp))))) kO ds:=c1.mono λv d _ r=>r.keep λb xs e=>by rw[Af (A8 e (sB _ _ ad) (by intro z;cases z))];exact e
 generalize (Y HB x (.ins C p (L2.putF "told_outs" (.ref dO) (f2 (m:Int) dp))))=HC at a4 ac pC oC ao ⊢
 refine⟨_,U,_,U,m,b,ws,ls,U,ok.m2,a4 _ _ hb bx,hl.mono (λv d _ r=>r.kx a4 hx),ok.lo,b6,b9,λdA kA HD sD fD eD cb=>?_⟩
 have xA:x≠dA:=λz=>by rw[z,fD]at ac;cases ac
 have aw:dO≠dA:=λz=>by rw[z,fD]at oC;cases oC
 refine⟨_,U,x,C,p,_,U,sD _ _ ac,L.cl,L.n4,by show 3<1000;decide,?_⟩
 have bg:∀c u,H c=some u->c≠x->(Y HD x (.ins C p (L2.putF "told_answers" (.ref dA) (f3 (m:Int) dp dO)))) c=some u:=λc u e B=>by rw[Af B];exact sD _ _ (a4 c u e B)
 have ap:(Y HD x (.ins C p (L2.putF "told_answers" (.ref dA) (f3 (m:Int) dp dO)))) x=some (.ins C p (f4 (m:Int) dp dO dA)):=Ag
 have pE:(Y HD x (.ins C p (L2.putF "told_answers" (.ref dA) (f3 (m:Int) dp dO)))) dp=some (.dK kp):=by rw[Af xp.symm];exact sD _ _ pC
 have oE:(Y HD x (.ins C p (L2.putF "told_answers" (.ref dA) (f3 (m:Int) dp dO)))) dO=some (.dK kO):=by rw[Af xO.symm];exact sD _ _ oC
 have aE:(Y HD x (.ins C p (L2.putF "told_answers" (.ref dA) (f3 (m:Int) dp dO)))) dA=some (.dK kA):=by rw[Af xA.symm];exact eD
 have ak:∀b xs,HD b=some (.tup xs)->(Y HD x (.ins C p (L2.putF "told_answers" (.ref dA) (f3 (m:Int) dp dO)))) b=some (.tup xs):=λb xs e=>by rw[Af (A8 e (sD _ _ ac) (by intro z;cases z))];exact e
 have aj:=ao.mono λv d _ r=>OuV.keep (λb xs e=>ak b xs (sD _ _ e)) r
 have ag:=cb.mono λv d _ r=>AnV.keep ak r
 generalize (Y HD x (.ins C p (L2.putF "told_answers" (.ref dA) (f3 (m:Int) dp dO))))=HE at bg ap pE oE aE aj ag ⊢
 have c9:(f4 (m:Int) dp dO dA).lookup ("told_answers" : Str)=some (.ref dA):=by unfold f4;rw[CF,Ar rfl]
 refine⟨_,U,x,C,p,_,_,U,ap,L.cl,L.n4,c9,dA,kA,U,.inl aE,λv hv=>?_⟩
 have sv:Same HE (Y HE v (CL v dA)):=Same.new hv
 refine⟨v,dA,kA,U,Ag,.inl ⟨sv _ _ aE,λo2=>?_⟩⟩
 have kF:∀c u,HE c=some u->c≠dA->(Y (Y HE v (CL v dA)) dA (.frz o2 (.dK kA))) c=some u:=λc u e B=>by rw[Af B];exact sv _ _ e
 have aF:(Y (Y HE v (CL v dA)) dA (.frz o2 (.dK kA))) dA=some (.frz o2 (.dK kA)):=Ag
 generalize (Y (Y HE v (CL v dA)) dA (.frz o2 (.dK kA)))=HF at kF aF ⊢
 have c6:dp≠dA:=λz=>by rw[z,fD]at pC;cases pC
 have xF:=kF _ _ ap xA
 have pF:=kF _ _ pE c6
 have oF:=kF _ _ oE aw
 have ah:∀b xs,HE b=some (.tup xs)->HF b=some (.tup xs):=λb xs e=>kF _ _ e (A8 e aE (by intro z;cases z))
 have b3:=aj.mono λv d _ r=>OuV.keep ah r
 have ae:=ag.mono λv d _ r=>AnV.keep ah r
 have bp:=ae.len
 intro D hD
 refine Vr (K:=K) (n:=kA.length) (λi ys W=>∃(X:List Addr) (kvs:List (Key×V)),ys=X.map V.ref/\X.length=kvs.length/\(∀(j:Nat) t k v,X[j]? = some t->kvs[j]? = some (k,v)->W t=some (.tup [kV k,v]))/\KA Loo.name (PaV W) kvs (ls.take i)/\Same HF W/\W D=some (.lst ys)) ⟨[],[],U,U,(λj t k v h=>by cases h),by rw[GZ];exact KA.nil,Same.new hD,Ag⟩
  (λi ys W hi af=>by obtain⟨_,_,_,_,_,_,sG,_⟩:=af;exact⟨hi,sG _ _ aF⟩) (λys W af=>by obtain⟨_,_,_,_,_,_,sG,_⟩:=af;exact⟨An _,sG _ _ aF⟩) ?_ ?_
 ·rintro i ys W y HH hi ⟨X,kvs,rfl,a0,ht,kk,sG,eG⟩ ⟨pp,k,v,rfl,hpp,rfl,hx2⟩;have be:i<ls.length:=by lia
  have b0:ls[i]? = some ls[i]:=AJ be;have ar:ls[i]∈ls:=CI be;obtain⟨ek,t,ev,bc⟩:=ae.got i _ _ hx2 b0;generalize ls[i]=lo at b0 ar ek bc;have br:k=Sum.inr lo.name:=ek;have c2:v=V.ref t:=ev;subst br c2;have sP:Same W (Y W pp (.tup [kV (Sum.inr lo.name:Key),V.ref t])):=Same.new hpp;refine⟨pp,_,_,U,SqT.of Ag,Cn ?_⟩;have lt:=ok.lo lo ar;have m2:=ok.m2;refine⟨_,U,_,U,t,lo.tab,as,U,(sG.trans sP) _ _ bc,Ψ,ok.an lo ar,ok.a3,ok.ad,λr ro bw ps zs HI sI bz er pr pm c8 po=>?_⟩;refine⟨AA,λtp a6=>?_⟩;have sT:Same HI (Y HI tp (.tup [.str lo.name,.ref r])):=Same.new a6;have eI:=(sP.trans sI) _ _ eG;have tD:tp≠D:=(Au eI a6).symm;have ca:=kk.len;rw[Bh]at ca;have a8:=(sP.trans sI).trans sT;have a7:∀b xs (o:HO),(Y HI tp (.tup [.str lo.name,.ref r])) b=some (.tup xs)->(Y (Y HI tp (.tup [.str lo.name,.ref r])) D o) b=some (.tup xs):=λb xs o e=>by rw[Af (A8 e (sT _ _ eI) (by intro z;cases z))];exact e
  have ai:∀b ob xs (o:HO),(Y HI tp (.tup [.str lo.name,.ref r])) b=some (.frz ob (.tup xs))->(Y (Y HI tp (.tup [.str lo.name,.ref r])) D o) b=some (.frz ob (.tup xs)):=λb ob xs o e=>by rw[Af (A8 e (sT _ _ eI) (by intro z;cases z))];exact e
  refine⟨_,sT _ _ eI,by rw[Ai];lia,X++[tp],kvs++[(Sum.inr lo.name,.ref r)],by rw[AW];rfl,by rw[AG,AG,a0];rfl,λj t' k' v' h1 h2=>?_,?_,(sG.trans a8).put hD,Ag⟩
  ·by_cases hj:j<X.length
   ·rw[Da hj]at h1;rw[Da Ψ]at h2;exact a7 _ _ _ (a8 _ _ (ht j t' k' v' h1 h2))
   rw[ER Ψ]at h1;rw[ER Ψ,<- a0]at h2;have h0:j-X.length=0:=by have:=(Ay.mp h1).1;simp at this;lia
   rw[h0]at h1 h2;cases h1;cases h2;rw[Af tD];exact Ag
  rw[IB b0];refine KA.snoc (kk.mono λv d _ rr=>(rr.same a8).keep (λb xs e=>a7 _ _ _ e) (λb o xs e=>ai _ _ _ _ e)) ?_;have pv:PaV HI (V.ref r) lo:=⟨r,ro,bw,ps,zs,U,bz,er,pr,pm,c8,po⟩;exact(pv.same sT).keep (λb xs e=>a7 _ _ _ e) (λb o xs e=>ai _ _ _ _ e)
 rintro ys W ⟨X,kq,rfl,a0,ht,kk,sG,eG⟩
 rw[bp,Cd]at kk
 have c4:(kq.map (·.1)).Nodup:=by rw[kk.keysE];exact Vv b6
 have cj:=kk.len
 refine⟨D,X,kq,U,eG,a0,Ψ,ht,λdq aq=>?_⟩
 rw[UQ c4]
 have sq:Same W (Y W dq (.dK kq)):=Same.new aq
 have bj:=sG.trans sq
 have xq:x≠dq:=λz=>by have:=sG _ _ xF;rw[z,aq]at this;cases this
 refine⟨_,U,x,C,p,_,U,bj _ _ xF,L.cl,L.n5,by show 4<1000;decide,?_⟩
 have xI:(Y (Y W dq (.dK kq)) x (.ins C p (L2.putF "told_parts" (.ref dq) (f4 (m:Int) dp dO dA)))) x=some (.ins C p (f5 (m:Int) dp dO dA dq)):=Ag
 have kI:∀c u,HF c=some u->c≠x->(Y (Y W dq (.dK kq)) x (.ins C p (L2.putF "told_parts" (.ref dq) (f4 (m:Int) dp dO dA)))) c=some u:=λc u e B=>by rw[Af B];exact bj _ _ e
 have qI:(Y (Y W dq (.dK kq)) x (.ins C p (L2.putF "told_parts" (.ref dq) (f4 (m:Int) dp dO dA)))) dq=some (.dK kq):=by rw[Af xq.symm];exact Ag
 have a9:∀b xs,W b=some (.tup xs)->(Y (Y W dq (.dK kq)) x (.ins C p (L2.putF "told_parts" (.ref dq) (f4 (m:Int) dp dO dA)))) b=some (.tup xs):=λb xs e=>by rw[Af (A8 e (sG _ _ xF) (by intro z;cases z))];exact sq _ _ e
 have b7:∀b ob xs,W b=some (.frz ob (.tup xs))->(Y (Y W dq (.dK kq)) x (.ins C p (L2.putF "told_parts" (.ref dq) (f4 (m:Int) dp dO dA)))) b=some (.frz ob (.tup xs)):=λb ob xs e=>by rw[Af (A8 e (sG _ _ xF) (by intro z;cases z))];exact sq _ _ e
 have b2:=kk.mono λv d _ r=>PaV.keep a9 b7 r
 generalize (Y (Y W dq (.dK kq)) x (.ins C p (L2.putF "told_parts" (.ref dq) (f4 (m:Int) dp dO dA))))=HI at xI kI qI a9 b2 ⊢
 have pI:=kI _ _ pF xp.symm
 have oI:=kI _ _ oF xO.symm
 have aI:=kI _ _ aF xA.symm
 have a3:∀b xs,HF b=some (.tup xs)->HI b=some (.tup xs):=λb xs e=>a9 b xs (sG _ _ e)
 have am:=b3.mono λv d _ r=>OuV.keep a3 r
 have an:=ae.mono λv d _ r=>AnV.keep a3 r
 have bl:(f5 (m:Int) dp dO dA dq).lookup ("told_outs" : Str)=some (.ref dO):=by unfold f5 f4 f3;rw[CF,Ak Δ,CF,Ak Δ,CF,Ar rfl]
 have bb:(f5 (m:Int) dp dO dA dq).lookup ("told_answers" : Str)=some (.ref dA):=by unfold f5 f4;rw[CF,Ak Δ,CF,Ar rfl]
 have m2:=ok.m2
 refine⟨_,U,x,C,p,_,_,U,xI,L.cl,L.n3,bl,_,U,x,C,p,_,_,U,xI,L.cl,L.n4,bb,dO,dA,kO,kA,ds,ls,o2,U,aw,oI,aI,am,an,ok.nd,b4,b9,(λd az=>by rw[(ok.de d az).len];exact m2),(λl au=>by rw[ok.lo l au];exact m2),λdd kd HJ o1 kJ fJ eJ oJ cc=>?_⟩
 have cd:x≠dO:=xO
 have xJ:=kJ _ _ xI cd
 have xd:x≠dd:=λz=>by rw[z,fJ]at xI;cases xI
 refine⟨_,U,x,C,p,_,U,xJ,L.cl,L.n6,by show 5<1000;decide,?_⟩
 have pO:dp≠dO:=λz=>by rw[z,fB]at pA;cases pA
 have qO:dq≠dO:=λz=>by have:=sG _ _ oF;rw[<- z,aq]at this;cases this
 have keep:∀c u,HJ c=some u->c≠x->(Y HJ x (.ins C p (L2.putF "told_doable" (.ref dd) (f5 (m:Int) dp dO dA dq)))) c=some u:=λc u e B=>by rw[Af B];exact e
 have ab:∀b xs,HI b=some (.tup xs)->(Y HJ x (.ins C p (L2.putF "told_doable" (.ref dd) (f5 (m:Int) dp dO dA dq)))) b=some (.tup xs):=λb xs e=>keep _ _ (kJ _ _ e (A8 e oI (by intro z;cases z))) (A8 e xI (by intro z;cases z))
 have bh:∀b ob xs,HI b=some (.frz ob (.tup xs))->(Y HJ x (.ins C p (L2.putF "told_doable" (.ref dd) (f5 (m:Int) dp dO dA dq)))) b=some (.frz ob (.tup xs)):=λb ob xs e=>keep _ _ (kJ _ _ e (A8 e oI (by intro z;cases z))) (A8 e xI (by intro z;cases z))
 refine q _ (λc u e B=>keep c u (kJ c u (kI c u (kF c u (bg c u e B) ?_) B) ?_) B) ⟨p,dp,dO,dA,dq,dd,kp,kO,kA,kq,kd,o1,o2,Ag,keep _ _ (kJ _ _ pI pO) xp.symm,keep _ _ oJ xO.symm,keep _ _ (kJ _ _ aI aw.symm) xA.symm,keep _ _ (kJ _ _ qI qO) xq.symm,keep _ _ eJ xd.symm,bd,am.mono λv d _ r=>OuV.keep ab r,an.mono λv d _ r=>AnV.keep ab r,b2.mono λv d _ r=>PaV.keep ab bh r,cc⟩
 ·intro z;have:=a4 c u e B;rw[z,fD]at this;cases this
 intro z
 have:=aa c u e B
 rw[z,fB]at this
 cases this
end
end K21
namespace K21
open PySem L2 Tx Rk PyProof.Rows PySem.SeqAt
open PySem.PyData (strOk)
end K21
namespace K21
open PySem L2 Tx Rk PyProof.Rows PySem.SeqAt
open PySem.PyData (strOk)
section
variable {P:Program}{w:World}{K:W.Frag}{mg:Str->Option Value}{base:Heap}
mutual
theorem UE :∀{x:V}{d:PyData},RdV H x d->WK.okT d=true->RdD H x d
 | _,_,.non,_=>.non
 | _,_,.int i,ok=>nomatch ok
 | _,_,.str x,_=>.str x
 | _,_,.tup e rs,ok=>.tup e (UD rs ok)
theorem UD :∀{xs:List V}{ds:List PyData},RdVs H xs ds->WK.okTs ds=true->RdDs H xs ds
 | _,_,.nil,_=>.nil
 | _,_,.cons (d:=d) (ds:=ds) a b,ok=>by
  have c:WK.okT d=true/\WK.okTs ds=true:=by simpa [WK.okTs] using ok
  exact .cons (UE a c.1) (UD b c.2)
end
mutual
theorem KY :∀{x:V}{d:PyData},RdD H x d->RdV H x d
 | _,_,.non=>.non
 | _,_,.str x=>.str x
 | _,_,.tup e rs=>.tup e (UB rs)
theorem UB :∀{xs:List V}{ds:List PyData},RdDs H xs ds->RdVs H xs ds
 | _,_,.nil=>.nil
 | _,_,.cons a b=>.cons (KY a) (UB b)
end
theorem N0 {a:Type}{f:a->PyData}:∀{l:List a},(∀x∈l,WK.okT (f x)=true)->WK.okTs (l.map f)=true
 | [],_=>rfl
 | x::r,h=>by rw[Bg,WK.okTs,h x A9,N0 λy b=>h y (AY _ b)];rfl
def hX (xs:List Str):WK.okT (dH xs)=true:=by unfold dH;rw[WK.okT];exact N0 λ_ _=>by rw[WK.okT]
def Vb (W:Wl):WK.okT (dW W)=true:=by
 have a:WK.okT (dO W.hand)=true:=by cases W.hand <;> (unfold dO;rw[WK.okT])
 have b:WK.okTs (W.heaps.map dH)=true:=N0 λx _=>hX x;have c:WK.okTs (W.lids.map PyData.str)=true:=N0 λ_ _=>by rw[WK.okT]
 unfold dW;rw[WK.okT,WK.okTs,WK.okTs,WK.okTs,WK.okTs,a,WK.okT,WK.okT,b,c];rfl
theorem Ry {a:Type}{f:a->PyData}{n:Nat}:∀{l:List a},(∀x∈l,WK.dpD (f x)<=n)->WK.dpDs (l.map f)<=n
 | [],_=>by rw[Eb,WK.dpDs];exact Bn _
 | x::r,h=>by rw[Bg,WK.dpDs];exact Nat.max_le.mpr ⟨h x A9,Ry λy b=>h y (AY _ b)⟩
def qQ (W:Wl):WK.dpD (dW W)<=12:=by
 have a:∀xs:List Str,WK.dpDs (xs.map PyData.str)<=0:=λxs=>Ry λ_ _=>le_of_eq (show WK.dpD (.str _)=0 from U);have b:∀xs:List Str,WK.dpD (dH xs)<=4:=λxs=>by unfold dH;rw[WK.dpD];have:=a xs;lia
 have d:WK.dpDs (W.heaps.map dH)<=4:=Ry λx _=>b x;have e:=a W.lids;have c:WK.dpD (dO W.hand)=0:=by cases W.hand <;> rfl
 unfold dW;rw[WK.dpD,WK.dpDs,WK.dpDs,WK.dpDs,WK.dpDs,c,WK.dpD,WK.dpD];lia
theorem RC {a:Type}{f:a->PyData}{n:Nat}:∀{l:List a},(∀x∈l,(f x).depth<=n)->PyData.depthAll (l.map f)<=n
 | [],_=>by rw[Eb,PyData.depthAll];exact Bn _
 | x::r,h=>by rw[Bg,PyData.depthAll];exact Nat.max_le.mpr ⟨h x A9,RC λy b=>h y (AY _ b)⟩
def Wz (W:Wl):(dW W).depth<=8:=by
 have a:∀xs:List Str,PyData.depthAll (xs.map PyData.str)<=1:=λxs=>RC λ_ _=>by simp[PyData.depth]
 have b:∀xs:List Str,(dH xs).depth<=2:=λxs=>by unfold dH;rw[PyData.depth];have:=a xs;lia
 have c:PyData.depthAll (W.heaps.map dH)<=2:=RC λx _=>b x;have e:=a W.lids;have d:(dO W.hand).depth<=1:=by cases W.hand <;> simp[dO,PyData.depth]
 unfold dW;simp only[PyData.depth,PyData.depthAll];lia
def UC (h:RdV H v (dW W))(ok:Ok W):∃a,v=.ref a/\RdT H a (dW W):=by
 have r:=UE h (Vb W);cases r with
 | @tup a xs ds e rs=>exact⟨a,U,⟨.tup e rs,Vb W,SM (Qt ok),qQ W,Wz W⟩⟩
def WB (h:dW W=dW Z):W=Z:=by
 have g:∀{a b:List Str},a.map PyData.str=b.map PyData.str->a=b:=λ{a b} e=>List.map_inj_right (λx y z=>by injection z) |>.mp e
 obtain⟨f,d,m⟩:=W;obtain⟨h2,hp2,l2⟩:=Z;unfold dW at h;injection h with h;injection h with a b;injection b with b c;injection c with c _;injection b with b;injection c with c;have i:f=h2:=by cases f <;> cases h2 <;> first | rfl | (simp only[dO]at a;first | (injection a with a;rw[a]) | cases a)
 have j:d=hp2:=List.map_inj_right (λx y z=>by unfold dH at z;injection z with z;exact g z) |>.mp b
 have l:m=l2:=g c;rw[i,j,l]
def BP:Nat->List Wl->List (PyData×V)
 | _,[]=>[]
 | n,W::r=>(dW W,.int (n:Int))::BP (n+1) r
theorem E2:∀(n:Nat) (L:List Wl),(BP n L).length=L.length
 | _,[]=>rfl
 | n,W::r=>BQ (· + 1) (E2 (n+1) r)
theorem Vf:∀(n:Nat) (L:List Wl) (W:Wl),BP n (L++[W])=BP n L++[(dW W,.int ((n+L.length:Nat):Int))]
 | n,[],W=>rfl
 | n,a::r,W=>by show(dW a,V.int (n:Int))::BP (n+1) (r++[W])=(dW a,V.int (n:Int))::(BP (n+1) r++_);rw[Vf (n+1) r W,show n+1+r.length=n+(a::r).length by rw[Cy];lia]
theorem Lv:∀{n:Nat}{L:List Wl}{i:Nat}{W:Wl},L[i]? = some W->(BP n L)[i]? = some (dW W,.int ((n+i:Nat):Int))
 | n,Z::r,0,W,h=>by cases h;rfl
 | n,Z::r,i+1,W,h=>by have:=Lv (n:=n+1) (L:=r) (i:=i) (W:=W) h;rw[show n+1+i=n+(i+1) by lia]at this;exact this
 | _,[],_,_,h=>by cases h
theorem Vd:∀{n:Nat}{L:List Wl}{i:Nat}{W:Wl},L.Nodup->L[i]? = some W->Ax (BP n L) (dW W)=some (.int ((n+i:Nat):Int))
 | n,Z::r,0,W,_,h=>by cases h;unfold Ax BP;rw[F2,AU rfl];rfl
 | n,Z::r,i+1,W,nd,h=>by have a:=B6.mp nd;have b:¬dW Z=dW W:=λe=>a.1 (by rw[WB e];exact Br h);have:=Vd (n:=n+1) (i:=i) a.2 h;rw[show n+1+i=n+(i+1) by lia]at this;unfold Ax BP;rw[F2,BR b];exact this
 | _,[],_,_,_,h=>by cases h
theorem Ve:∀{n:Nat}{L:List Wl}{W:Wl},W∉L->Ax (BP n L) (dW W)=none
 | _,[],_,_=>rfl
 | n,Z::r,W,h=>by have a:¬dW Z=dW W:=λe=>h (by rw[WB e];exact A9);unfold Ax BP;rw[F2,BR a];exact Ve (n:=n+1) λz=>h (AY _ z)
def BC:List Wl->List Wl->List Wl
 | L,[]=>L
 | L,W::r=>BC (if W∈L then L else L++[W]) r
theorem Xd:∀(L A B:List Wl),BC L (A++B)=BC (BC L A) B
 | _,[],_=>rfl
 | L,W::r,B=>Xd (if W∈L then L else L++[W]) r B
theorem RU:∀(L A:List Wl),∃t,BC L A=L++t
 | L,[]=>⟨[],(Cc _).symm⟩
 | L,W::r=>by
  obtain⟨t,e⟩:=RU (if W∈L then L else L++[W]) r;show ∃t,BC (if W∈L then L else L++[W]) r=L++t;rw[e];split
  ·exact⟨t,U⟩
  exact⟨W::t,by rw[Di];rfl⟩
theorem RT:∀{L A:List Wl},L.Nodup->(BC L A).Nodup
 | _,[],h=>h
 | L,W::r,h=>by
  show(BC (if W∈L then L else L++[W]) r).Nodup;apply RT;split
  ·exact h
  rename_i n;exact Cr.mpr ⟨h,Θ,λa c b d e=>n (by rw[AR.mp d]at e;rw[<- e];exact c)⟩
theorem addN_mem:∀{L A:List Wl}{a:Wl},a∈BC L A↔a∈L\/a∈A
 | _,[],_=>by simp[BC]
 | L,W::r,a=>by
  show a∈BC (if W∈L then L else L++[W]) r↔_;rw[addN_mem];split
  ·rename_i h;constructor
   ·rintro(z | z)
    ·exact .inl z
    exact .inr (AY _ z)
   rintro(z | z)
   ·exact .inl z
   rcases(Az.mp z)with z | z
   ·exact .inl (by rw[z];exact h)
   exact .inr z
  simp only[BF,Az,Bw,Bv];constructor
  ·rintro((z | z) | z)
   ·exact .inl z
   ·exact .inr (.inl z)
   exact .inr (.inr z)
  rintro(z | z | z)
  ·exact .inl (.inl z)
  ·exact .inl (.inr z)
  exact .inr z
abbrev Lq:List Str:=["numbers", "worlds"]
abbrev kR:List Str:=Cj Lq ["world"]
def scAddNew:AI kR Lq (Aq NC):=AO
structure DL1 where
 line:Str
 w:Str
 i:Nat
 j:Nat
 p:Bo
 pj:Bo
structure Mx (rs:List Ro)(D:DL1):Prop where
 wd:Wd D.line (FF D.w D.p.1 D.pj.1)
 len:D.line.length<=1000
 pi:(plc rs)[D.i]? = some D.p
 pq:(plc rs)[D.j]? = some D.pj
 tip:D.w = "tip" -> D.i≠D.j
 nine:D.w∈Lx
structure FD (rs:List Ro)(D:DL1):Prop extends Mx rs D where
 six:D.w∈IH
def Cf (D:DL1)(W:Wl):List Wl:=GC D.w D.p W D.i (W.heaps.getD D.i []) (W.lids.getD D.i Str.empty) D.j (W.heaps.getD D.j []) (W.lids.getD D.j Str.empty)
abbrev Ce (rs:List Ro)(W:Wl):Prop:=Fw rs W/\Sz W (plc rs).length
def Jb (g:Good rs)(r:Ce rs W)(h:(plc rs)[i]? = some p):Pt rs W i p (W.heaps.getD i []) (W.lids.getD i Str.empty):=by
 obtain⟨d,hp,l,pt⟩:=Pt.of g r.1 r.2 (Ay.mp h).1;have a:=pt.pl;rw[h]at a;cases a;have b:W.heaps.getD i []=hp:=by rw[CA,pt.he];rfl
 have c:W.lids.getD i Str.empty=l:=by rw[CA,pt.li];rfl
 rw[b,c];exact pt
def Pi (g:Good rs)(r:Ce rs W)(ok:FD rs D):∀Z∈Cf D W,Ce rs Z:=iL r.1 r.2 (Jb g r ok.pi) (Jb g r ok.pq) ok.tip ok.six
structure NA (rs:List Ro)(Ws:List Wl)(Ds:List DL1)(n:Nat)(L:List Wl):Prop where
 nd:L.Nodup
 rw':∀W∈L,Ce rs W
 pre:∃t,L=BC [] Ws++t
 rch:∀(k:Nat) W,L[k]? = some W->(BC [] Ws).length<=k->∃(j:Nat) (Z:Wl) (D:DL1),j<n/\j<k/\L[j]? = some Z/\D∈Ds/\W∈Cf D Z
 clo:∀(i:Nat) Z,i<n->L[i]? = some Z->∀D∈Ds,∀W∈Cf D Z,W∈L
structure NI (rs:List Ro)(Ds:List DL1)(L:List Wl)(Z:Wl)(k:Nat)(M:List Wl):Prop where
 nd:M.Nodup
 rw':∀W∈M,Ce rs W
 pre:∃t,M=L++t
 mem:∀W∈M,W∈L\/∃D∈Ds,W∈Cf D Z
 clo:∀D∈Ds.take k,∀W∈Cf D Z,W∈M
def NA.start (h:∀W∈Ws,Ce rs W):NA rs Ws Ds 0 (BC [] Ws):=by
 refine⟨RT JV,λW d=>?_,⟨[],(Cc _).symm⟩,λk W c e=>?_,λi a b=>absurd b (RY _)⟩
 ·rcases addN_mem.mp d with z | z
  ·cases z
  exact h W z
 have:=(Ay.mp c).1;lia
def NI.start (a:Wl)(h:NA rs Ws Ds n L):NI rs Ds L a 0 L:=⟨h.nd,h.rw',⟨[],(Cc _).symm⟩,λW b=>.inl b,λD hD=>by rw[GZ]at hD;cases hD⟩
def NI.next {k:Nat} (g:Good rs)(i:Ce rs Z)(h:NI rs Ds L Z k M)(c:Ds[k]? = some D)(ok:FD rs D):NI rs Ds L Z (k+1) (BC M (Cf D Z)):=by
 obtain⟨d,l⟩:=Ay.mp c;refine⟨RT h.nd,λW a=>?_,?_,λW a=>?_,λj b W a=>?_⟩
 ·rcases addN_mem.mp a with z | z
  ·exact h.rw' W z
  exact Pi g i ok W z
 ·obtain⟨t,e⟩:=h.pre;obtain⟨t',f⟩:=RU M (Cf D Z);exact⟨t++t',by rw[f,e,Di]⟩
 ·rcases addN_mem.mp a with z | z
  ·exact h.mem W z
  exact .inr ⟨D,Br c,z⟩
 rw[BL d,l]at b;rcases BF.mp b with z | z
 ·exact addN_mem.mpr (.inl (h.clo j z W a))
 rw[AR.mp z]at a;exact addN_mem.mpr (.inr a)
def NA.next (h:NA rs Ws Ds n L)(f:L[n]? = some Z)(i:NI rs Ds L Z Ds.length M):NA rs Ws Ds (n+1) M:=by
 obtain⟨t,rfl⟩:=i.pre;have u:=(Ay.mp f).1;have c:∀{k:Nat}{W:Wl},L[k]? = some W->(L++t)[k]? = some W:=λ{k W} e=>by rw[Da (Ay.mp e).1];exact e
 refine⟨i.nd,i.rw',?_,λk W a r=>?_,λk W a b D hD V l=>?_⟩
 ·obtain⟨t',e⟩:=h.pre;exact⟨t'++t,by rw[e,Di]⟩
 ·by_cases d:k<L.length
  ·rw[Da d]at a;obtain⟨j,p,D,v,m,s,o,q⟩:=h.rch k W a r;exact⟨j,p,D,Ψ,m,c s,o,q⟩
  rcases i.mem W (Br a)with z | ⟨D,hD,z⟩
  ·exfalso;rw[ER Ψ]at a;exact(Cr.mp i.nd).2.2 W z W (Br a) U
  exact⟨n,Z,D,Ψ,Ψ,c f,hD,z⟩
 by_cases g:k<n
 ·rw[Da Ψ]at b;exact Hc _ (h.clo k W g b D hD V l)
 obtain rfl:k=n:=by lia
 rw[c f]at b;cases b;exact i.clo D (Cd▸hD) V l
abbrev K9:List Str:=["room", "worlds", "lines"]
abbrev jB:List Str:=Cj K9 ["numbers", "done", "world", "line"]
def scNumberAll:AI jB K9 (Aq Nh):=AO
inductive PP (vs:List V)(H:Hp)(Q:VK)(E0_:XK):Prop
 | mk (d lw:Addr) (L Ws:List Wl) (us:List V) (c0:vs=[.ref d,.ref lw]) (c1:Rd H d (.dT (BP 0 L))) (c2:L.Nodup) (c3:H lw=some (.lst us)) (c4:RdVs H us (Ws.map dW)) (c5:(∀W∈Ws,Ok W/\W∈L)) (c6:Ws.length<=60) (c7:Ws.Nodup) (c8:∀(l:Addr) (zs:List Int) (H':Hp),Same H H'->H l=none->H' l=some (.lst (zs.map V.int))->zs.Pairwise (· < ·)->(∀z∈zs,0<=z/\z<(L.length:Int))->zs.length<=60->Q (.ref l) H'):PP  vs H Q E0_
def I0 (s:Same H H')(h:Rd H d o):Rd H' d o:=by
 rcases h with h | ⟨f,h⟩
 ·exact .inl (s _ _ h)
 exact .inr ⟨f,s _ _ h⟩
def none_of (s:Same H H')(h:H' l=none):H l=none:=by
 cases e:H l with
 | none=>rfl
 | some u=>rw[s _ _ e]at h;cases h
def Lw (a:Rd H d (.dT kvs))(e:H c=some u)(b:u≠.dT kvs)(f:∀o,u≠.frz o (.dT kvs)):c≠d:=λz=>by
 subst z;rcases a with h | ⟨o,h⟩
 ·rw[e]at h;exact b (BG h)
 rw[e]at h;exact f o (BG h)
def RoomAt.keepT (R:RoomAt C H x rs)(g:Rd H d (.dT kvs))(k:∀c u,H c=some u->c≠d->H' c=some u):RoomAt C H' x rs:=by obtain⟨i,a,h,o,ks,p,j,q,l⟩:=R.ex;have n:∀{c:Addr}{u:HO},H c=some u->(u≠.dT kvs)->(∀o,u≠.frz o (.dT kvs))->H' c=some u:=λe m f=>k _ _ e (Lw g e m f);exact⟨i,a,h,o,ks,n p (λz=>by cases z) (λo z=>by cases z),n j (λz=>by cases z) (λo z=>by cases z),q.same λb xs e=>n e (λz=>by cases z) (λo z=>by cases z),n l (λz=>by cases z) (λo z=>by cases z)⟩
def mL {R:It->Hp->Prop}{H:Hp}{d:Addr}{kvs:List (PyData×V)}(b:Rd H d (.dT kvs))(m:∀o a,(∀c u,H c=some u->c≠d->a c=some u)->a d=some (.frz o (.dT kvs))->R (Ir d o kvs) a) :
  (H d=some (.dT kvs)/\∀o,R (Ir d o kvs) (Y H d (.frz o (.dT kvs))))\/∃o,H d=some (.frz o (.dT kvs))/\R (Ir d o kvs) H:=by
 rcases b with h | ⟨o,h⟩
 ·exact .inl ⟨h,λo=>m o _ (λc u e f=>by rw[Af f];exact e) Ag⟩
 exact .inr ⟨o,h,m o _ (λc u e _=>e) h⟩
def VL (e:∀{q:VK},q (.ref d) H->IC n σ H q)(b:Rd H d (.dT kvs))(m:∀o a,(∀c u,H c=some u->c≠d->a c=some u)->a d=some (.frz o (.dT kvs))->R (Ir d o kvs) a):VM (IC n) σ H R:=
 e ⟨d,kvs,U,mL b m⟩
def Q5 {H a:Hp}{d l:Addr}{o:HO}(k:∀c u,H c=some u->c≠d->a c=some u)(e:a d=some o)(h:a l=none):H l=none:=by
 cases e':H l with
 | none=>rfl
 | some u=>
  exfalso;by_cases b:l=d
  ·rw[b,e]at h;cases h
  rw[k _ _ e' b]at h;cases h
def Hq (h:Rd H d o)(n:H l=none):d≠l:=by
 rcases h with h | ⟨_,h⟩
 ·exact Au h n
 exact Au h n
def Rg {L:List Wl}{W:Wl}(h:W∈L):L[L.idxOf W]? = some W:=by have a:=Xq h;rw[AJ a,List.getElem_idxOf a]
def nO {L Ws:List Wl}(h:∀W∈Ws,W∈L)(nd:Ws.Nodup):(Ws.map λW=>(L.idxOf W:Int)).Nodup:=by
 refine Oq.mpr (SJ (λ{a b} ha hb ne e=>ne ?_) nd);have d:L.idxOf a=L.idxOf b:=by lia
 have c:=Rg (h a ha);rw[d,Rg (h b hb)]at c;cases c;rfl
abbrev K8:List Str:=["numbers", "worlds"]
abbrev jA:List Str:=K8
def Zq:AI jA K8 (Aq KJ):=AO
def Tw (g:Good rs)(r:Ce rs W)(ok:FD rs D):(Cf D W).Nodup/\(Cf D W).length<=2:=by
 unfold Cf GC Jw Eu putF Fo;split
 ·split <;> exact⟨Θ,Θ⟩
 split
 ·split <;> exact⟨Θ,Θ⟩
 split
 ·split <;> exact⟨Θ,Θ⟩
 exact⟨Θ,Θ⟩
inductive Qd (C:Addr)(vs:List V)(H:Hp)(Q:VK)(E0_:XK):Prop
 | mk (x d:Addr) (rs:List Ro) (D:DL1) (L:List Wl) (c0:vs=[.ref x,.ref d,.str D.line]) (c1:RoomAt C H x rs) (c2:Good rs) (c3:Rd H d (.dT (BP 0 L))) (c4:L.Nodup) (c5:(∀W∈L,Ce rs W)) (c6:L.length<=200) (c7:FD rs D) (c8:(∀Z∈L,∀W∈Cf D Z,W∈L)) (c9:∀(l:Addr) (tab:List (List Int)) (us:List V) (H':Hp),(∀c u,H c=some u->c≠d->H' c=some u)->Rd H' d (.dT (BP 0 L))->H l=none->H' l=some (.lst us)->A2 (λv e=>∃a,v=V.ref a/\H a=none/\H' a=some (.lst (e.map V.int))) us tab->DeOk L.length ⟨D.line,0,tab⟩->Q (.ref l) H'):Qd C vs H Q E0_
abbrev Lk:List Str:=["room", "numbers", "line"]
abbrev jY:List Str:=Lk
def ZF:AI jY Lk (Aq KR):=AO
def eM (F:Fun K "numbers_of" "numbers_of" KJ f fd)(T:Bl mg):FnOk P w K mg base CX0 1 f fd K8 PP:=by
 refine F.oq Zq λcdv A outer s H vs Q E hr h=>?_;obtain⟨d,lw,L,Ws,us,rfl,hd,nd,v,rd,ok,few,C,q⟩:=h;have hu:=Cz hr;have a0:sizeLine=16777216:=AF;have G:us.length=Ws.length:=by rw[rd.length,Ai]
 refine⟨_,(Am (AC (AX rR Φ T.sorted RM (Aa (Dx (N:=["world", "numbers"]) (sc:=Aq KJ) (own:=["world"]) (fr:=["numbers"]) (js:=[0]) B0 U (BS (pv 1)) (λ_ _ _ _=>AS (i:=0) (show List.Nodup (["world", "numbers"]:List Str) by decide +kernel)) (λ_ _ _ _=>Ck) (λ_ _ _ _=>(CS hu (pv 1) (pv 0) (λ_ _=>U)))) Ab)))),?_⟩;refine⟨_,U,lw,U,⟨_,SqL.of v⟩,λD hD=>?_⟩
 refine Co (n:=us.length) (λi ys g=>ys=(Ws.take i).map (λW=>V.int (L.idxOf W:Int))/\Same H g/\g D=some (.lst ys)) ⟨U,Same.new hD,Ag⟩
  (λi ys g hi ⟨_,s2,_⟩=>⟨_,us[i],SqL.of (s2 _ _ v),AJ hi⟩) (λys g X=>by obtain⟨_,s2,_⟩:=X;exact⟨_,SqL.of (s2 _ _ v),An _⟩) ?_ ?_
 ·rintro i ys g y H3 hi ⟨rfl,s2,u⟩ ⟨rfl,hy⟩;refine Cn ?_;have hv:=hy _ (SqL.of (s2 _ _ v));have e:i<Ws.length:=by lia
  obtain⟨dd,p,m⟩:=rd.get hv;rw[AQ,AJ e]at p;cases p;have r:Ws.take (i+1)=Ws.take i++[Ws[i]]:=BL e;have j:=ok Ws[i] (CI e);generalize Ws[i]=W at m r j;obtain⟨b,rfl,rt⟩:=UC (s2.rd m) j.1;have c:=Vd (n:=0) nd (Rg j.2);rw[Os]at c;refine⟨_,U,_,U,d,_,U,.inr ⟨_,_,b,I0 s2 hd,U,rt,c.symm⟩,?_⟩;refine⟨_,u,by rw[Ai,Bh];lia,by rw[r,AW];rfl,s2.put hD,Ag⟩
 rintro ys g ⟨rfl,s2,u⟩;rw[G,Cd]at u;have M:g D=some (.lst ((Ws.map λW=>(L.idxOf W:Int)).map V.int)):=by rw[BD];exact u
 refine⟨D,_,U,SqL.of M,by rw[Ai];lia,λl zs o I x=>?_⟩;have B:zs.Nodup:=I.nodup_iff.mpr (nO (λW S=>(ok W S).2) C);have R:=I.length_eq;rw[Ai]at R;refine q l zs _ (s2.trans (Same.new o)) (none_of s2 o) Ag ((x.and B).imp λ{a b} h=>by obtain⟨h1,h2⟩:=h;lia) (λz hz=>?_) Ψ;obtain⟨W,S,rfl⟩:=Ba.mp (I.mem_iff.mp hz);have:=Xq (ok W S).2;lia
def gK (F:Fun K "deed_table" "deed_table" KR f fd)(T:Bl mg)(m:Ca P w K mg base CX0 1 "numbers_of" KJ K8 PP)(B:Ca P w K mg base CX0 7 "turns" KE Jg (MM C)):FnOk P w K mg base CX0 8 f fd Lk (Qd C):=by
 refine F.oq ZF λcdv A outer s H vs Q E M h=>?_;obtain⟨x,d,rs,D,L,rfl,ro,g,hd,nd,a6,few,I,ab,q⟩:=h;have hu:=Cz M;have a5:Room 7 _:=M.mono Ξ;have a8:Room 1 _:=M.mono Ξ;have af:sizeLine=16777216:=AF;have a4:∀{W:Wl},Ce rs W->Ok W:=λr=>r.1.ok g r.2;refine⟨_,(Am (AC (Dx (N:=["world", "numbers", "room", "line"]) (sc:=Aq KR) (own:=["world"]) (fr:=["numbers", "room", "line"]) (js:=[1,0,2]) B0 U (UW (pv 1)) (λ_ _ _ _=>AS (i:=0) (show List.Nodup (["world", "numbers", "room", "line"]:List Str) by decide +kernel)) (λ_ _ _ _=>Ck) (λ_ _ _ _=>(AN m a8 Ao (Aa (pv 1) (Aa (AN B a5 Ao (Aa (pv 2) (Aa (pv 3) (Aa (pv 0) Ab)))) Ab))))))),?_⟩;unfold Pm tLc;refine VL (n:=1) ?_ hd λo H1 k1 e1=>?_
 ·intro q h;exact⟨_,U,h⟩
 have ad:=ro.keepT hd k1;intro D0 X
 refine Co (n:=L.length) (λi ys G=>∃p:List (List Int),A2 (λv e=>∃a,v=V.ref a/\a≠D0/\H a=none/\G a=some (.lst (e.map V.int))) ys p/\p.length=i/\(∀e∈p,e.Pairwise (· < ·)/\(∀z∈e,0<=z/\z<(L.length:Int))/\e.length<=60)/\Same H1 G/\G D0=some (.lst ys)) ⟨[],⟨U,λi v t hv=>by cases hv⟩,U,λe he=>(by cases he),Same.new X,Ag⟩
  (λi ys G hi a1=>by obtain⟨_,_,_,_,s2,_⟩:=a1;exact⟨by rw[E2];exact hi,s2 _ _ e1⟩) (λys G a1=>by obtain⟨_,_,_,_,s2,_⟩:=a1;exact⟨by rw[E2];exact An _,s2 _ _ e1⟩) ?_ ?_
 ·rintro i ys G y H3 hi ⟨p,a2,ht,he,s2,e2⟩ ⟨rfl,k,v,b,hk,rfl,rt⟩;refine Cn ?_;have hz:L[i]? = some L[i]:=AJ hi;have R:=a6 L[i] (CI hi);have cz:=ab L[i] (CI hi);generalize L[i]=Z at hz R cz;rw[Lv hz]at hk;cases hk;have a9:=a4 R;have fP:=g.fewP;obtain⟨tn,tl⟩:=Tw g R I;refine⟨_,U,_,U,_,U,_,U,x,rs,_,Z,D.line,D.w,D.i,D.p,_,_,D.j,D.pj,_,_,U,ad.same s2,g,KY rt.rd,I.wd,I.len,Jb g R I.pi,Jb g R I.pq,I.tip,I.six,a9.few,by have:=R.2.2;lia,λlt ac H6 s6 e6 r6=>?_⟩;refine⟨d,lt,L,Cf D Z,ac,U,.inr ⟨o,s6 _ _ (s2 _ _ e1)⟩,nd,e6,r6,λW hW=>⟨a4 (Pi g R I W hW),cz W hW⟩,Ψ,tn,λl zs H7 s7 n7 e7 up a7 a3=>?_⟩;have a0:=s6.trans s7;have ae:=a2.len;have lD:l≠D0:=(Au (s6 _ _ e2) n7).symm;refine⟨_,a0 _ _ e2,Ψ,p++[zs],(a2.mono λv e _ h=>?_).app ⟨U,λj v e hv S=>?_⟩,by rw[AG,ht];rfl,λe S=>?_,(s2.trans a0).put X,Ag⟩
  ·obtain⟨a,rfl,ha,hn,h⟩:=h;exact⟨a,U,ha,hn,by rw[Af ha];exact a0 _ _ h⟩
  ·match j with
   | 0=>cases hv;cases S;exact⟨l,U,lD,Q5 k1 e1 (none_of (s2.trans s6) n7),by rw[Af lD];exact e7⟩
   | j+1=>cases hv
  rcases BF.mp S with z | z
  ·exact he e z
  rw[AR.mp z];exact⟨up,a7,a3⟩
 rintro ys G ⟨p,a2,ht,he,s2,e2⟩;exact q D0 p ys G (λc u e hc=>s2 _ _ (k1 c u e hc)) (.inr ⟨o,s2 _ _ e1⟩) (Q5 k1 e1 X) e2 (a2.mono λv e _ aa=>by obtain⟨a,h1,_,h2,h3⟩:=aa;exact⟨a,h1,h2,h3⟩) ⟨ht,λe h=>(he e h).1,λe h=>(he e h).2.1,λe h=>(he e h).2.2⟩
abbrev Ld:List Str:=["room", "numbers", "line"]
abbrev jG:List Str:=Ld
def Zs:AI jG Ld (Aq KM):=AO
def Kj (H:Hp)(v:V)(q:DL1×Int):Prop:=∃a,v=V.ref a/\H a=some (.tup [.str q.1.line,.int q.2])
structure Mo (rs:List Ro)(Ps:List (DL1×Int)):Prop where
 ok:∀q∈Ps,FD rs q.1
 st:∀q∈Ps,Ec (q.1.line,q.2)
 few:Ps.length<=40
 nd:(Ps.map λq=>q.1.line).Nodup
def tM (D0 d:Addr)(H:Hp)(v:V)(e:List Int):Prop:=∃b,v=V.ref b/\b≠D0/\b≠d/\H b=some (.lst (e.map V.int))
def DxV (D0 d:Addr)(H:Hp)(v:V)(de:Dee):Prop:=∃(a t:Addr) (es:List V),v=V.ref a/\a≠D0/\a≠d/\H a=some (.tup [.str de.name,.int de.price,.ref t])/\t≠D0/\t≠d/\H t=some (.lst es)/\A2 (tM D0 d H) es de.tab
def DxV.keep {de:Dee}(h:DxV D0 d H v de)(k:∀c u,H c=some u->c≠D0->c≠d->H' c=some u):DxV D0 d H' v de:=by obtain⟨a,t,es,e,i,g,s,m,j,q,r⟩:=h;exact⟨a,t,es,e,i,g,k _ _ s i g,m,j,k _ _ q m j,r.mono λv e _ f=>by obtain⟨b,o,l,n,p⟩:=f;exact⟨b,o,l,n,k _ _ p l n⟩⟩
def DxV.de {de:Dee}(h:DxV D0 d H v de):DeV H v de:=by obtain⟨a,t,es,e,m,l,j,p,n,i,r⟩:=h;exact⟨t,es,⟨a,e,j⟩,i,r.mono λv e _ c=>by obtain⟨b,f,o,q,g⟩:=c;exact⟨b,f,g⟩⟩
abbrev Ln:List Str:=["room", "numbers", "deeds", "looks"]
abbrev kK:List Str:=Cj Ln ["charted_deeds", "charted_looks"]
def scChartOf:AI kK Ln (Aq IV):=AO
def FR (g:Good rs)(ok:Mx rs D):∃ps:List Str,Wd D.line (D.w::ps)/\ps.length<=100/\JL rs D.w ps=true:=by
 have b:=ok.wd;unfold FF at b;by_cases a:D.w = "tip"
 ·rw[Ar a]at b;have c:[D.p.1,D.pj.1].Nodup:=by have f:D.p.1≠D.pj.1:=λe=>ok.tip a (bK g ok.pi ok.pq e);simp[f]
  refine⟨_,b,by show 2<=100;decide,?_⟩;unfold JL;have i:CC D.w=V.int 2:=by rw[a];decide +kernel
  rw[show decide (CC D.w=V.int (([D.p.1,D.pj.1].length:Nat):Int))=true from AU i,AU c];rw[show([D.p.1,D.pj.1].all λp=>decide (p∈(plc rs).map (·.1)))=true from ?_]
  ·rfl
  rw[DB];intro y j;refine AU ?_;rcases(Az.mp j)with e | e
  ·rw[e];exact CQ (Br ok.pi)
  rw[AR.mp e];exact CQ (Br ok.pq)
 rw[Ak a]at b
 have h:CC D.w=V.int 1:=by
  rcases iK ok.nine with d | d
  ·rcases Vi d with e | e | e | e | e
   ·rw[e];decide +kernel
   ·rw[e];decide +kernel
   ·rw[e];decide +kernel
   ·exact absurd e a
   rw[e];decide +kernel
  exact lU d
 exact⟨_,b,by show 1<=100;decide,Wm ok.pi h⟩
def By (H:Hp)(v:V)(s:Str×Int):Prop:=∃a,v=V.ref a/\H a=some (.tup [.str s.1,.int s.2])
abbrev Gv:List Str:=["room", "line"]
abbrev iV:List Str:=Cj Gv ["words"]
def scReadLook:AI iV Gv (Aq IM):=AO
abbrev Ll:List Str:=["room", "deeds", "looks"]
abbrev jZ:List Str:=Cj Ll ["deed", "look"]
def scCheckTold:AI jZ Ll (Aq Nw):=AO
structure My (K:W.Frag)(C:Addr):Prop where
 cl:Cls K C
 n1:NoAttr K C "told_room"
 n2:NoAttr K C "numbers"
 n3:NoAttr K C "made_chart"
def g1 (x:Addr):List (Str×V):=L2.putF "told_room" (.ref x) []
def g2 (x d:Addr):List (Str×V):=L2.putF "numbers" (.ref d) (g1 x)
def g3 (x d y:Addr):List (Str×V):=L2.putF "made_chart" (.ref y) (g2 x d)
def pN (x d:Addr):(g2 x d).lookup ("numbers" : Str)=some (.ref d):=by unfold g2;rw[CF,Ar rfl]
def pM (x d y:Addr):(g3 x d y).lookup ("numbers" : Str)=some (.ref d):=by unfold g3 g2;rw[CF,Ak Δ,CF,Ar rfl]
structure Pd (C CT:Addr)(H:Hp)(z:Addr)(rs:List Ro)(L:List Wl):Prop where
 ex:∃(dz x d y:Addr),H z=some (.ins CT dz (g3 x d y))/\RoomAt C H x rs/\Rd H d (.dT (BP 0 L))
def RoomAt.keepX (R:RoomAt C H x rs)(a:H y=some (.ins CT dy fl))(g:fl.lookup ("told_places" : Str)=none)(k:∀c u,H c=some u->c≠y->H' c=some u):RoomAt C H' x rs:=by obtain⟨l,i,j,o,ks,d,f,m,h⟩:=R.ex;refine⟨l,i,j,o,ks,k _ _ d λz=>?_,k _ _ f (A8 f a nofun),m.same λb xs e=>k _ _ e (A8 e a nofun),k _ _ h (A8 h a nofun)⟩;rw[z,a]at d;have e:=BG d;injection e with _ _ e;rw[e,NG]at g;cases g
def pL:([]:List (Str×V)).lookup ("told_places" : Str)=none:=rfl
def VX (x:Addr):(g1 x).lookup ("told_places" : Str)=none:=by unfold g1;rw[CF,Ak Δ];rfl
def pP (x d:Addr):(g2 x d).lookup ("told_places" : Str)=none:=by unfold g2;rw[CF,Ak Δ];exact VX x
theorem Uz :∀{L:List Wl}{n:Nat}{c:List Addr},S2 H c (BP n L)->RdVs H (c.map V.ref) (L.map dW)
 | [],n,c,ky=>by
  have:=ky.len;match c,this with
  | [],_=>exact .nil
 | Z::r,n,c,ky=>by
  have d:=ky.len;match c,d with
  | b::bs,d=>refine .cons (KY (ky.at' 0 b _ _ U U).rd) (Uz ⟨J7 d,λi a k v e f=>ky.at' (i+1) a k v e f⟩)
inductive ML (C CT:Addr)(vs:List V)(H:Hp)(Q:VK)(E0_:XK):Prop
 | mk (z:Addr) (rs:List Ro) (L:List Wl) (c0:vs=[.ref z]) (c1:Pd C CT H z rs L) (c2:∀(l:Addr) (us:List V) (H':Hp),Same H H'->H l=none->H' l=some (.lst us)->RdVs H' us (L.map dW)->Q (.ref l) H'):ML C CT vs H Q E0_
abbrev Fj:List Str:=["self", "room", "worlds", "deeds", "looks"]
abbrev kQ:List Str:=Fj
def ZK:AI kQ Fj (Aq NB):=AO
abbrev QZ:List Str:=["self"]
abbrev kP:List Str:=QZ
def ZJ:AI kP QZ (Aq QD):=AO
def hQ (F:Fun K "worlds" "Atlas.worlds" QD f fd)(T:Bl mg)(L:My K CT):FnOk P w K mg base CX0 1 f fd ["self"] (ML C CT):=by refine F.oq ZJ ?_;rintro cdv A outer s H vs Q E i⟨z,rs,g,rfl,at',q⟩;obtain⟨e,x,d,y,c,j,b⟩:=at'.ex;refine⟨_,(Am (AC (BK (WV U) Φ T.list Dh (Aa (Fi (pv 0) U) Ab)))),_,U,z,CT,e,_,_,U,c,L.cl,L.n2,pM x d y,d,_,U,b,λl h a ky=>?_⟩;exact q l _ _ (Same.new a) a Ag ((Same.new a).rds (Uz ky))
inductive Py (C:Addr)(vs:List V)(H:Hp)(Q:VK)(E0_:XK):Prop
 | mk (x:Addr) (rs:List Ro) (p:Str×Str) (c0:vs=[.ref x,.str p.1]) (c1:RoomAt C H x rs) (c2:Good rs) (c3:p∈ths rs) (c4:Q (.str p.2) H):Py C vs H Q E0_
def Zn:AI ["self", "thing"] ["self", "thing"] (Aq Qx):=AO
def wordsS:List Str:=["feel", "try", "heft"]
structure Mw (K:W.Frag)(mg:Str->Option Value)(aW:Addr):Prop where
 wm:mg "WORDS" = some (.ref aW)
 wv:∀H:Hp,SqT K H aW (wordsS.map V.str)
def Fn (rs:List Ro)(a b:Str):Bool:=if b = "hand" then decide (a = "feel")else decide (a∈wordsS) && decide (b∈(plc rs).map (·.1))
inductive P6 (C:Addr)(vs:List V)(H:Hp)(Q:VK)(E0_:XK):Prop
 | mk (x:Addr) (rs:List Ro) (a b:Str) (c0:vs=[.ref x,.str a,.str b]) (c1:RoomAt C H x rs) (c2:∀H':Hp,Same H H'->Q (.bl (Fn rs a b)) H'):P6 C vs H Q E0_
abbrev Li:List Str:=["room", "word", "name"]
abbrev jR:List Str:=Li
def Zz:AI jR Li (Aq Nq):=AO
def Xw (rs:List Ro)(o:Option Str)(s:Str):Prop:=(o=none/\s = "-")\/∃x∈ths rs,o=some x.1/\s=x.2
def FI (rs:List Ro):Option Str->Str
 | none => "-"
 | some t=>(((ths rs).find? λx=>x.1 == t).map (·.2)).getD "-"
def Qu (h:∀t,o=some t->t∈(ths rs).map (·.1)):Xw rs o (FI rs o):=by
 cases o with
 | none=>exact Or.inl ⟨U,U⟩
 | some t=>
  obtain⟨y,c,e⟩:=Ba.mp (h t U);refine .inr ?_;unfold FI;cases hf:(ths rs).find? (λx=>x.1 == t)with
  | none=>exact absurd (List.find?_eq_none.mp hf y c) (by rw[e];simp)
  | some x=>have a:(x.1 == t)=true:=List.find?_some (p:=λx:Str×Str=>x.1 == t) hf;have b:=Xh hf;refine⟨x,b,by rw[JW a],?_⟩;show(Option.map (λx=>x.2) ((ths rs).find? λx=>x.1 == t)).getD _=_;rw[hf];rfl
inductive MN (C:Addr)(vs:List V)(H:Hp)(Q:VK)(E0_:XK):Prop
 | mk (x:Addr) (rs:List Ro) (o:Option Str) (z:Str) (c0:vs=[.ref x,oV o]) (c1:RoomAt C H x rs) (c2:Good rs) (c3:Xw rs o z) (c4:Q (.str z) H):MN C vs H Q E0_
abbrev Gu:List Str:=["room", "thing"]
abbrev iS:List Str:=Gu
def Zm:AI iS Gu (Aq KG):=AO
inductive MO (C:Addr)(vs:List V)(H:Hp)(Q:VK)(E0_:XK):Prop
 | mk (x:Addr) (rs:List Ro) (a b:Str) (c0:vs=[.ref x,.str (Txt.join blank [a,b])]) (c1:RoomAt C H x rs) (c2:32∉cs a) (c3:32∉cs b) (c4:a.length<=16) (c5:b.length<=16) (c6:Fn rs a b=true) (c7:∀(l:Addr) (H':Hp),Same H H'->H' l=some (.lst [.str a,.str b])->Q (.ref l) H'):MO C vs H Q E0_
def JJ (rs:List Ro)(hp:List Str)(l:Str):Option Str:=if l = "open" then some (FI rs hp.getLast?)else none
def LI (hp:List Str)(l:Str):Option Str:=if l = "open" then none else some (if hp=[]then "light" else "heavy")
def Iv (p:Bo)(l:Str):Option Str:=if p.2.1=true then some l else none
def GJ (rs:List Ro)(wd:Str)(p:Bo)(W:Wl)(hp:List Str)(l:Str):Option Str:=
 if wd = "hand" then some (FI rs W.hand)else if W.hand.isSome=true then none else if wd = "try" then Iv p l else if wd = "feel" then JJ rs hp l else LI hp l
structure AtW (rs:List Ro)(W:Wl)(i:Nat)(p:Bo)(hp:List Str)(l:Str):Prop where
 pl:(plc rs)[i]? = some p
 he:W.heaps[i]? = some hp
 li:W.lids[i]? = some l
 hs:∀t∈hp,t∈(ths rs).map (·.1)
 ha:∀t,W.hand=some t->t∈(ths rs).map (·.1)
def mI (a:AtW rs W i p hp l):∀t,hp.getLast? = some t->t∈(ths rs).map (·.1):=λt e=>a.hs t (List.mem_of_getLast? e)
def AtW.of (c:Fw rs W)(sz:Sz W (plc rs).length)(h:i<(plc rs).length):∃p d l,AtW rs W i p d l:=by
 have b:i<W.heaps.length:=by have:=sz.1;lia
 have e:i<W.lids.length:=by have:=sz.2;lia
 refine⟨_,_,_,AJ h,AJ b,AJ e,λt a=>?_,λt a=>?_⟩
 ·exact c.perm.mem_iff.mp (En _ (List.mem_flatten.mpr ⟨_,CI b,a⟩))
 exact c.perm.mem_iff.mp (Hc _ (a▸AR.mpr U))
inductive Hh (C:Addr)(F:List Ro->Bo->List Str->Str->Option Str)(vs:List V)(H:Hp)(Q:VK)(E0_:XK):Prop
 | mk (x:Addr) (rs:List Ro) (v:V) (W:Wl) (i:Nat) (p:Bo) (hp:List Str) (l:Str) (c0:vs=[.ref x,v,.str p.1]) (c1:RoomAt C H x rs) (c2:Good rs) (c3:RdV H v (dW W)) (c4:AtW rs W i p hp l) (c5:∀H':Hp,Same H H'->Q (oV (F rs p hp l)) H'):Hh C F vs H Q E0_
abbrev Jo:List Str:=["room", "world", "place"]
abbrev jW:List Str:=Cj Jo ["heap"]
def scFeel:AI jW Jo (Aq Nu):=AO
abbrev Jh:List Str:=["room", "world", "place"]
abbrev iQ:List Str:=Jh
def Zl:AI iQ Jh (Aq M9):=AO
abbrev Jn:List Str:=["room", "world", "place"]
abbrev jT:List Str:=Jn
def ZC:AI jT Jn (Aq Nr):=AO
def XA (wd:Str)(p:Bo)(a b:Str):Prop:=(wd = "hand" /\ a = "feel" /\ b = "hand")\/(wd∈wordsS/\a=wd/\b=p.1)
inductive PX (C:Addr)(vs:List V)(H:Hp)(Q:VK)(E0_:XK):Prop
 | mk (x:Addr) (rs:List Ro) (v:V) (W:Wl) (i:Nat) (p:Bo) (hp:List Str) (l wd a b:Str) (c0:vs=[.ref x,.str (Txt.join blank [a,b]),v]) (c1:RoomAt C H x rs) (c2:Good rs) (c3:RdV H v (dW W)) (c4:AtW rs W i p hp l) (c5:XA wd p a b) (c6:∀H':Hp,Same H H'->Q (oV (GJ rs wd p W hp l)) H'):PX C vs H Q E0_
abbrev Lc:List Str:=["room", "line", "world"]
abbrev jF:List Str:=Cj Lc ["words"]
def scLooked:AI jF Lc (Aq Nk):=AO
def Pe {wd:Str}(h:wd∈wordsS):32∉cs wd/\wd.length<=16/\¬wd = "hand" := by simp[wordsS,Az,Bw,Bv]at h;rcases h with e | e | e <;> (subst e;exact⟨Δ,Δ,Δ⟩)
def HN {rs:List Ro}{i:Nat}{p:Bo}(h:(plc rs)[i]? = some p):p.1∈(plc rs).map (·.1):=CQ (Br h)
def Wg (rs:List Ro)(p:Bo)(W:Wl)(a:List Str)(l:Str):GJ rs "hand" p W a l=some (FI rs W.hand):=Ar U
def qJ (rs:List Ro){wd:Str}(p:Bo) (a:List Str)(l:Str)(h:¬wd = "hand"){t:Str}(e:W.hand=some t):GJ rs wd p W a l=none:=by unfold GJ;rw[Ak h,e];exact Ar U
def qH (rs:List Ro){wd:Str}(p:Bo) (a:List Str)(l:Str)(h:¬wd = "hand")(e:W.hand=none):GJ rs wd p W a l=if wd = "try" then Iv p l else if wd = "feel" then JJ rs a l else LI a l:=by unfold GJ;rw[Ak h,e];exact Ak Ξ
def pK {a:List Str}{t:Str}(h:a.getLast? = some t):(a.map V.str).getLast? = some (.str t):=by rw[List.getLast?_map,h];rfl
def dE (F:Fun K "shape_of" "Room.shape_of" Qx f fd)(L:Cl K C):FnOk P w K mg base CX0 1 f fd ["self", "thing"] (Py C):=by refine F.oq Zn ?_;rintro cdv A outer s H vs Q E i⟨x,rs,p,rfl,R,g,l,q⟩;have h:=Cz i;obtain⟨c,b,a,o,kvs,e,m,n,j⟩:=R.ex;have d:DGet H a (.str p.1) (some (.str p.2)):=.inl ⟨shK rs,(Sum.inr p.1:Key),.inl j,U,(Ue g.ndT l).symm⟩;refine⟨_,Ah (AL (Hr (NS h (pv 1) (Fi (pv 0) U))) Cu AK) (Am (AC (CS h (Fi (pv 0) U) (pv 1) (λ_ _=>U)))),_,U,_,U,x,C,c,_,_,U,e,L.cl,L.nS,Uv b a,a,_,U,d,_,U,?_⟩;apply BH;exact⟨_,U,x,C,c,_,_,U,e,L.cl,L.nS,Uv b a,_,U,a,_,U,d,q⟩
def fV (F:Fun K "is_look" "is_look" Nq f fd)(L:Cl K C)(m:Mw K mg aW)(c:Binds K d_places ["self"] [])(d:Dv K C "places" f_places)(e:FnOk P w K mg base CX0 1 f_places d_places ["self"] (Hf C)):FnOk P w K mg base CX0 2 f fd Li (P6 C):=by
 refine F.oq Zz λcdv A outer s H vs Q E i h=>?_;obtain⟨x,rs,a,b,rfl,R,q⟩:=h;obtain⟨D,r,u,o,kvs,y,G,I,N⟩:=R.ex;refine⟨_,(Ah (AL (AM Bt (pv 2) Aw (AE _)) (Am (AC (De Bt (pv 1) Aw (AE _)))) AK) (Am (AC (NR (De Js (pv 1) (B7 (v:=.ref aW) Φ m.wm U) Φ) (NQ (De Js (pv 2) (Hv (pv 0) L.cl d e i c .nil Ao) Φ)))))),?_⟩;refine⟨_,U,U,_,U,?_⟩;by_cases g:b = "hand"
 ·refine HU g ?_;refine⟨_,U,U,?_⟩;have j:=q H (Same.refl _);unfold Fn at j;rw[Ar g]at j;rw[Wu];exact j
 refine HV g ?_;unfold Fn at q;rw[Ak g]at q;refine⟨_,U,aW,_,U,.inr (m.wv H),U,flat_strs _,_,U,?_⟩;show if Fq (V.str a) (wordsS.map V.str)=true then _ else _
 rw[HW];by_cases p:a∈wordsS
 ·rw[AU p]at q ⊢;refine BA ?_;refine⟨_,U,_,U,x,D,_,U,y,EX r u Δ Δ,x,rs,U,R,λl n B M z=>?_⟩;refine⟨l,_,U,.inl (SqL.of z),U,flat_strs _,?_⟩;show Q (.bl (Fq (V.str b) (((plc rs).map (·.1)).map V.str))) n;rw[HW];exact q n B
 rw[BR p]at q ⊢;exact BH (q H (Same.refl _))
def dQ (F:Fun K "read_look" "read_look" IM f fd)(T:Bl mg)(c:Ca P w K mg base CX0 2 "is_look" Nq Li (P6 C)):FnOk P w K mg base CX0 3 f fd Gv (MO C):=by
 refine F.oq scReadLook λcdv A outer s H vs Q E j h=>?_;obtain⟨x,rs,a,b,rfl,R,v,r,G,I,p,q⟩:=h;have B:sizeLine=16777216:=AF
 have m:Txt.split (Txt.join blank [a,b]) blank=[a,b]:=Pu (Ik _ _) λw o=>by
  simp only[Az,Bw,Bv]at o;rcases o with e | e
  ·rw[e];exact v
  rw[e];exact r
 have g:(Txt.join blank [a,b]).length+2<=sizeLine:=by
  rw[show Txt.join blank [a,b]=a++blank++b from U,Cm,Cm];have:blank.length=1:=by decide +kernel
  lia
 refine⟨_,(Ah (AD (i:=2) scReadLook.nd (CN Ia FZ JR Ju (pv 1) (Aa Aw Ab))) (Ah (AL (PW.pt (Ex (AM Gz (AX BI Φ T.len Bj (Aa (pv 2) Ab)) Ae (AE _)) (Fg (DV (Ey (AN c j Ao (Aa (pv 0) (Aa (Av Bb (pv 2) Ae (λ_ _=>U)) (Aa (Av Bb (pv 2) Ae (λ_ _=>U)) Ab))))))))) Cu AK) (Am (AC (pv 2))))),?_⟩;refine⟨_,U,U,_,_,U,U,Φ,g,λl D=>?_⟩;refine N8 [a,b] _ (by show(Txt.split _ blank).map V.str=_;rw[m]) D λL n d=>?_;have u:atI [V.str a,V.str b] ((0:Nat):Int)=some (.str a):=AB U;have y:atI [V.str a,V.str b] ((1:Nat):Int)=some (.str b):=AB U;refine⟨_,U,_,_,U,.inl ⟨_,SqL.of d,U⟩,U,_,U,?_⟩;refine nB U ?_;refine⟨_,U,_,U,l,_,_,_,U,U,SqL.of d,u,_,U,l,_,_,_,U,U,SqL.of d,y,x,rs,a,b,U,R.same n,λz s2=>⟨_,U,?_⟩⟩;rw[p];refine BH ?_;exact⟨_,U,q l z (n.trans s2) (s2 _ _ d)⟩
def dC (F:Fun K "shape_told" "shape_told" KG f fd)(L:Cl K C)(a:Binds K d_s ["self", "thing"] [])(c:Dv K C "shape_of" f_s)(b:FnOk P w K mg base CX0 1 f_s d_s ["self", "thing"] (Py C)):FnOk P w K mg base CX0 2 f fd Gu (MN C):=by
 refine F.oq Zm ?_;rintro cdv A outer s H vs Q E d⟨x,rs,o,z,rfl,R,g,i,q⟩;obtain⟨j,e,h,r,kvs,m,n,u,p⟩:=R.ex;refine⟨_,(Am (AC (Jf (AM Q0 (pv 1) Dc (AE _)) Aw (Je (pv 0) L.cl c b d a .nil Ao (Aa (pv 1) Ab))))),_,U,U,_,U,?_⟩;rcases i with⟨rfl,rfl⟩ | ⟨y,l,rfl,rfl⟩
 ·exact BA q
 apply BH;exact⟨_,U,x,j,_,U,m,EX e h Δ Δ,_,U,x,rs,y,U,R,g,l,q⟩
def gI {f1 f2 f3:Addr} (F:Fun K "feel" "feel" Nu f fd)(T:Bl mg)(D_lid_on:Df K mg "lid_on" Gh ED f1 d1)(D_heap_in:Df K mg "heap_in" Hn EZ f2 d2)(D_shape_told:Df K mg "shape_told" KG Gu f3 d3)
  (c:FnOk P w K mg base CX0 2 f1 d1 ED (Hg C))(b:FnOk P w K mg base CX0 2 f2 d2 EZ (IG C))(a:FnOk P w K mg base CX0 2 f3 d3 Gu (MN C)):FnOk P w K mg base CX0 3 f fd Jo (Hh C λrs _ j l=>JJ rs j l):=by
 refine F.oq scFeel λcdv A outer s H vs Q E d h=>?_
 obtain⟨x,rs,v,W,i,p,j,l,rfl,R,g,y,at',q⟩:=h
 refine⟨_,(Ah (AL (AM Gz (Bc c d Φ D_lid_on.m D_lid_on.F.kp D_lid_on.b .nil Ao (Aa (pv 0) (Aa (pv 1) (Aa (pv 2) Ab)))) Aw (AE _)) (Am (AC Dc)) AK) (Ah (AD (i:=3) scFeel.nd (Bc b d Φ D_heap_in.m D_heap_in.F.kp D_heap_in.b .nil Ao (Aa (pv 0) (Aa (pv 1) (Aa (pv 2) Ab))))) (Am (AC (Bc a d Φ D_shape_told.m D_shape_told.F.kp D_shape_told.b .nil Ao (Aa (pv 0) (Aa (Jf (AM Fk (AX BI Φ T.len Bj (Aa (pv 3) Ab)) Ae (AE _)) (Av Bu (pv 3) (NP MD Ae) (λ_ _=>U)) Dc) Ab))))))),?_⟩
 refine⟨_,U,_,U,_,U,x,rs,v,W,i,p,l,U,R,g,y,at'.pl,at'.li,λB m=>⟨U,_,U,?_⟩⟩
 have q:∀H':Hp,Same H H'->Q (oV (JJ rs j l)) H':=q
 unfold JJ at q
 by_cases o:l = "open"
 ·rw[Ar o]at q;refine VB o ?_;refine⟨_,U,_,U,_,U,x,rs,v,W,i,p,j,U,R.same m,g,m.rd y,at'.pl,at'.he,λt r s2 D=>?_⟩;have n:=s2 _ _ D;have R2:=R.same (m.trans s2);refine⟨_,U,_,U,_,_,U,.inr ⟨_,SqT.of n,U⟩,_,_,U,U,_,U,?_⟩;cases hp0:j.getLast? with
  | none=>
   have G:j=[]:=O1.mp hp0;refine Bi (λz=>?_) (λ_=>?_)
   ·exfalso;have:=Bf z;rw[G]at this;simp at this
   refine⟨x,rs,none,FI rs none,U,R2,g,Qu (λ_ e=>nomatch e),?_⟩;rw[hp0]at q;exact q r (m.trans s2)
  | some t'=>
   refine Bi (λz=>?_) (λz=>?_)
   ·refine⟨_,U,_,U,t,_,_,_,U,U,SqT.of n,W9 (pK hp0),x,rs,some t',FI rs (some t'),U,R2,g,Qu (λu e=>by cases e;exact mI at' _ hp0),?_⟩;rw[hp0]at q;exact q r (m.trans s2)
   exfalso;refine z (AU ?_);rw[Ai];have:j≠[]:=λe=>by rw[e]at hp0;cases hp0
   have:=So.mpr this;lia
 rw[Ak o]at q
 exact VC o (q B m)
def cW {f1 f2:Addr} (F:Fun K "try_lid" "try_lid" M9 f fd)(L:Cl K C)(D_lid_on:Df K mg "lid_on" Gh ED f1 m)(d:Binds K n ["self", "place"] [])(b:Dv K C "lidded" f2)
  (a:FnOk P w K mg base CX0 2 f1 m ED (Hg C))(c:FnOk P w K mg base CX0 2 f2 n ["self", "place"] (MU C)):FnOk P w K mg base CX0 3 f fd Jh (Hh C λ_ p _ l=>Iv p l):=by
 refine F.oq Zl λcdv A outer s H vs Q E e h=>?_
 obtain⟨x,rs,v,W,i,p,M,l,rfl,R,g,u,at',q⟩:=h
 obtain⟨z,m,n,G,kvs,o,B,D,I⟩:=R.ex
 refine⟨_,(Am (AC (Jf (Ey (Je (pv 0) L.cl b c e d .nil Ao (Aa (pv 2) Ab))) (Bc a e Φ D_lid_on.m D_lid_on.F.kp D_lid_on.b .nil Ao (Aa (pv 0) (Aa (pv 1) (Aa (pv 2) Ab)))) Dc))),?_⟩
 refine⟨_,U,x,z,_,U,o,EX m n Δ Δ,_,U,x,rs,p,U,R,g,Br at'.pl,_,U,?_⟩
 have q:=q
 unfold Iv at q
 by_cases j:p.2.1=true
 ·rw[Ar j]at q
  rw[Ar j];exact⟨_,U,_,U,_,U,x,rs,v,W,i,p,l,U,R,g,u,at'.pl,at'.li,λr y=>q r y⟩
 rw[Ak j]at q
 rw[Ak j]
 exact q H (Same.refl _)
def gC {f1 f2:Addr} (F:Fun K "heft" "heft" Nr f fd)(T:Bl mg)(D_lid_on:Df K mg "lid_on" Gh ED f1 d1)(D_heap_in:Df K mg "heap_in" Hn EZ f2 d2)
  (b:FnOk P w K mg base CX0 2 f1 d1 ED (Hg C))(a:FnOk P w K mg base CX0 2 f2 d2 EZ (IG C)):FnOk P w K mg base CX0 3 f fd Jn (Hh C λ_ _ e l=>LI e l):=by
 refine F.oq ZC λcdv A outer s H vs Q E c h=>?_
 obtain⟨x,rs,v,W,i,p,e,l,rfl,R,g,m,at',q⟩:=h
 refine⟨_,(Ah (AL (AM Bt (Bc b c Φ D_lid_on.m D_lid_on.F.kp D_lid_on.b .nil Ao (Aa (pv 0) (Aa (pv 1) (Aa (pv 2) Ab)))) Aw (AE _)) (Am (AC Dc)) AK) (Am (AC (Jf (AM Bt (AX BI Φ T.len Bj (Aa (Bc a c Φ D_heap_in.m D_heap_in.F.kp D_heap_in.b .nil Ao (Aa (pv 0) (Aa (pv 1) (Aa (pv 2) Ab)))) Ab)) Ae (AE _)) Aw Aw)))),?_⟩
 refine⟨_,U,_,U,_,U,x,rs,v,W,i,p,l,U,R,g,m,at'.pl,at'.li,λo d=>⟨U,_,U,?_⟩⟩
 have q:=q
 unfold LI at q
 by_cases j:l = "open"
 ·rw[Ar j]at q;exact HU j (q o d)
 rw[Ak j]at q
 apply HV j
 refine⟨_,U,_,U,_,U,x,rs,v,W,i,p,e,U,R.same d,g,d.rd m,at'.pl,at'.he,λt n s2 r=>?_⟩
 refine⟨_,_,U,.inr ⟨_,SqT.of (s2 _ _ r),U⟩,U,_,U,?_⟩
 cases e with
 | nil=>exact BA (q n (d.trans s2))
 | cons y ys=>rw[Ak (Ik _ _)]at q;refine Bi (λz=>?_) (λ_=>q n (d.trans s2));have:=Bf z;simp at this;lia
def eY {f1 f2 f3 f4 f5:Addr} (F:Fun K "looked" "looked" Nk f fd)(D_read_look:Df K mg "read_look" IM Gv f1 d1)(D_shape_told:Df K mg "shape_told" KG Gu f2 d2)(D_feel:Df K mg "feel" Nu Jo f3 d3)(D_try_lid:Df K mg "try_lid" M9 Jh f4 d4)(D_heft:Df K mg "heft" Nr Jn f5 d5)
  (j:FnOk P w K mg base CX0 3 f1 d1 Gv (MO C))(d:FnOk P w K mg base CX0 2 f2 d2 Gu (MN C))(u:FnOk P w K mg base CX0 3 f3 d3 Jo (Hh C λrs _ y l=>JJ rs y l))(m:FnOk P w K mg base CX0 3 f4 d4 Jh (Hh C λ_ p _ l=>Iv p l))(r:FnOk P w K mg base CX0 3 f5 d5 Jn (Hh C λ_ _ y l=>LI y l)) :
  FnOk P w K mg base CX0 4 f fd Lc (PX C):=by
 refine F.oq scLooked λcdv A outer s H vs Q E o h=>?_
 obtain⟨x,rs,v,W,i,p,y,l,wd,a,b,rfl,R,g,rv,at',ln,q⟩:=h
 have a2:Room 2 _:=o.mono Ξ
 obtain⟨c,v0,hb,cl,xs,ys,rfl,ea,r0,eb,rb,ec,rc⟩:=Gs rv
 have a4:=Ob r0
 subst a4
 have B:=FQ g (EF (HN at'.pl))
 have T:¬p.1 = "hand" := λe=>B.fix (by rw[e];decide +kernel)
 have a3:=(Vc B).2
 have n:32∉cs a/\32∉cs b/\a.length<=16/\b.length<=16/\Fn rs a b=true:=by
  rcases ln with⟨rfl,rfl,rfl⟩ | ⟨hw,rfl,rfl⟩
  ·exact⟨Δ,Δ,Δ,Δ,by unfold Fn;rw[Ar rfl];decide +kernel⟩
  have k:=Pe hw;refine⟨k.1,B.noblank,k.2.1,a3,?_⟩;unfold Fn;rw[Ak T,AU hw,AU (HN at'.pl)];rfl
 refine⟨_,(Ah (AD (i:=3) scLooked.nd (Bc j o Φ D_read_look.m D_read_look.F.kp D_read_look.b .nil Ao (Aa (pv 0) (Aa (pv 1) Ab)))) (Ah (AL (AM Bt (Av Bb (pv 3) Ae (λ_ _=>U)) Aw (AE _)) (Am (AC (Bc d a2 Φ D_shape_told.m D_shape_told.F.kp D_shape_told.b .nil Ao (Aa (pv 0) (Aa (Av Bu (pv 2) Ae (λ_ _=>U)) Ab))))) AK) (Ah (AL (AM NY (Av Bu (pv 2) Ae (λ_ _=>U)) Dc (AE _)) (Am (AC Dc)) AK) (Ah (AL (AM Bt (Av Bb (pv 3) Ae (λ_ _=>U)) Aw (AE _)) (Am (AC (Bc u o Φ D_feel.m D_feel.F.kp D_feel.b .nil Ao (Aa (pv 0) (Aa (pv 2) (Aa (Av Bb (pv 3) Ae (λ_ _=>U)) Ab)))))) AK) (Ah (AL (AM Bt (Av Bb (pv 3) Ae (λ_ _=>U)) Aw (AE _)) (Am (AC (Bc m o Φ D_try_lid.m D_try_lid.F.kp D_try_lid.b .nil Ao (Aa (pv 0) (Aa (pv 2) (Aa (Av Bb (pv 3) Ae (λ_ _=>U)) Ab)))))) AK) (Am (AC (Bc r o Φ D_heft.m D_heft.F.kp D_heft.b .nil Ao (Aa (pv 0) (Aa (pv 2) (Aa (Av Bb (pv 3) Ae (λ_ _=>U)) Ab))))))))))),?_⟩
 refine⟨_,U,_,U,x,rs,a,b,U,R,n.1,n.2.1,n.2.2.1,n.2.2.2.1,n.2.2.2.2,λG H1 z I=>?_⟩
 have a0:atI [V.str a,V.str b] ((0:Nat):Int)=some (.str a):=AB U
 have X:atI [V.str a,V.str b] ((1:Nat):Int)=some (.str b):=AB U
 have w0:atI [oV W.hand,V.ref hb,V.ref cl] ((0:Nat):Int)=some (oV W.hand):=AB U
 have L:=z _ _ ea
 have R1:=R.same z
 have D:=z.rd rv
 refine⟨_,U,G,_,_,_,U,U,SqL.of I,X,U,_,U,?_⟩
 rcases ln with⟨rfl,rfl,rfl⟩ | ⟨hw,rfl,rfl⟩
 ·refine HU U ?_;refine⟨_,U,_,U,c,_,_,_,U,U,SqT.of L,w0,x,rs,W.hand,FI rs W.hand,U,R1,g,Qu at'.ha,?_⟩;rw[Wg]at q;exact q H1 z
 refine HV T ?_
 have S:=(Pe hw).2.2
 refine⟨_,U,c,_,_,_,U,U,SqT.of L,w0,U,_,U,?_⟩
 cases hh:W.hand with
 | some t=>rw[qJ rs p y l S hh]at q;exact BA (q H1 z)
 | none=>
  rw[qH rs p y l S hh]at q;refine BH ?_;refine⟨_,U,G,_,_,_,U,U,SqL.of I,a0,U,_,U,?_⟩;by_cases M:a = "feel"
  ·refine HU M ?_;rw[Ak (by rw[M];decide +kernel),Ar M]at q;exact⟨_,U,_,U,_,U,G,_,_,_,U,U,SqL.of I,X,x,rs,_,W,i,p,y,l,U,R1,g,D,at',λN s2=>q N (z.trans s2)⟩
  refine HV M ?_;refine⟨_,U,G,_,_,_,U,U,SqL.of I,a0,U,_,U,?_⟩;by_cases ht:a = "try"
  ·refine HU ht ?_;rw[Ar ht]at q;exact⟨_,U,_,U,_,U,G,_,_,_,U,U,SqL.of I,X,x,rs,_,W,i,p,y,l,U,R1,g,D,at',λN s2=>q N (z.trans s2)⟩
  refine HV ht ?_;rw[Ak ht,Ak M]at q;exact⟨_,U,_,U,_,U,G,_,_,_,U,U,SqL.of I,X,x,rs,_,W,i,p,y,l,U,R1,g,D,at',λN s2=>q N (z.trans s2)⟩
structure LL where
 line:Str
 wd:Str
 i:Nat
 p:Bo
 a:Str
 b:Str
structure Hd (rs:List Ro)(l:LL):Prop where
 ln:l.line=Txt.join blank [l.a,l.b]
 ok:XA l.wd l.p l.a l.b
 pi:(plc rs)[l.i]? = some l.p
def EJ (rs:List Ro)(l:LL)(W:Wl):Option Str:=GJ rs l.wd l.p W (W.heaps.getD l.i []) (W.lids.getD l.i Str.empty)
def sQ (r:Ce rs W)(h:(plc rs)[i]? = some p):AtW rs W i p (W.heaps.getD i []) (W.lids.getD i Str.empty):=by obtain⟨c,b,l,at'⟩:=AtW.of r.1 r.2 (Ay.mp h).1;have a:=at'.pl;rw[h]at a;cases a;rw[CA,CA,at'.he,at'.li];exact at'
theorem iG:∀o:Option Str,oV o=oS o
 | none=>rfl
 | some _=>rfl
inductive PY (C:Addr)(vs:List V)(H:Hp)(Q:VK)(E0_:XK):Prop
 | mk (x d:Addr) (rs:List Ro) (l:LL) (L:List Wl) (c0:vs=[.ref x,.ref d,.str l.line]) (c1:RoomAt C H x rs) (c2:Good rs) (c3:Rd H d (.dT (BP 0 L))) (c4:(∀W∈L,Ce rs W)) (c5:L.length<=200) (c6:Hd rs l) (c7:∀(t:Addr) (H':Hp),(∀c u,H c=some u->c≠d->H' c=some u)->Rd H' d (.dT (BP 0 L))->H t=none->H' t=some (.lst ((L.map (EJ rs l)).map oS))->Q (.ref t) H'):PY C vs H Q E0_
def eX (F:Fun K "look_table" "look_table" KM f fd)(a:Ca P w K mg base CX0 4 "looked" Nk Lc (PX C)):FnOk P w K mg base CX0 8 f fd Ld (PY C):=by
 refine F.oq Zs λcdv A outer s H vs Q E r h=>?_;obtain⟨x,d,rs,l,L,rfl,ro,g,T,I,few,lo,q⟩:=h;have hu:=Cz r;have M:Room 4 _:=r.mono Ξ;have a0:sizeLine=16777216:=AF;refine⟨_,(Am (AC (Dx (N:=["world", "room", "line"]) (sc:=Aq KM) (own:=["world"]) (fr:=["room", "line"]) (js:=[0,2]) B0 U (UW (pv 1)) (λ_ _ _ _=>AS (i:=0) (show List.Nodup (["world", "room", "line"]:List Str) by decide +kernel)) (λ_ _ _ _=>Ck) (λ_ _ _ _=>(AN a M Ao (Aa (pv 1) (Aa (pv 2) (Aa (pv 0) Ab)))))))),?_⟩;unfold Pm tLc;refine VL (n:=1) ?_ T λo H1 k1 G=>?_
 ·intro q h;exact⟨_,U,h⟩
 have R:=ro.keepT T k1;intro D0 j
 refine Co (n:=L.length) (λi ys m=>ys=((L.take i).map (EJ rs l)).map oS/\Same H1 m/\m D0=some (.lst ys)) ⟨U,Same.new j,Ag⟩
  (λi ys m z p=>by obtain⟨_,s2,_⟩:=p;exact⟨by rw[E2];exact z,s2 _ _ G⟩) (λys m p=>by obtain⟨_,s2,_⟩:=p;exact⟨by rw[E2];exact An _,s2 _ _ G⟩) ?_ ?_
 ·rintro i ys m y H3 z ⟨rfl,s2,D⟩ ⟨rfl,k,v,b,hk,rfl,rt⟩;refine Cn ?_;have X:L[i]? = some L[i]:=AJ z;have S:=I L[i] (CI z);have B:L.take (i+1)=L.take i++[L[i]]:=BL z;generalize L[i]=Z at X S B;rw[Lv X]at hk;cases hk;refine⟨_,U,_,U,_,U,x,rs,_,Z,l.i,l.p,_,_,l.wd,l.a,l.b,by rw[lo.ln];rfl,R.same s2,g,KY rt.rd,sQ S lo.pi,lo.ok,λH6 W=>?_⟩;refine⟨_,W _ _ D,by rw[Ai,Ai,Bh];lia,?_,(s2.trans W).put j,Ag⟩;rw[B,AW,AW,iG];rfl
 rintro ys m ⟨rfl,s2,D⟩;rw[Cd]at D;exact q D0 m (λc u e hc=>s2 _ _ (k1 c u e hc)) (.inr ⟨o,s2 _ _ G⟩) (Q5 k1 G j) D
def SX (H:Hp)(v:V)(q:LL×Int):Prop:=∃a,v=V.ref a/\H a=some (.tup [.str q.1.line,.int q.2])
structure O6 (rs:List Ro)(Ps:List (DL1×Int))(Ls:List (LL×Int)):Prop where
 ok:∀q∈Ls,Hd rs q.1
 st:∀q∈Ls,Ec (q.1.line,q.2)
 few:Ls.length<=40
 nd:((Ps.map λq=>q.1.line)++Ls.map λq=>q.1.line).Nodup
def Ra (rs:List Ro)(L:List Wl)(q:LL×Int):Loo:=⟨q.1.line,q.2,L.map (EJ rs q.1)⟩
def LxV (D1 d:Addr)(H:Hp)(v:V)(l:Loo):Prop:=∃a t,v=V.ref a/\a≠D1/\a≠d/\H a=some (.tup [.str l.name,.int l.price,.ref t])/\t≠D1/\t≠d/\H t=some (.lst (l.tab.map oS))
def LxV.keep (h:LxV D1 d H v l)(k:∀c u,H c=some u->c≠D1->c≠d->H' c=some u):LxV D1 d H' v l:=by obtain⟨a,t,e,f,b,m,g,i,j⟩:=h;exact⟨a,t,e,f,b,k _ _ m f b,g,i,k _ _ j g i⟩
def LxV.lo (h:LxV D1 d H v l):LoV H v l:=by obtain⟨a,t,e,g,f,c,i,j,b⟩:=h;exact⟨t,⟨a,e,c⟩,b⟩
structure Xk (K:W.Frag)(mg:Str->Option Value)(G NN:Addr)(n:Str):Prop where
 mN:mg n=some (.ref NN)
 oN:PySem.W.excIn K NN El "ValueError.__new__" = true
 sub:mroIn K NN G=true
abbrev Out (H:Hp)(E:XK)(NN:Addr):Prop:=∀(b:Addr) (H':Hp),Same H H'->H' b=none->E (.ref b) (some NN) H'
abbrev Sm (x:Str):Prop:=∀c∈cs x,c<1000
def Sm.rp (h:Sm x)(l:x.length<=300):Rp x:=by
 have b:=StrLaws.reprText_len x λc a=>by have:=h c a;lia
 unfold Rp;lia
def T8 (NN:Addr):Sp:=λvs H Q E=>vs=[.int 0]/\Out H E NN
inductive P7 (NN:Addr)(vs:List V)(H:Hp)(Q:VK)(E:XK):Prop
 | mk (u a b:V) (c0:vs=[u,.int 0,a,b]) (c1:Out H E NN):P7 NN vs H Q E
def eW (F:Fun K "check_many" "check_many" IU f fd)(a:Xk K mg G NN "NoChart")(M:Mc mg):FnOk P w K mg base (CXe P w) 1 f fd Gx (T8 NN):=by obtain⟨e,d⟩:=M.mw;refine F.oqE Ul ?_;rintro cdv A outer s H vs Q E g⟨rfl,q⟩;refine⟨_,(Am (AL (DV (Ja Eh Eh Ae (pv 0) (B7 (v:=.int 200) Φ d ⟨_,U⟩))) (Am (Gr a.oN Φ a.mN (Aa (U2 (UR (UT (pv 0) US))) Ab))) AK)),_,U,_,_,U,U,_,U,?_⟩;refine⟨_,U,(BA ?_)⟩;exact⟨Δ,_,U,_,U,Δ,Δ,Ξ,λb c=>q b H (Same.refl _) c⟩
def fZ (F:Fun K "__init__" "Chart.__init__" IW f fd)(c:Ca P w K mg base (CXe P w) 1 "check_many" IU Gx (T8 NN)):FnOk P w K mg base (CXe P w) 2 f fd Jr (P7 NN):=by refine F.oqE Um ?_;rintro cdv A outer s H vs Q E d⟨u,a,b,rfl,q⟩;exact⟨_,(Ah (BY (AN c d EC (Aa (pv 1) Ab))) Cu),_,U,U,q⟩
theorem Xc:∀(L A:List Wl),(BC L A).length<=L.length+A.length
 | _,[]=>An _
 | L,W::r=>by
  show(BC (if W∈L then L else L++[W]) r).length<=_;have h:=Xc (if W∈L then L else L++[W]) r
  have a:(if W∈L then L else L++[W]).length<=L.length+1:=by
   split
   ·lia
   rw[AG];exact An _
  rw[Cy];lia
inductive Qp (NN:Addr)(vs:List V)(H:Hp)(Q:VK)(E:XK):Prop
 | mk (d lw:Addr) (L Ws:List Wl) (us:List V) (c0:vs=[.ref d,.ref lw]) (c1:H d=some (.dT (BP 0 L))) (c2:H lw=some (.lst us)) (c3:RdVs H us (Ws.map dW)) (c4:(∀W∈Ws,Ok W)) (c5:L.length<=200) (c6:Ws.length<=300) (c7:((BC L Ws).length<=200->∀H':Hp,(∀c u,H c=some u->c≠d->H' c=some u)->H' d=some (.dT (BP 0 (BC L Ws)))->Q .non H')) (c8:(200<(BC L Ws).length->∀(b:Addr) (H':Hp),(∀c u,H c=some u->c≠d->H' c=some u)->H' b=none->E (.ref b) (some NN) H')):Qp NN vs H Q E
abbrev Mz (rs:List Ro)(Ws:List Wl)(Ds:List DL1):Prop:=∀L:List Wl,L.Nodup->(∀W∈L,Ce rs W)->(∀W∈Ws,W∈L)->(∀Z∈L,∀D∈Ds,∀W∈Cf D Z,W∈L)->200<L.length
def hV (F:Fun K "add_new" "add_new" NC f fd)(T:Bl mg)(XT:Xk K mg G NN "TooMany")(S:∃t,mg "MOST_WORLDS" = some (.int 200 t)):FnOk P w K mg base (CXe P w) 1 f fd Lq (Qp NN):=by
 refine F.oqE scAddNew λcdv A outer s H vs Q E hr h=>?_;obtain⟨d,N,L,Ws,us,rfl,M,hl,rd,ok,fL,fW,q,o⟩:=h;have hu:=Cz hr;obtain⟨t1,S⟩:=S;have a1:sizeLine=16777216:=AF;have R:us.length=Ws.length:=by rw[rd.length,Ai]
 refine⟨_,(Ah (Cg Kg U (BS (pv 1)) (AS (i:=2) scAddNew.nd) (Am (AL (Hr (NS hu (pv 2) (pv 0))) (Am (DW hu (pv 0) (pv 2) (AX Oi Φ T.len Bj (Aa (pv 0) Ab)) U)) AK))) (Am (AL (AM Fk (AX Oi Φ T.len Bj (Aa (pv 0) Ab)) (B7 (v:=.int 200) Φ S ⟨_,U⟩) (AE _)) (Am (Gr XT.oN Φ XT.mN (Aa Aw Ab))) AK))),?_⟩;refine⟨_,U,N,U,⟨_,SqL.of hl⟩,?_⟩
 refine DM (K:=K) (a:=N) (xs:=us) (λi C l=>∃v2:Option V,C = [some (.ref d),some (.ref N),v2]/\(∀c u,H c=some u->c≠d->l c=some u)/\l d=some (.dT (BP 0 (BC L (Ws.take i)))))
  ⟨none,U,λc u e _=>e,M⟩ (λi C l _ a0=>by obtain⟨_,_,z,_⟩:=a0;exact SqL.of (z _ _ hl (A8 hl M (by intro z;cases z)))) ?_ ?_
 ·rintro i v C l hv ⟨v2,rfl,k2,m⟩;have I:i<Ws.length:=by have:=(Ay.mp hv).1;lia
  obtain⟨dd,r,p⟩:=rd.get hv;rw[AQ,AJ I]at r;cases r;have B:Ws.take (i+1)=Ws.take i++[Ws[i]]:=BL I;have x:=ok Ws[i] (CI I);have X:(BC L (Ws.take (i+1))).length<=1000:=by have:=Xc L (Ws.take (i+1));rw[Bh]at this;lia
  generalize Ws[i]=W at p B x;have y:RdV l v (dW W):=p.same λc xs e=>k2 c _ e (A8 e M (by intro z;cases z));obtain⟨b,rfl,rt⟩:=UC y x;have g:BC L (Ws.take (i+1))=if W∈BC L (Ws.take i)then BC L (Ws.take i)else BC L (Ws.take i)++[W]:=by rw[B,Xd];rfl
  refine⟨_,U,_,U,d,_,U,DGet.t m rt,_,U,?_⟩;by_cases D:W∈BC L (Ws.take i)
  ·obtain⟨j,hj⟩:=EL D;rw[Ar D]at g;have hs:(Ax (BP 0 (BC L (Ws.take i))) (dW W)).isSome=true:=by rw[<- Gc,J1];exact⟨_,Br (Lv hj),AU U⟩
   rw[hs];refine BH ?_;exact⟨_,U,k2,by rw[g];exact m⟩
  rw[Ak D]at g;rw[g,AG]at X;have hn:=Ve (n:=0) D;rw[hn];refine BA ?_;refine⟨_,U,d,_,U,.inl m,_,U,_,U,d,_,U,DPut.t m rt (by rw[E2];lia),?_⟩;refine⟨_,U,λc u e hc=>by rw[Af hc];exact k2 c u e hc,?_⟩;rw[Ag,g,Ef _ hn,Vf,E2,Os]
 rintro C l ⟨v2,rfl,k2,m⟩;rw[R,Cd]at m;refine⟨_,U,d,_,U,.inl m,_,_,U,U,_,U,?_⟩;rw[E2];refine Bi (λz=>?_) (λz=>?_)
 ·have:=Bf z;exact⟨by show 1<=1000;decide,λb hb=>o Ψ b l k2 hb⟩
 have:¬(((BC L Ws).length:Nat):Int) > 200:=λh=>z (AU h);exact q Ψ l k2 m
def nm5:List Str:=["ta", "tb", "tc", "td", "te"]
def rs5:List Ro:=[.pl "a",.pl "b",.pl "c"]++nm5.map λn=>.th n "s"
def W5:Wl:=⟨none,[nm5,[],[]],["open", "open", "open"]⟩
def Ds5:List DL1:=[⟨"take a", "take",0,0,("a",false,none),("a",false,none)⟩,⟨"put a", "put",0,0,("a",false,none),("a",false,none)⟩,⟨"take b", "take",1,1,("b",false,none),("b",false,none)⟩,⟨"put b", "put",1,1,("b",false,none),("b",false,none)⟩,⟨"take c", "take",2,2,("c",false,none),("c",false,none)⟩,⟨"put c", "put",2,2,("c",false,none),("c",false,none)⟩]
def nv5 (h:(cs x).all (λc=>decide (97<=c) && decide (c<=122)) && decide (1<=x.length) && decide (x.length<=8) && decide (x∉fixedS)=true):Nv x:=by simp[BV,Kh,DB]at h;(obtain⟨⟨⟨a,d⟩,b⟩,e⟩:=h);exact⟨a,d,b,e⟩
def GG:Good rs5:=by
 refine⟨λr d=>?_,Δ,⟨"a",[("b",false,none),("c",false,none)],U⟩,Δ,Δ,λp a k b=>?_⟩
 ·rcases(BF.mp d)with h | h
  ·simp[Az,Bw,Bv]at h;rcases h with h | h | h <;> (rw[h];exact nv5 Δ)
  obtain⟨n,c,rfl⟩:=Ba.mp h;refine⟨?_,nv5 Δ⟩;simp[nm5,Az,Bw,Bv]at c;rcases c with h | h | h | h | h <;> (rw[h];exact nv5 Δ)
 have h:plc rs5=[(("a" : Str),false,none),("b",false,none),("c",false,none)]:=rfl;rw[h]at a;simp[Az,Bw,Bv]at a;rcases a with h | h | h <;> (rw[h]at b;cases b)
def qR:∀D∈Ds5,FD rs5 D:=by intro D hD;simp[Ds5,Az,Bw,Bv]at hD;rcases hD with h | h | h | h | h | h <;> (rw[h];refine⟨⟨⟨Δ,Δ,Δ⟩,Δ,U,U,λz=>absurd z Δ,Δ⟩,Δ⟩)
def Pl:List Nat:=[0,9,11,12,18,27,29,33,35,36,42,44,48,52,54,63,65,69,71,73,77,81,83,85,87,93,95,96,102,104,108,112,114,116,124,126,132,136,138,140,150,156,160,162,171,173,177,179,181,185,189,191,193,195,201,203,205,209,211,219,221,225,227,229,231,237,239,241,245,249,251,255,257,259,261,267,269,270,276,278,282,286,288,290,296,298,300,302,306,310,312,314,324,330,334,336,338,346,348,360,364,366,372,376,378,380,386,390,396,400,402,404,412,414,420,426,428,432,436,438,440,448,450,454,456,460,462,471,473,477,479,481,485,489,491,493,495,501,503,505,509,511,515,517,525,527,529,533,537,539,541,543,549,551,553,557,561,563,567,569,571,573,579,581,583,587,589,591,597,599,603,605,609,615,617,621,623,625,627,633,635,637,641,643,647,651,653,657,659,661,663,669,671,673,677,679,687,689,693,695]
def Om:List Nat->List Wl->List Wl
 | [],a=>a
 | k::r,a=>Om r (a++(Cf (Ds5.getD (k % 6) (Ds5.headD ⟨"", "",0,0,("",false,none),("",false,none)⟩)) (a.getD (k / 6) W5)).take 1)
theorem W1 {L:List Wl}(h0:W5∈L)(b:∀Z∈L,∀D∈Ds5,∀W∈Cf D Z,W∈L):∀(t:List Nat) (a:List Wl),(∀W∈a,W∈L)->∀W∈Om t a,W∈L
 | [],_,h=>h
 | k::r,a,h=>W1 h0 b r _ λW c=>by
  rcases(BF.mp c)with z | z
  ·exact h W z
  refine b (a.getD (k / 6) W5) ?_ _ ?_ W (Ih z)
  ·rw[CA];cases e:a[k / 6]? with
   | none=>exact h0
   | some Z=>exact h Z (Br e)
  rw[CA];cases e:Ds5[k % 6]? with
  | none=>exact A9
  | some D=>exact Br e
def WT (W:Wl):Nat:=(W.heaps.foldl (λn h=>h.foldl (λn x=>n*8+(x.cps.getD 1 0-96)) (n*8+7)) (match W.hand with
 | none=>0
 | some x=>x.cps.getD 1 0-96))
def W2:((Om Pl [W5]).map WT).Nodup/\(Om Pl [W5]).length=201:=by decide +kernel
theorem Ly:∀{M N:List Wl},M.Nodup->(∀W∈M,W∈N)->M.length<=N.length
 | [],_,_,_=>Bn _
 | W::r,N,nd,h=>by have b:=B6.mp nd;have d:=h W A9;have c:=Ly (M:=r) (N:=N.erase W) b.2 λa f=>(List.mem_erase_of_ne λe=>b.1 (by rw[<- e];exact f)).mpr (h a (AY _ f));rw[List.length_erase_of_mem d]at c;have:=List.length_pos_of_mem d;rw[Cy];lia
def sL:Mz rs5 [W5] Ds5:=λL nd _ d c=>by have f:=Ly (Su WT (λa b h e=>h (by rw[e])) W2.1) (W1 (d W5 A9) c Pl [W5] λW h=>by rw[AR.mp h];exact d W5 A9);rw[W2.2]at f;lia
inductive Qo (NN:Addr)(vs:List V)(H:Hp)(Q:VK)(E:XK):Prop
 | mk (x:Str) (c0:vs=[.str x]) (c1:(x.length<1\/30<x.length)) (c2:x.length<=100) (c3:Rp x) (c4:Out H E NN):Qo NN vs H Q E
inductive Qn (NN:Addr)(vs:List V)(H:Hp)(Q:VK)(E:XK):Prop
 | mk (p:Int) (c0:vs=[.int p]) (c1:(p<1\/1000000000<p)) (c2:p.natAbs.log2<1920) (c3:Out H E NN):Qn NN vs H Q E
def FnOk.or {k:Nat} (b:FnOk P w K mg base CX k f fd ps sp1)(e:FnOk P w K mg base CX k f fd ps sp2):FnOk P w K mg base CX k f fd ps (λvs H Q E=>sp1 vs H Q E\/sp2 vs H Q E):=
 ⟨λvs H Q E h=>h.elim (b.len vs H Q E) (e.len vs H Q E),λA outer s H args us vs Q E d g a c h=>h.elim (b.run A outer s H args us vs Q E d g a c) (e.run A outer s H args us vs Q E d g a c)⟩
def FnOk.up {k:Nat} (F:FnOk P w K mg base CX0 k f fd ps sp):FnOk P w K mg base CX k f fd ps sp:=
 ⟨F.len,λA outer s H args us vs Q E c d a b h=>F5 (F.run A outer s H args us vs Q E c d a b h) λr s' z=>by
  cases r with
  | ok u=>cases u <;> exact z
  | error e=>exact z.elim⟩
theorem WA (ps:List Str):∀i,i<=ps.length->(SK.dd (Bx (ps.map (Sum.inr:Str->Key))) i).length<=i/\((SK.dd (Bx (ps.map (Sum.inr:Str->Key))) i).length=i->SK.dd (Bx (ps.map (Sum.inr:Str->Key))) i=(ps.take i).map Sum.inr/\(ps.take i).Nodup)
 | 0,_=>⟨An _,λ_=>⟨U,JV⟩⟩
 | i+1,h=>by
  obtain⟨l,e⟩:=WA ps i Ψ;have f:i<ps.length:=h;have g:Bx (ps.map (Sum.inr:Str->Key)) i=Sum.inr ps[i]:=by simp[Bx,List.getD,f]
  have c:ps.take (i+1)=ps.take i++[ps[i]]:=BL f;by_cases a:(Sum.inr ps[i]:Key)∈SK.dd (Bx (ps.map (Sum.inr:Str->Key))) i
  ·have b:SK.dd (Bx (ps.map (Sum.inr:Str->Key))) (i+1)=SK.dd (Bx (ps.map (Sum.inr:Str->Key))) i:=by rw[SK.dd,g,Ar a]
   rw[b];exact⟨Ψ,λz=>by lia⟩
  have b:SK.dd (Bx (ps.map (Sum.inr:Str->Key))) (i+1)=SK.dd (Bx (ps.map (Sum.inr:Str->Key))) i++[Sum.inr ps[i]]:=by rw[SK.dd,g,Ak a]
  rw[b,AG];refine⟨by simp;lia,λz=>?_⟩;obtain⟨d,j⟩:=e (by simp at z;lia);rw[c,AW,d];rw[d]at a;exact⟨U,Q8 j λz=>a (CQ z)⟩
inductive Xv (s:Str×Int):Prop where
 | nm (h:s.1.length<1\/30<s.1.length) (l:s.1.length<=100) (r:Rp s.1)
 | pr (h1:1<=s.1.length) (h2:s.1.length<=30) (h:s.2<1\/1000000000<s.2) (l:s.2.natAbs.log2<1920)
inductive Ql (NN:Addr)(vs:List V)(H:Hp)(Q:VK)(E:XK):Prop
 | mk (a b:Addr) (ds ls:List V) (st:List (Str×Int)) (c0:vs=[.ref a,.ref b]) (c1:H a=some (.lst ds)) (c2:H b=some (.lst ls)) (c3:A2 (Mm H) (ds++ls) st) (c4:ds.length<=100) (c5:ls.length<=100) (c6:((40<ds.length\/40<ls.length)\/(ds.length<=40/\ls.length<=40/\(¬(st.map (·.1)).Nodup\/((st.map (·.1)).Nodup/\∃i s,st[i]? = some s/\Xv s/\∀(j:Nat) s',j<i->st[j]? = some s'->Ec s'))))) (c7:Out H E NN):Ql NN vs H Q E
def Y3 (NN:Addr):Sp:=λvs H Q E=>M7 vs H Q E\/Qo NN vs H Q E
def Y2 (NN:Addr):Sp:=λvs H Q E=>M5 vs H Q E\/Qn NN vs H Q E
def hO (F:Fun K "check_name" "check_name" IT f fd)(a:Xk K mg G NN "NoChart")(T:Bl mg)(M:Mc mg):FnOk P w K mg base (CXe P w) 1 f fd HM (Qo NN):=by
 obtain⟨l,e⟩:=M.mn;refine F.oqE Uk λcdv A outer s H vs Q E j h=>?_;obtain⟨x,rfl,m,n,rp,q⟩:=h;have i:sizeLine=16777216:=AF;refine⟨_,(Am (AL (DV (Ja Eh Eh Ae (AX BI Φ T.len Bj (Aa (pv 0) Ab)) (B7 (v:=.int 30) Φ e ⟨_,U⟩))) (Am (Gr a.oN Φ a.mN (Aa (QU (pv 0) Δ) Ab))) AK)),?_⟩;refine⟨_,U,_,_,U,⟨Ψ,U⟩,_,_,U,U,_,U,?_⟩;have fin:∀b,H b=none->E (.ref b) (some NN) H:=λb d=>q b H (Same.refl _) d;refine Bi (λc=>?_) (λc=>?_)
 ·have g:(1:Int)<=(x.length:Int):=Bf c;refine⟨_,_,U,U,_,U,?_⟩;rw[BR (show ¬(x.length:Int)<=30 by lia)];refine BA ?_;exact⟨_,U,x,U,rp,by show 1<=1000;decide,fin⟩
 refine⟨_,U,?_⟩;refine BA ?_;exact⟨_,U,x,U,rp,by show 1<=1000;decide,fin⟩
def hL (F:Fun K "check_price" "check_price" IS f fd)(c:Xk K mg G NN "NoChart")(M:Mc mg):FnOk P w K mg base (CXe P w) 1 f fd HL (Qn NN):=by
 obtain⟨n,g⟩:=M.mp;refine F.oqE Uj λcdv A outer s H vs Q E l h=>?_;obtain⟨m,rfl,j,a,q⟩:=h;refine⟨_,(Am (AL (DV (Ja Eh Eh Ae (pv 0) (B7 (v:=.int 1000000000) Φ g ⟨_,U⟩))) (Am (Gr c.oN Φ c.mN (Aa (U2 (UR (UT (pv 0) US))) Ab))) AK)),?_⟩;refine⟨_,U,_,_,U,U,_,U,?_⟩;have fin:∀b,H b=none->E (.ref b) (some NN) H:=λb e=>q b H (Same.refl _) e;refine Bi (λd=>?_) (λd=>?_)
 ·have i:1<=m:=Bf d;refine⟨_,_,U,U,_,U,?_⟩;rw[BR (show ¬m<=1000000000 by lia)];refine BA ?_;exact⟨Δ,_,U,_,U,a,Δ,by show 1<=1000;decide,fin⟩
 refine⟨_,U,?_⟩;refine BA ?_;exact⟨Δ,_,U,_,U,a,Δ,by show 1<=1000;decide,fin⟩
def hJ (F:Fun K "check_steps" "check_steps" Gk f fd)(R':Xk K mg G NN "NoChart")(T:Bl mg)(M:Mc mg)(d:Ca P w K mg base (CXe P w) 1 "check_name" IT HM (Y3 NN))(c:Ca P w K mg base (CXe P w) 1 "check_price" IS HL (Y2 NN)):FnOk P w K mg base (CXe P w) 2 f fd Gw (Ql NN):=by
 obtain⟨t1,m1⟩:=M.ms;refine F.oqE scCheckSteps λcdv A outer s H vs Q E a3 h=>?_;obtain⟨a,b,ds,X,st,rfl,ha,u,a1,ak,fl,bad,q⟩:=h;have al:sizeLine=16777216:=AF;refine⟨_,(Ah (AL (PW.pt (Ex (AM Fk (AX BI Φ T.len Bj (Aa (pv 0) Ab)) (B7 (v:=.int 40) Φ m1 ⟨_,U⟩) (AE _)) (Fg (AM Fk (AX BI Φ T.len Bj (Aa (pv 1) Ab)) (B7 (v:=.int 40) Φ m1 ⟨_,U⟩) (AE _))))) (Am (Gr R'.oN Φ R'.mN (Aa Aw Ab))) AK) (Ah (AD (i:=2) scCheckSteps.nd (As CU (BK DQ Φ T.list Dh (Aa (pv 0) Ab)) (BK DQ Φ T.list Dh (Aa (pv 1) Ab)))) (Ah (Ez (i:=3) (N:=["step"]) (sc:=Aq Gk) (own:=["step"]) (fr:=[]) (js:=[]) scCheckSteps.nd U U B0 U (BS (pv 2)) (λ_ _ _ _=>AS (i:=0) (show List.Nodup (["step"]:List Str) by decide +kernel)) (λ_ _ _ _=>Ck) (λ_ _ _ _=>(Av (E3 K U) (pv 0) Ae (λ_ _=>U)))) (Ah (AL (AM GB (AX Oh Φ T.len Bj (Aa (BK (Og U) Φ T.set LS (Aa (pv 3) Ab)) Ab)) (AX BI Φ T.len Bj (Aa (pv 3) Ab)) (AE _)) (Am (Gr R'.oN Φ R'.mN (Aa Aw Ab))) AK) (Am (Cg Kg U (BS (pv 2)) (AS (i:=4) scCheckSteps.nd) (Ah (BY (AN d a3 EC (Aa (Av Bu (pv 4) Ae (λ_ _=>U)) Ab))) (Am (BY (AN c a3 EC (Aa (Av Bu (pv 4) Ae (λ_ _=>U)) Ab))))))))))),?_⟩;have L:∀D σ,TQ (TV (tC (V.str (Str.ofString "there are too many deeds or looks"))) MH) E NN D σ H:=λD σ=>⟨by show 1<=1000;decide,λb u=>q b H (Same.refl _) u⟩;refine⟨_,U,_,_,U,.inl ⟨_,SqL.of ha,U⟩,_,_,U,U,_,U,?_⟩;refine Bi (λz=>BA (L _ _)) (λz1=>?_);refine⟨_,U,_,_,U,.inl ⟨_,SqL.of u,U⟩,_,_,U,U,_,U,?_⟩;refine Bi (λz=>L _ _) (λz2=>?_)
 have ag:ds.length<=40:=by
  rcases FB 40 ds.length with h | h
  ·exact absurd (AU (show(40:Int)<(ds.length:Int) by lia)) z1
  exact h
 have ah:X.length<=40:=by
  rcases FB 40 X.length with h | h
  ·exact absurd (AU (show(40:Int)<(X.length:Int) by lia)) z2
  exact h
 obtain⟨_,_,bad⟩:=bad.resolve_left λz=>by lia
 refine⟨_,U,a,_,U,.inl (SqL.of ha),λl1 ad=>?_⟩;obtain⟨H1,g0,s1,e1⟩:=Dg (H:=H) (o:=.lst ds) ad;rw[g0];refine⟨_,U,b,_,U,.inl (SqL.of (s1 _ _ u)),λl2 ac=>?_⟩;obtain⟨H2,g0,s2,e2⟩:=Dg (H:=H1) (o:=.lst X) ac;rw[g0];refine⟨l1,l2,_,_,U,U,s2 _ _ e1,e2,Ψ,λl3 a6=>?_⟩;obtain⟨H3,g0,s3,e3⟩:=Dg (H:=H2) (o:=.lst (ds++X)) a6;rw[g0];have B:=(s1.trans s2).trans s3;have j:=a1.mono λv s _ ⟨a,r,e,h⟩=>(⟨a,r,e,B _ _ h⟩:Mm H3 v s);have I:=a1.len;have aa:(ds++X).length<=80:=by rw[AG];lia
 generalize ds++X=xs at e3 j I aa;refine⟨_,U,l3,U,⟨_,SqL.of e3⟩,λD hD=>?_⟩
 refine Co (n:=xs.length) (λi ys R=>ys=((st.take i).map (·.1)).map V.str/\Same H3 R/\R D=some (.lst ys)) ⟨U,Same.new hD,Ag⟩
  (λi ys R hi p=>by obtain⟨_,s4,_⟩:=p;exact⟨_,xs[i],SqL.of (s4 _ _ e3),by simp[hi]⟩) (λys R p=>by obtain⟨_,s4,_⟩:=p;exact⟨_,SqL.of (s4 _ _ e3),Θ⟩) ?_ ?_
 ·rintro i ys R y H5 hi ⟨rfl,s4,e4⟩ ⟨rfl,hy⟩;refine Cn ?_;obtain⟨g,C,a0,a',r',rfl,et⟩:=j.at (hy _ (SqL.of (s4 _ _ e3)));have Be:atI (V.str g.1::V.int g.2::r') ((0:Nat):Int)=some (.str g.1):=AB U;refine⟨_,U,a',_,_,_,U,U,SqT.of (s4 _ _ et),Be,_,e4,by simp only[Ai,Bh];lia,?_,s4.put hD,Ag⟩;obtain⟨a9,e⟩:=Ay.mp C;rw[BL a9,AW,AW,e];rfl
 rintro ys R ⟨rfl,s4,e4⟩;rw[I,Cd]at e4;have ai:(st.map (·.1)).length=st.length:=Ai ..;have ek:(st.map (·.1)).map V.str=((st.map (·.1)).map (Sum.inr:Str->Key)).map kV:=by rw[BD,BD,BD];rfl
 have aj:((st.map (·.1)).map (Sum.inr:Str->Key)).length=st.length:=by rw[Ai,Ai]
 refine⟨_,U,D,(st.map (·.1)).map Sum.inr,U,SqL.of (by rw[<- ek];exact e4),Ψ,λW a5=>?_⟩;have s5:Same R (Y R W (Hj P w W (SK.dd (Bx ((st.map (·.1)).map (Sum.inr:Str->Key))) ((st.map (·.1)).map (Sum.inr:Str->Key)).length).length)):=Same.new a5;refine⟨W,_,U,Ag,_,U,_,_,U,.inl ⟨_,SqL.of (s5 _ _ e4),U⟩,_,_,U,U,_,U,?_⟩;have a2:((st.map (·.1)).map V.str).length=(st.map (·.1)).length:=Ai ..;have S:=s4.trans s5;have ab:=S _ _ e3;rcases bad with ae | ⟨nd,i0,s0,hs0,hbad,hgood⟩
 ·refine Bi (λ_=>?_) (λz=>?_)
  ·exact⟨by show 1<=1000;decide,λb u=>q b _ (B.trans S) u⟩
  exfalso;obtain⟨l,e⟩:=WA (st.map (·.1)) (st.map (·.1)).length (An _);have hx:((st.map (·.1)).map (Sum.inr:Str->Key)).length=(st.map (·.1)).length:=Ai ..;rw[hx,a2]at z;rcases FB (SK.dd (Bx ((st.map (·.1)).map (Sum.inr:Str->Key))) (st.map (·.1)).length).length (st.map (·.1)).length with h | h
  ·exact z (AU Ψ)
  obtain⟨_,e2⟩:=e Ψ;rw[Cd]at e2;exact ae e2
 have a8:=Qv nd;refine Bi (λx=>?_) (λ_=>?_)
 ·exfalso;have:=Bf x;rw[a2,a8]at this;lia
 refine⟨_,U,l3,U,⟨_,SqL.of ab⟩,DM (K:=K) (a:=l3) (xs:=xs) (λi σ H6=>i<=i0/\∃v4:Option V,σ = [some (.ref a),some (.ref b),some (.ref l3),some (.ref D),v4]/\Same H3 H6) ⟨Bn _,none,U,S⟩ (λi σ H6 _ p=>by obtain⟨_,_,_,s6⟩:=p;exact SqL.of (s6 _ _ e3)) ?_ ?_⟩
 ·rintro i y σ H6 hy ⟨a7,v4,rfl,s6⟩;obtain⟨g,C,a0,a',r',rfl,et⟩:=j.at hy;have Be:atI (V.str g.1::V.int g.2::r') ((0:Nat):Int)=some (.str g.1):=AB U;have a4:atI (V.str g.1::V.int g.2::r') ((1:Nat):Int)=some (.int g.2):=AB U;have m:=s6 _ _ et;rcases FB i i0 with x | am
  ·have o:=hgood i g x C;refine⟨_,U,a',_,_,_,U,U,SqT.of m,Be,.inl ⟨g.1,U,o.n1,o.n2,?_⟩⟩;refine⟨_,U,a',_,_,_,U,U,SqT.of m,a4,.inl ⟨g.2,U,o.p1,o.p2,?_⟩⟩;exact⟨x,_,U,s6⟩
  have af:i=i0:=by lia
  subst af;rw[C]at hs0;cases hs0;cases hbad with
  | nm h l r=>exact⟨_,U,a',_,_,_,U,U,SqT.of m,Be,.inr ⟨s0.1,U,h,l,r,λb H7 s7 u=>q b H7 ((B.trans s6).trans s7) u⟩⟩
  | pr h1 h2 h l=>refine⟨_,U,a',_,_,_,U,U,SqT.of m,Be,.inl ⟨s0.1,U,h1,h2,?_⟩⟩;exact⟨_,U,a',_,_,_,U,U,SqT.of m,a4,.inr ⟨s0.2,U,h,l,λb H7 s7 u=>q b H7 ((B.trans s6).trans s7) u⟩⟩
 rintro σ H6 ⟨a7,_⟩;have:=(Ay.mp hs0).1;lia
def Bd (Ws:List Wl)(Ds:List DL1):Prop:=∃S:List Wl,S.length<=200/\(∀W∈Ws,W∈S)/\∀Z∈S,∀D∈Ds,∀W∈Cf D Z,W∈S
def NA.inS {rs:List Ro}{Ws:List Wl}{Ds:List DL1}{n:Nat}{L S:List Wl}(c:NA rs Ws Ds n L)(g:∀W∈Ws,W∈S)(f:∀a∈S,∀D∈Ds,∀W∈Cf D a,W∈S):∀(k:Nat) W,L[k]? = some W->W∈S:=by
 intro k;induction k using Nat.strongRecOn with
 | _ k ih=>
  intro W b;by_cases l:(BC [] Ws).length<=k
  ·obtain⟨j,a,D,_,i,d,hD,h⟩:=c.rch k W b l;exact f a (ih j i a d) D hD W h
  obtain⟨t,e⟩:=c.pre;rw[e,Da Ψ]at b;rcases addN_mem.mp (Br b)with z | z
  ·cases z
  exact g W z
def NA.le {rs:List Ro}{Ws:List Wl}{Ds:List DL1}{n:Nat}{L:List Wl}(a:NA rs Ws Ds n L)(b:Bd Ws Ds):L.length<=200:=by obtain⟨S,e,c,f⟩:=b;refine Er (Ly a.nd λW g=>?_) e;obtain⟨i,d⟩:=EL g;exact a.inS c f i W d
def NI.le {rs:List Ro}{Ws:List Wl}{Ds:List DL1}{n m k:Nat}{L M:List Wl}{a:Wl}(e:NI rs Ds L a k M)(d:NA rs Ws Ds n L)(j:L[m]? = some a)(b:Bd Ws Ds):M.length<=200:=by
 obtain⟨S,h,f,c⟩:=b;refine Er (Ly e.nd λW l=>?_) h;rcases e.mem W l with z | ⟨D,hD,z⟩
 ·obtain⟨i,g⟩:=EL z;exact d.inS f c i W g
 exact c a (d.inS f c m a j) D hD W z
inductive PQ (C NN:Addr)(vs:List V)(H:Hp)(Q:VK)(E:XK):Prop
 | mk (x lw ll:Addr) (rs:List Ro) (Ws:List Wl) (Ds:List DL1) (us:List V) (c0:vs=[.ref x,.ref lw,.ref ll]) (c1:RoomAt C H x rs) (c2:Good rs) (c3:H lw=some (.lst us)) (c4:RdVs H us (Ws.map dW)) (c5:(∀W∈Ws,Ce rs W)) (c6:H ll=some (.lst (Ds.map λD=>V.str D.line))) (c7:(∀D∈Ds,FD rs D)) (c8:Ws.length<=300) (c9:((Bd Ws Ds/\∀(d:Addr) (L:List Wl) (H':Hp),Same H H'->H d=none->H' d=some (.dT (BP 0 L))->NA rs Ws Ds L.length L->Q (.ref d) H')\/(Mz rs Ws Ds/\Out H E NN))):PQ C NN vs H Q E
def eN (F:Fun K "number_all" "number_all" Nh f fd)(T:Bl mg)(l:Ca P w K mg base (CXe P w) 1 "add_new" NC Lq (Qp NN))(p:Ca P w K mg base CX0 7 "turns" KE Jg (MM C)):FnOk P w K mg base (CXe P w) 9 f fd K9 (PQ C NN):=by
 refine F.oqE scNumberAll λcdv A outer s H vs Q E X h=>?_;obtain⟨x,lw,ll,rs,Ws,Ds,us,rfl,ro,g,hl,rd,a5,a1,af,fW,fin⟩:=h
 have o:∀M:List Wl,200<M.length->(Bd Ws Ds->M.length<=200)->Out H E NN:=λM h1 h2=>by
  rcases fin with⟨bd,_⟩ | ⟨_,o⟩
  ·exact absurd (h2 bd) Ψ
  exact o
 have hu:=Cz X;have aa:Room 7 _:=X.mono Ξ;have a6:Room 1 _:=X.mono Ξ;have aq:sizeLine=16777216:=AF;refine⟨_,(Ah (AD (i:=3) scNumberAll.nd cA) (Ah (BY (AN l a6 EC (Aa (pv 3) (Aa (pv 1) Ab)))) (Ah (AD (i:=4) scNumberAll.nd Ae) (Ah (aY Kg (AM GB (pv 4) (AX Oi Φ T.len Bj (Aa (pv 3) Ab)) (AE _)) (Ah (AD (i:=5) scNumberAll.nd (Av Bb (BK (WV U) Φ T.list Dh (Aa (pv 3) Ab)) (pv 4) (λ_ _=>U))) (Ah (Cg Kg U (BS (pv 2)) (AS (i:=6) scNumberAll.nd) (Am (BY (AN l a6 EC (Aa (pv 3) (Aa (AN p aa Ao (Aa (pv 0) (Aa (pv 6) (Aa (pv 5) Ab)))) Ab)))))) (Am (AD (i:=4) scNumberAll.nd (As Bq (pv 4) Ae)))))) (Am (AC (pv 3))))))),?_⟩;intro d hd;have s1:Same H (Y H d (.dT [])):=Same.new hd;have e1:(Y H d (.dT [])) d=some (.dT (BP 0 [])):=Ag;generalize (Y H d (.dT []))=H1 at s1 e1 ⊢;have a9:=NA.start (Ds:=Ds) a5;have a0:∀{W:Wl},Ce rs W->Ok W:=λr=>r.1.ok g r.2;refine⟨_,U,_,U,d,lw,[],Ws,us,U,e1,s1 _ _ hl,s1.rds rd,λW R=>a0 (a5 W R),Bn _,fW,λai H2 k2 e2=>?_,λh0 b H2 k2 hb=>o _ h0 a9.le b H2 (λc u e=>k2 c u (s1 _ _ e) (Au e hd)) hb⟩;have s2:Same H H2:=λc u e=>k2 c u (s1 _ _ e) (Au e hd);refine⟨λm N H'=>∃(n:Nat) (L:List Wl) (v5 I:Option V),N = [some (.ref x),some (.ref lw),some (.ref ll),some (.ref d),some (.int (n:Int)),v5,I]/\Same H H'/\H' d=some (.dT (BP 0 L))/\NA rs Ws Ds n L/\n<=L.length/\L.length<=200/\m=200-n,⟨200,0,BC [] Ws,none,none,U,s2,e2,a9,Bn _,ai,U⟩,?_⟩;rintro m N H3 ⟨n,L,v5,I,rfl,s3,e3,y,hn,lb,rfl⟩;refine⟨_,U,_,U,d,_,U,.inl e3,_,_,U,U,_,U,?_⟩;rw[E2];refine Bi (λz=>?_) (λz=>?_)
 ·have a3:n<L.length:=by have:=Bf z;lia
  have hz:L[n]? = some L[n]:=AJ a3;have G:=y.rw' L[n] (CI a3);generalize L[n]=j at hz G;refine⟨λa7 H'=>∃(L':List Wl) (v5 I:Option V),a7=[some (.ref x),some (.ref lw),some (.ref ll),some (.ref d),some (.int ((n+1:Nat):Int)),v5,I]/\Same H H'/\H' d=some (.dT (BP 0 L'))/\NA rs Ws Ds (n+1) L'/\n+1<=L'.length/\L'.length<=200,?_,?_⟩
  ·rintro a7 H' ⟨L',v5,I,rfl,s',e',S,ac,ae⟩;exact⟨200-(n+1),Ψ,n+1,L',v5,I,U,s',e',S,ac,ae,U⟩
  refine⟨_,U,d,_,U,.inl e3,λl4 as aj ky=>?_⟩;have ak:=ky.len;rw[E2]at ak;have hb:as[n]? = some as[n]:=AJ Ψ;have rt:=ky.at' n as[n] _ _ hb (Lv hz);generalize as[n]=b at hb rt;obtain⟨H4,g0,s4,e4⟩:=Dg (H:=H3) (o:=.lst (as.map V.ref)) aj;rw[g0];have ah:atI (as.map V.ref) ((n:Nat):Int)=some (.ref b):=AB (by rw[AQ,hb];rfl);refine⟨_,U,l4,_,_,_,U,U,SqL.of e4,ah,?_⟩;have ad:RdV H4 (.ref b) (dW j):=s4.rd (KY rt.rd);refine⟨_,U,ll,U,⟨_,SqL.of ((s3.trans s4) _ _ a1)⟩,?_⟩
  refine DM (K:=K) (a:=ll) (xs:=Ds.map λD=>V.str D.line) (λi N H'=>∃(I:Option V) (M:List Wl),N = [some (.ref x),some (.ref lw),some (.ref ll),some (.ref d),some (.int (n:Int)),some (.ref b),I]/\Same H H'/\H' d=some (.dT (BP 0 M))/\NI rs Ds L j i M/\RdV H' (.ref b) (dW j)/\M.length<=200)
   ⟨_,L,U,s3.trans s4,s4 _ _ e3,NI.start j y,ad,lb⟩ (λi N H' _ am=>by obtain⟨_,_,_,s,_⟩:=am;exact SqL.of (s _ _ a1)) ?_ ?_
  ·rintro i v N H5 hv ⟨ap,M,rfl,s5,e5,ni,a4,lm⟩
   obtain⟨D,hD,rfl⟩:∃D,Ds[i]? = some D/\V.str D.line=v:=by
    rw[AQ]at hv;cases h:Ds[i]? with
    | none=>rw[h]at hv;cases hv
    | some D=>rw[h]at hv;cases hv;exact⟨D,U,U⟩
   have B:=af D (Br hD);have pt:=Jb g G B.pi;have pq:=Jb g G B.pq;have ab:=a0 G;have fP:=g.fewP;have a8:=NI.next g G ni hD B;refine⟨_,U,_,U,_,U,_,U,x,rs,_,j,D.line,D.w,D.i,D.p,_,_,D.j,D.pj,_,_,U,ro.same s5,g,a4,B.wd,B.len,pt,pq,B.tip,B.six,ab.few,by have:=G.2.2;lia,λlt al H6 s6 e6 r6=>?_⟩;have a2:=s6 _ _ e5;refine⟨d,lt,M,Cf D j,al,U,a2,e6,r6,λW R=>a0 (Pi g G B W R),lm,by have:=(Tw g G B).2;lia,λan H7 k7 e7=>?_,λh7 b H7 k7 hb=>o _ h7 (a8.le y hz) b H7 (λc u e=>k7 c u ((s5.trans s6) _ _ e) (Au e hd)) hb⟩;have ao:=s5.trans s6;exact⟨_,_,U,λc u e=>k7 c u (ao _ _ e) (Au e hd),e7,a8,(s6.rd a4).same λc xs e=>k7 c _ e (A8 e a2 (by intro z;cases z)),an⟩
  rintro N H5 ⟨ap,M,rfl,s5,e5,ni,_,lm⟩;rw[Ai]at ni;have S:=y.next hz ni;obtain⟨t,et⟩:=ni.pre;refine⟨_,U,_,_,U,U,M,_,_,U,s5,e5,S,by rw[et,AG];lia,lm⟩
 have ag:n=L.length:=by have:¬(n:Int)<(L.length:Int):=λh=>z (AU h);lia
 rw[ag]at y;rcases fin with⟨_,q⟩ | ⟨big,_⟩
 ·exact⟨_,U,q d L H3 s3 hd e3 y⟩
 exfalso;obtain⟨t,et⟩:=y.pre;have:=big L y.nd y.rw' (λW R=>by rw[et];exact Hc _ (addN_mem.mpr (.inr R))) (λj hZ D hD W R=>by obtain⟨i,hi⟩:=EL hZ;exact y.clo i j (Ay.mp hi).1 hi D hD W R);lia
structure Wx (W:Str):Prop where
 nb:32∉cs W
 sm:Sm W
 len:W.length<=28
def Wx.one (h:Wx W):Txt.split W blank=[W]:=Pu (ws:=[W]) Θ λw a=>by rw[AR.mp a];exact h.nb
def Wx.rp (h:Wx W):Rp W:=h.sm.rp (by have:=h.len;lia)
inductive Kw (NN:Addr)(vs:List V)(H:Hp)(Q:VK)(E:XK):Prop
 | mk (u:V) (W:Str) (c0:vs=[u,.str W]) (c1:Wx W) (c2:Out H E NN):Kw NN vs H Q E
def Y1 (C NN:Addr):Sp:=λvs H Q E=>MP C vs H Q E\/Kw NN vs H Q E
def Y0 (C NN:Addr):Sp:=λvs H Q E=>MO C vs H Q E\/Kw NN vs H Q E
def dX (F:Fun K "read_deed" "read_deed" Hk f fd)(T:Bl mg)(p:Dd P w K mg aP)(o:Xk K mg G NN "NoDeed"):FnOk P w K mg base (CXe P w) 2 f fd Hz (Kw NN):=by
 refine F.oqE scReadDeed λcdv A outer s H vs Q E y h=>?_;obtain⟨u,W,rfl,j,q⟩:=h;have D:sizeLine=16777216:=AF;have I:=j.len;refine⟨_,(Ah (AD (i:=2) scReadDeed.nd (CN Ia FZ JR Ju (pv 1) (Aa Aw Ab))) (Ah (AD (i:=3) scReadDeed.nd (DI Ew (pv 2) (DG Ae) DH)) (Ah (AL (AM Gz (U0 (B7 (v:=.ref aP) Φ p.pm U) (Av Bb (pv 2) Ae (λ_ _=>U)) ⟨Φ,Φ,Φ,Φ⟩) (AX BI Φ T.len Bj (Aa (pv 3) Ab)) (AE _)) (Am (Gr o.oN Φ o.mN (Aa (QU (pv 1) Δ) Ab))) AK) Cu))),?_⟩;refine⟨_,U,U,_,_,U,U,Φ,Ψ,λl m=>?_⟩;refine N8 [W] _ (by rw[show Txt.split W (Str.ofString " ")=[W] from j.one]) m λc B n=>?_;refine⟨_,U,_,U,l,_,U,SqL.of n,λd g=>?_⟩;have a:(Y c d (.lst (BB (([W]:List Str).map V.str) (some 1) none))) d=some (.lst []):=Ag;have s2:Same c (Y c d (.lst (BB (([W]:List Str).map V.str) (some 1) none))):=Same.new g;generalize (Y c d (.lst (BB (([W]:List Str).map V.str) (some 1) none)))=H2 at a s2 ⊢;have x:atI (([W]:List Str).map V.str) ((0:Nat):Int)=some (.str W):=AB U;refine⟨aP,_,U,p.pd,_,U,l,_,_,_,U,U,SqL.of (s2 _ _ n),x,(Sum.inr W:Key),U,_,U,_,_,U,.inl ⟨_,SqL.of a,U⟩,?_,_,U,?_⟩
 ·show M8 (CC W) _=true;rcases QO W with e | e | e <;> (rw[e];rfl)
 have C:¬CC W=V.int ((([]:List V).length:Nat):Int):=by rcases QO W with e | e | e <;> (rw[e];intro z;cases z)
 show if (!decide (CC W=V.int ((([]:List V).length:Nat):Int)))=true then _ else _
 rw[BR C];refine BA ?_;exact⟨_,U,W,U,j.rp,by show 1<=1000;decide,λb r=>q b H2 (B.trans s2) r⟩
def dN (F:Fun K "read_look" "read_look" IM f fd)(T:Bl mg)(d:Xk K mg G NN "NoLook"):FnOk P w K mg base (CXe P w) 3 f fd Gv (Kw NN):=by refine F.oqE scReadLook ?_;rintro cdv A outer s H vs Q E n⟨u,W,rfl,c,q⟩;have j:=AF;have o:=c.len;refine⟨_,(Ah (AD (i:=2) scReadLook.nd (CN Ia FZ JR Ju (pv 1) (Aa Aw Ab))) (Ah (AL (PW.pt (Ex (AM Gz (AX BI Φ T.len Bj (Aa (pv 2) Ab)) Ae (AE _)) (Fg (DV (Ey bZ))))) (Am (Gr d.oN Φ d.mN (Aa (QU (pv 1) Δ) Ab))) AK) Cu)),_,U,U,_,_,U,U,Φ,Ψ,λl a=>?_⟩;refine N8 [W] _ (by rw[show Txt.split W (Str.ofString " ")=[W] from c.one]) a λh e m=>⟨_,U,_,_,U,.inl ⟨_,SqL.of m,U⟩,U,_,U,?_⟩;exact BA (BA ⟨_,U,W,U,c.rp,by show 1<=1000;decide,λb g=>q b h e g⟩)
def GdD (rs:List Ro)(s:Str×Int):Prop:=∃D:DL1,D.line=s.1/\Mx rs D
def GdL (rs:List Ro)(s:Str×Int):Prop:=∃l:LL,l.line=s.1/\Hd rs l
structure S8 (g:Str×Int->Prop)(xs:List (Str×Int))(i:Nat)(x:Str×Int):Prop where
 at':xs[i]? = some x
 bad:Wx x.1
 ok:∀(j:Nat) y,j<i->xs[j]? = some y->g y
def SsB (Us Vs:List (Str×Int)):Prop:=(40<Us.length\/40<Vs.length)\/(Us.length<=40/\Vs.length<=40/\(¬((Us++Vs).map (·.1)).Nodup\/(((Us++Vs).map (·.1)).Nodup/\∃i s,(Us++Vs)[i]? = some s/\Xv s/\∀(j:Nat) s',j<i->(Us++Vs)[j]? = some s'->Ec s')))
inductive Tz (rs:List Ro)(Us Vs:List (Str×Int)):Nat->Prop where
 | d (i:Nat) (x:Str×Int) (h:S8 (GdD rs) Us i x):Tz rs Us Vs 0
 | l (h:∀s∈Us,GdD rs s) (i:Nat) (x:Str×Int) (k:S8 (GdL rs) Vs i x):Tz rs Us Vs 1
 | s (h:∀s∈Us,GdD rs s) (k:∀s∈Vs,GdL rs s) (b:SsB Us Vs):Tz rs Us Vs 2
structure St1 (g:Str×Int->Prop)(O:Prop)(xs:List (Str×Int))(N:Nat):Prop where
 ok:∀(j:Nat) y,j<N->xs[j]? = some y->g y
 en:N=xs.length\/(O/\∃x,xs[N]? = some x/\Wx x.1)
def St1.all (h:∀s∈xs,g s):St1 g O xs xs.length:=⟨λj y _ e=>h y (Br e),.inl U⟩
def St1.fb (h:S8 g xs i x)(o:O):St1 g O xs i:=⟨h.ok,.inr ⟨o,x,h.at',h.bad⟩⟩
def St1.end' (h:St1 g O xs N)(l:xs.length<=N):N=xs.length:=by
 rcases h.en with z | ⟨_,x,e,_⟩
 ·exact z
 have:=(Ay.mp e).1;lia
structure Tg (rs:List Ro)(Us Vs:List (Str×Int)):Prop where
 d:∀s∈Us,GdD rs s
 l:∀s∈Vs,GdL rs s
 fd:Us.length<=40
 fl:Vs.length<=40
 nd:((Us++Vs).map (·.1)).Nodup
 st:∀s∈Us++Vs,Ec s
def lQ (g:Good rs)(h:Hd rs l):32∉cs l.a/\32∉cs l.b/\l.a.length<=16/\l.b.length<=16/\Fn rs l.a l.b=true:=by
 rcases h.ok with⟨_,a,b⟩ | ⟨c,a,b⟩
 ·rw[a,b];refine⟨Δ,Δ,Δ,Δ,?_⟩;unfold Fn;rw[Ar rfl];decide +kernel
 have d:=HN h.pi;have nv:=FQ g (EF d);obtain⟨i,f,j⟩:=Pe c;rw[a,b];refine⟨i,λz=>(by have:=nv.low _ z;lia),f,by have:=nv.len;lia,?_⟩;unfold Fn;rw[Ak (λe=>nv.fix (by rw[e];decide +kernel)),AU c,AU d];rfl
def YZ (NN:Addr):Sp:=λvs H Q E=>M4 vs H Q E\/Ql NN vs H Q E
inductive Qe (C:Addr)(ad:Nat->Addr)(vs:List V)(H:Hp)(Q:VK)(E:XK):Prop
 | mk (x a b:Addr) (rs:List Ro) (Us Vs:List (Str×Int)) (us us2:List V) (c0:vs=[.ref x,.ref a,.ref b]) (c1:RoomAt C H x rs) (c2:Good rs) (c3:H a=some (.lst us)) (c4:A2 (By H) us Us) (c5:H b=some (.lst us2)) (c6:A2 (By H) us2 Vs) (c7:us.length<=100) (c8:us2.length<=100) (c9:((Tg rs Us Vs/\∀H':Hp,Same H H'->Q .non H')\/∃i,Tz rs Us Vs i/\Out H E (ad i))):Qe C ad vs H Q E
def gM {f C:Addr}{ad:Nat->Addr}{fd:FuncData}(F:Fun K "check_told" "check_told" Nw f fd)(m:Ca P w K mg base (CXe P w) 2 "read_deed" Hk Hz (Y1 C (ad 0)))(j:Ca P w K mg base (CXe P w) 3 "read_look" IM Gv (Y0 C (ad 1)))
  (c:Ca P w K mg base (CXe P w) 2 "check_steps" Gk Gw (YZ (ad 2))):FnOk P w K mg base (CXe P w) 4 f fd Ll (Qe C ad):=by
 refine F.oqE scCheckTold λcdv A outer s H vs Q E a7 h=>?_
 obtain⟨x,a,b,rs,Us,Vs,us,G,rfl,ro,g,ha,a0,hb,p,a5,a4,fin⟩:=h
 have a2:Room 2 _:=a7.mono Ξ
 have a6:=a0.len
 have R:=p.len
 refine⟨_,(Ah (Cg Kg U (BS (pv 1)) (AS (i:=3) scCheckTold.nd) (Am (BY (AN m a2 EC (Aa (pv 0) (Aa (Av Bu (pv 3) Ae (λ_ _=>U)) Ab)))))) (Ah (Cg Kg U (BS (pv 2)) (AS (i:=4) scCheckTold.nd) (Am (BY (AN j a7 EC (Aa (pv 0) (Aa (Av Bu (pv 4) Ae (λ_ _=>U)) Ab)))))) (Am (BY (AN c a2 EC (Aa (pv 1) (Aa (pv 2) Ab))))))),?_⟩
 obtain⟨N,st,fin⟩:∃N,St1 (GdD rs) (Out H E (ad 0)) Us N/\(N=Us.length->∃N2,St1 (GdL rs) (Out H E (ad 1)) Vs N2/\(N2=Vs.length->(Tg rs Us Vs/\∀H':Hp,Same H H'->Q .non H')\/(SsB Us Vs/\Out H E (ad 2)))):=by
  rcases fin with⟨M,q⟩ | ⟨i,tx,o⟩
  ·exact⟨_,.all M.d,λ_=>⟨_,.all M.l,λ_=>.inl ⟨M,q⟩⟩⟩
  cases tx with
  | d i x h=>exact⟨i,.fb h o,λz=>absurd (Ay.mp h.at').1 Ψ⟩
  | l h i x k=>exact⟨_,.all h,λ_=>⟨i,.fb k o,λz=>absurd (Ay.mp k.at').1 Ψ⟩⟩
  | s h k b=>exact⟨_,.all h,λ_=>⟨_,.all k,λ_=>.inr ⟨b,o⟩⟩⟩
 refine⟨_,U,a,U,⟨_,SqL.of ha⟩,DM (K:=K) (a:=a) (xs:=us) (λi I H2=>i<=N/\∃v3:Option V,I = [some (.ref x),some (.ref a),some (.ref b),v3,none]/\Same H H2) ⟨Bn _,none,U,λ_ _ e=>e⟩ (λi I H2 _ X=>by obtain⟨_,_,_,s2⟩:=X;exact SqL.of (s2 _ _ ha)) ?_ ?_⟩
 ·rintro i y I H2 hy ⟨hi,v3,rfl,s2⟩;obtain⟨B,W,ac,a',rfl,T⟩:=a0.at hy;have Be:atI [V.str B.1,V.int B.2] ((0:Nat):Int)=some (.str B.1):=AB U;refine⟨_,U,_,U,a',_,_,_,U,U,SqT.of (s2 _ _ T),Be,?_⟩;rcases FB i N with u | ae
  ·obtain⟨D,e,a8⟩:=st.ok i B u W;obtain⟨ps,hw,aa,ab⟩:=FR g a8;rw[e]at hw;exact .inl ⟨x,rs,B.1,D.w,ps,U,ro.same s2,hw,by rw[<- e];exact a8.len,aa,ab,λl L s3 _=>⟨u,_,U,s2.trans s3⟩⟩
  obtain rfl:i=N:=by lia
  have a9:=(Ay.mp W).1;obtain⟨o,x0,n,wx⟩:=st.en.resolve_left Ψ;rw[W]at n;cases n;exact .inr ⟨_,_,U,wx,λb' L s3 r=>o b' L (s2.trans s3) r⟩
 rintro I H2 ⟨hi,v3,rfl,s2⟩
 obtain⟨N2,S,fin⟩:=fin (st.end' Ψ)
 refine⟨_,U,b,U,⟨_,SqL.of (s2 _ _ hb)⟩,DM (K:=K) (a:=b) (xs:=G) (λi I L=>i<=N2/\∃v4:Option V,I = [some (.ref x),some (.ref a),some (.ref b),v3,v4]/\Same H L) ⟨Bn _,none,U,s2⟩ (λi I L _ X=>by obtain⟨_,_,_,s3⟩:=X;exact SqL.of (s3 _ _ hb)) ?_ ?_⟩
 ·rintro i y I L hy ⟨hi,v4,rfl,s3⟩;obtain⟨B,W,ac,a',rfl,T⟩:=p.at hy;have Be:atI [V.str B.1,V.int B.2] ((0:Nat):Int)=some (.str B.1):=AB U;refine⟨_,U,_,U,a',_,_,_,U,U,SqT.of (s3 _ _ T),Be,?_⟩;rcases FB i N2 with u | ae
  ·obtain⟨lk,e,a3⟩:=S.ok i B u W;obtain⟨k1,k2,k3,k4,k5⟩:=lQ g a3;exact .inl ⟨x,rs,lk.a,lk.b,by rw[<- e,a3.ln];rfl,ro.same s3,k1,k2,k3,k4,k5,λl H4 s4 _=>⟨u,_,U,s3.trans s4⟩⟩
  obtain rfl:i=N2:=by lia
  have a9:=(Ay.mp W).1;obtain⟨o,x0,n,wx⟩:=S.en.resolve_left Ψ;rw[W]at n;cases n;exact .inr ⟨_,_,U,wx,λb' H4 s4 r=>o b' H4 (s3.trans s4) r⟩
 rintro I L ⟨hi,v4,rfl,s3⟩
 have fin:=fin (S.end' Ψ)
 have a1:A2 (Mm L) (us++G) (Us++Vs):=A2.app (a0.mono λv s _ ⟨a',e,T⟩=>⟨a',[],e,s3 _ _ T⟩) (p.mono λv s _ ⟨a',e,T⟩=>⟨a',[],e,s3 _ _ T⟩)
 refine⟨_,U,_,U,?_⟩
 rcases fin with⟨M,q⟩ | ⟨sb,o⟩
 ·exact .inl ⟨a,b,us,G,_,U,s3 _ _ ha,s3 _ _ hb,a1,by rw[a6];exact M.fd,by rw[R];exact M.fl,M.nd,M.st,λH4 s4=>q H4 (s3.trans s4)⟩
 exact .inr ⟨a,b,us,G,_,U,s3 _ _ ha,s3 _ _ hb,a1,a5,a4,by rw[a6,R];exact sb,λb' H4 s4 r=>o b' H4 (s3.trans s4) r⟩
def Y4 (CH NN:Addr):Sp:=λvs H Q E=>P8 CH vs H Q E\/P7 NN vs H Q E
inductive Qj (C CH NN:Addr)(vs:List V)(H:Hp)(Q:VK)(E:XK):Prop
 | mk (x d a b:Addr) (rs:List Ro) (Ps:List (DL1×Int)) (Ls:List (LL×Int)) (L:List Wl) (us us2:List V) (as:List Str) (c0:vs=[.ref x,.ref d,.ref a,.ref b]) (c1:RoomAt C H x rs) (c2:Good rs) (c3:Rd H d (.dT (BP 0 L))) (c4:L.Nodup) (c5:(∀W∈L,Ce rs W)) (c6:L.length<=200) (c7:H a=some (.lst us)) (c8:A2 (Kj H) us Ps) (c9:Mo rs Ps) (c10:H b=some (.lst us2)) (c11:A2 (SX H) us2 Ls) (c12:O6 rs Ps Ls) (c13:(∀q∈Ls,∀W∈L,∀s,EJ rs q.1 W=some s->s∈as)) (c14:as.length<=4) (c15:as.Nodup) (c16:(∀q∈Ps,∀Z∈L,∀W∈Cf q.1 Z,W∈L)) (c17:((1<=L.length/\∀(y:Addr) (ds:List Dee) (H':Hp),(∀c u,H c=some u->c≠d->H' c=some u)->Rd H' d (.dT (BP 0 L))->XJ CH H' y L.length ds (Ls.map (Ra rs L))->ds.map (λe=>(e.name,e.price))=Ps.map (λq=>(q.1.line,q.2))->Q (.ref y) H')\/(L=[]/\∀(b':Addr) (H':Hp),(∀c u,H c=some u->c≠d->H' c=some u)->H' b'=none->E (.ref b') (some NN) H'))):Qj C CH NN vs H Q E
def gZ (F:Fun K "chart_of" "chart_of" IV f fd)(T:Bl mg)(MC:L2.Mk K CH fI)(mC:mg "Chart" = some (.ref CH))(bI:Binds K dI ["self", "many", "deeds", "looks"] [])(GI:FnOk P w K mg base (CXe P w) 3 fI dI Jr (Y4 CH NN))
  (p:Ca P w K mg base CX0 8 "deed_table" KR Lk (Qd C))(m:Ca P w K mg base CX0 8 "look_table" KM Ld (PY C)):FnOk P w K mg base (CXe P w) 9 f fd Ln (Qj C CH NN):=by
 refine F.oqE scChartOf λcdv A outer s H vs Q E a5 h=>?_
 obtain⟨x,d,a,b,rs,Ps,Ls,L,us,ai,as,rfl,ro,g,hd,nd,aj,l2,ha,ag,tok,hb,a8,a6,has,a3,ad,au,fin⟩:=h
 have an:=a8.len
 have b6:=a6.few
 have hu:=Cz a5
 have ah:Room 8 _:=a5.mono Ξ
 have aw:Room 4 _:=a5.mono Ξ
 have b7:Room 3 _:=a5.mono Ξ
 have b9:sizeLine=16777216:=AF
 have b3:=ag.len
 have b5:=tok.few
 have na:a≠d:=Lw hd ha (λz=>by cases z) (λo z=>by cases z)
 have nb:b≠d:=Lw hd hb (λz=>by cases z) (λo z=>by cases z)
 refine⟨_,(Ah (Ez (i:=4) (N:=["deed", "room", "numbers"]) (sc:=Aq IV) (own:=["deed"]) (fr:=["room", "numbers"]) (js:=[0,1]) scChartOf.nd U U B0 U (BS (pv 2)) (λ_ _ _ _=>AS (i:=0) (show List.Nodup (["deed", "room", "numbers"]:List Str) by decide +kernel)) (λ_ _ _ _=>Ck) (λ_ _ _ _=>(Bm (Aa (Av (E3 K U) (pv 0) Ae (λ_ _=>U)) (Aa (Av (E3 K U) (pv 0) Ae (λ_ _=>U)) (Aa (AN p ah Ao (Aa (pv 1) (Aa (pv 2) (Aa (Av (E3 K U) (pv 0) Ae (λ_ _=>U)) Ab)))) Ab)))))) (Ah (Ez (i:=5) (N:=["look", "room", "numbers"]) (sc:=Aq IV) (own:=["look"]) (fr:=["room", "numbers"]) (js:=[0,1]) scChartOf.nd U U B0 U (BS (pv 3)) (λ_ _ _ _=>AS (i:=0) (show List.Nodup (["look", "room", "numbers"]:List Str) by decide +kernel)) (λ_ _ _ _=>Ck) (λ_ _ _ _=>(Bm (Aa (Av (E3 K U) (pv 0) Ae (λ_ _=>U)) (Aa (Av (E3 K U) (pv 0) Ae (λ_ _=>U)) (Aa (AN m ah Ao (Aa (pv 1) (Aa (pv 2) (Aa (Av (E3 K U) (pv 0) Ae (λ_ _=>U)) Ab)))) Ab)))))) (Am (AC (Hw MC GI aw Φ mC bI .nil EC (Aa (AX Oi Φ T.len Bj (Aa (pv 1) Ab)) (Aa (pv 4) (Aa (pv 5) Ab)))))))),?_⟩
 refine⟨_,U,a,U,⟨_,SqL.of ha⟩,λD0 M=>?_⟩
 have aD:a≠D0:=Au ha M
 have dD:d≠D0:=by
  rcases hd with h | ⟨o,h⟩
  ·exact Au h M
  exact Au h M
 refine Co (n:=us.length) (λi ys H2=>∃ds:List Dee,A2 (DxV D0 d H2) ys ds/\ds.map (λe=>(e.name,e.price))=(Ps.take i).map (λq=>(q.1.line,q.2))/\(∀e∈ds,DeOk L.length e)/\(∀c u,H c=some u->c≠d->H2 c=some u)/\Rd H2 d (.dT (BP 0 L))/\H2 D0=some (.lst ys)) ⟨[],⟨U,λi v t hv=>by cases hv⟩,U,λe he=>(by cases he),λc u e _=>by rw[Af (Au e M)];exact e,I0 (Same.new M) hd,Ag⟩
  (λi ys H2 hi ⟨_,_,_,_,k2,_⟩=>⟨_,us[i],SqL.of (k2 _ _ ha na),AJ hi⟩) (λys H2 ab=>by obtain⟨_,_,_,_,k2,_⟩:=ab;exact⟨_,SqL.of (k2 _ _ ha na),An _⟩) ?_ ?_
 ·rintro i ys H2 y S hi ⟨ds,a2,hm,ac,k2,r2,e2⟩ ⟨rfl,hy⟩;refine Cn ?_;obtain⟨⟨Dl,r⟩,hq,a4,a',rfl,et⟩:=ag.at (hy _ (SqL.of (k2 _ _ ha na)));have Be:atI [V.str Dl.line,V.int r] ((0:Nat):Int)=some (.str Dl.line):=AB U;have aa:atI [V.str Dl.line,V.int r] ((1:Nat):Int)=some (.int r):=AB U;have D:=k2 _ _ et (Lw hd et (λz=>by cases z) (λo z=>by cases z));have a9:=ro.keepT hd k2;refine⟨_,U,a',_,_,_,U,U,SqT.of D,Be,_,U,a',_,_,_,U,U,SqT.of D,aa,_,U,_,U,_,U,a',_,_,_,U,U,SqT.of D,Be,?_⟩;refine⟨x,d,rs,Dl,L,U,a9,g,r2,nd,aj,l2,tok.ok _ a4,au _ a4,λl av ap H4 k4 r4 n4 e4 t4 d4=>?_⟩;refine⟨AA,λB G=>?_⟩;have s5:Same H4 (Y H4 B (.tup [.str Dl.line,.int r,.ref l])):=Same.new G;have e5:(Y H4 B (.tup [.str Dl.line,.int r,.ref l])) B=some (.tup [.str Dl.line,.int r,.ref l]):=Ag;have tD:B≠D0:=(Au (k4 _ _ e2 dD.symm) G).symm;have td:B≠d:=(Hq r4 G).symm;generalize (Y H4 B (.tup [.str Dl.line,.int r,.ref l]))=H5 at s5 e5 ⊢;have b0:=s5 _ _ (k4 _ _ e2 dD.symm);have ao:=a2.len;have ay:=BQ List.length hm;rw[Ai,Ai,Bh]at ay;have a1:i<Ps.length:=by lia
  have ae:Ps.take (i+1)=Ps.take i++[(Dl,r)]:=by rw[BL a1];rw[AJ a1]at hq;rw[BG hq]
  have k6:∀c u,S c=some u->c≠D0->c≠d->(Y H5 D0 (.lst (ys++[V.ref B]))) c=some u:=λc u e c1 c2=>by rw[Af c1];exact s5 _ _ (k4 c u e c2)
  have lD:l≠D0:=(Au e2 n4).symm;have ld:l≠d:=(Hq r2 n4).symm;refine⟨_,b0,Ψ,ds++[⟨Dl.line,r,av⟩],(a2.mono λv e _ h=>h.keep k6).app ⟨U,λj v e hv X=>?_⟩,by rw[ae,AW,AW,hm];rfl,λe X=>?_,λc u e I=>?_,?_,Ag⟩
  ·match j with
   | 0=>cases hv;cases X;refine⟨B,l,ap,U,tD,td,by rw[Af tD];exact e5,lD,ld,by rw[Af lD];exact s5 _ _ e4,t4.mono λv e _ ar=>?_⟩;obtain⟨z,hz,n,ez⟩:=ar;refine⟨z,hz,(Au e2 n).symm,(Hq r2 n).symm,?_⟩;rw[Af (Au e2 n).symm];exact s5 _ _ ez
   | j+1=>cases hv
  ·rcases BF.mp X with z | z
   ·exact ac e z
   rw[AR.mp z];exact⟨d4.len,d4.up,d4.inn,d4.few⟩
  ·rw[Af (Au e M)];exact s5 _ _ (k4 _ _ (k2 c u e I) I)
  rcases I0 s5 r4 with h | ⟨o,h⟩
  ·exact .inl (by rw[Af dD];exact h)
  exact .inr ⟨o,by rw[Af dD];exact h⟩
 rintro ys H2 ⟨ds,a2,hm,ac,k2,r2,e2⟩
 rw[b3,Cd]at hm
 refine⟨_,U,b,U,⟨_,SqL.of (k2 _ _ hb nb)⟩,λD1 a0=>?_⟩
 have bD:b≠D1:=Au (k2 _ _ hb nb) a0
 have a7:d≠D1:=Hq r2 a0
 have a9:=ro.keepT hd k2
 refine Co (n:=ai.length) (λi zs S=>A2 (LxV D1 d S) zs ((Ls.take i).map (Ra rs L))/\(∀c u,H2 c=some u->c≠d->S c=some u)/\Rd S d (.dT (BP 0 L))/\S D1=some (.lst zs)) ⟨⟨U,λi v t hv=>by cases hv⟩,λc u e _=>by rw[Af (Au e a0)];exact e,I0 (Same.new a0) r2,Ag⟩
  (λi zs S hi ⟨_,k3,_⟩=>⟨_,ai[i],SqL.of (k3 _ _ (k2 _ _ hb nb) nb),AJ hi⟩) (λzs S ab=>by obtain⟨_,k3,_⟩:=ab;exact⟨_,SqL.of (k3 _ _ (k2 _ _ hb nb) nb),An _⟩) ?_ ?_
 ·rintro i zs S y H4 hi ⟨af,k3,r3,e3⟩ ⟨rfl,hy⟩;refine Cn ?_;obtain⟨⟨lk,r⟩,hq,a4,a',rfl,et⟩:=a8.at (hy _ (SqL.of (k3 _ _ (k2 _ _ hb nb) nb)));have Be:atI [V.str lk.line,V.int r] ((0:Nat):Int)=some (.str lk.line):=AB U;have aa:atI [V.str lk.line,V.int r] ((1:Nat):Int)=some (.int r):=AB U;have nt:=Lw hd et (λz=>by cases z) (λo z=>by cases z);have D:=k3 _ _ (k2 _ _ et nt) nt;have b4:=a9.keepT r2 k3;refine⟨_,U,a',_,_,_,U,U,SqT.of D,Be,_,U,a',_,_,_,U,U,SqT.of D,aa,_,U,_,U,_,U,a',_,_,_,U,U,SqT.of D,Be,?_⟩;refine⟨x,d,rs,lk,L,U,b4,g,r3,aj,l2,a6.ok _ a4,λl H5 k5 r5 n5 e5=>?_⟩;refine⟨AA,λB G=>?_⟩;have s6:Same H5 (Y H5 B (.tup [.str lk.line,.int r,.ref l])):=Same.new G;have e6:(Y H5 B (.tup [.str lk.line,.int r,.ref l])) B=some (.tup [.str lk.line,.int r,.ref l]):=Ag;have tD:B≠D1:=(Au (k5 _ _ e3 a7.symm) G).symm;have td:B≠d:=(Hq r5 G).symm;generalize (Y H5 B (.tup [.str lk.line,.int r,.ref l]))=H6 at s6 e6 ⊢;have ao:=af.len;rw[Ai,Bh]at ao;have a1:i<Ls.length:=by lia
  have ae:Ls.take (i+1)=Ls.take i++[(lk,r)]:=by rw[BL a1];rw[AJ a1]at hq;rw[BG hq]
  have k7:∀c u,H4 c=some u->c≠D1->c≠d->(Y H6 D1 (.lst (zs++[V.ref B]))) c=some u:=λc u e c1 c2=>by rw[Af c1];exact s6 _ _ (k5 c u e c2)
  have lD:l≠D1:=(Au e3 n5).symm;have ld:l≠d:=(Hq r3 n5).symm;refine⟨_,s6 _ _ (k5 _ _ e3 a7.symm),Ψ,?_,λc u e I=>?_,?_,Ag⟩
  ·rw[ae,AW];refine(af.mono λv e _ h=>h.keep k7).app ⟨U,λj v e hv X=>?_⟩;match j with
   | 0=>cases hv;cases X;exact⟨B,l,U,tD,td,by rw[Af tD];exact e6,lD,ld,by rw[Af lD];exact s6 _ _ e5⟩
   | j+1=>cases hv
  ·rw[Af (Au e a0)];exact s6 _ _ (k5 _ _ (k3 c u e I) I)
  rcases I0 s6 r5 with h | ⟨o,h⟩
  ·exact .inl (by rw[Af a7];exact h)
  exact .inr ⟨o,by rw[Af a7];exact h⟩
 rintro zs S ⟨am,k3,r3,e3⟩
 rw[an,Cd]at am
 refine⟨_,U,d,_,U,r3,_,U,_,U,?_⟩
 rw[E2]
 intro y dy ny b2 b8
 have s4:Same S (Y (Y S dy (.own y)) y (.ins CH dy [])):=λc o e=>by rw[Af (Au e ny),Af (Au e b2)];exact e
 have b1:=BQ List.length hm
 rw[Ai,Ai]at b1
 have ax:ds.map Dee.name=Ps.map λq=>q.1.line:=by have:=BQ (List.map Prod.fst) hm;rw[BD,BD]at this;exact this
 have aq:=k3 _ _ e2 (dD.symm)
 rcases fin with⟨l1,q⟩ | ⟨l0,o⟩
 rotate_left
 ·subst l0;exact .inr ⟨_,_,_,U,λb' H5 s5 az=>o b' H5 (λc u e I=>s5 _ _ (s4 _ _ (k3 _ _ (k2 c u e I) I))) az⟩
 refine .inl ⟨y,dy,D0,D1,L.length,ys,zs,ds,Ls.map (Ra rs L),as,U,Ag,s4 _ _ aq,s4 _ _ e3,a2.mono λv e _ h=>(h.keep λc u e _ I=>s4 _ _ (k3 c u e I)).de,am.mono λv e _ h=>(h.keep λc u e _ _=>s4 _ _ e).lo,⟨l1,l2,Ψ,by rw[Ai];lia,?_,λe he=>?_,λe he=>?_,ac,λe he=>?_,λe he s' hs=>?_,a3,ad⟩,λH5 kp ca=>⟨U,?_⟩⟩
 ·rw[ax,BD];exact a6.nd
 ·have ak:(e.name,e.price)∈ds.map λe=>(e.name,e.price):=CQ he;rw[hm]at ak;obtain⟨q',R,e'⟩:=Ba.mp ak;rw[<- e'];exact tok.st q' R
 ·obtain⟨q',R,rfl⟩:=Ba.mp he;exact a6.st q' R
 ·obtain⟨q',R,rfl⟩:=Ba.mp he;show(L.map _).length=_;rw[Ai]
 ·obtain⟨q',R,rfl⟩:=Ba.mp he;obtain⟨W,hW,e'⟩:=Ba.mp hs;exact has q' R W hW s' e'
 refine q y ds H5 (λc u e I=>?_) ?_ ca hm
 ·have e':=k3 _ _ (k2 c u e I) I;exact kp c u (s4 _ _ e') (Au e' ny)
 have al:=Hq r3 ny
 rcases I0 s4 r3 with h | ⟨o,h⟩
 ·exact .inl (kp _ _ h al)
 exact .inr ⟨o,kp _ _ h al⟩
def A2.unD (h:A2 (By H) us (Ps.map λq=>(q.1.line,q.2))):A2 (Kj H) us Ps:=⟨by rw[h.len,Ai],λi v t b c=>by obtain⟨s,a,_,r⟩:=h.at b;rw[AQ,c]at a;cases a;exact r⟩
def A2.unL (h:A2 (By H) us (Ps.map λq=>(q.1.line,q.2))):A2 (SX H) us Ps:=⟨by rw[h.len,Ai],λi v t b c=>by obtain⟨s,a,_,r⟩:=h.at b;rw[AQ,c]at a;cases a;exact r⟩
def Tg.of (tok:Mo rs Ps)(a:O6 rs Ps Ls):Tg rs (Ps.map λq=>(q.1.line,q.2)) (Ls.map λq=>(q.1.line,q.2)):=by
 refine⟨λs c=>?_,λs c=>?_,by rw[Ai];exact tok.few,by rw[Ai];exact a.few,by rw[AW,BD,BD];exact a.nd,λs c=>?_⟩
 ·obtain⟨q,b,rfl⟩:=Ba.mp c;exact⟨q.1,U,(tok.ok q b).toMx⟩
 ·obtain⟨q,b,rfl⟩:=Ba.mp c;exact⟨q.1,U,a.ok q b⟩
 rcases(BF.mp c)with h | h
 ·obtain⟨q,b,rfl⟩:=Ba.mp h;exact tok.st q b
 obtain⟨q,b,rfl⟩:=Ba.mp h;exact a.st q b
abbrev Ko (H:Hp)(E:XK)(z NN:Addr):Prop:=∀(b:Addr) (H':Hp),(∀c u,H c=some u->c≠z->H' c=some u)->H' b=none->E (.ref b) (some NN) H'
inductive Mu (C CT:Addr)(ad:Nat->Addr)(H:Hp)(Q:VK)(E:XK)(z:Addr)(rs:List Ro)(Ws:List Wl)(Us Vs:List (Str×Int)):Prop where
 | bad (i:Nat) (t:Tz rs Us Vs i) (o:Ko H E z (ad i))
 | ok (Ps:List (DL1×Int)) (Ls:List (LL×Int)) (as:List Str) (eU:Us=Ps.map λq=>(q.1.line,q.2)) (eV:Vs=Ls.map λq=>(q.1.line,q.2)) (tok:Mo rs Ps) (tlk:O6 rs Ps Ls) (has:∀q∈Ls,∀W,Ce rs W->∀s,EJ rs q.1 W=some s->s∈as) (a4:as.length<=4) (ad':as.Nodup)
   (fin:(Mz rs Ws (Ps.map (·.1))/\Ko H E z (ad 3))\/(Bd Ws (Ps.map (·.1))/\((Ws≠[]/\∀(L:List Wl) (H':Hp),(∀c u,H c=some u->c≠z->H' c=some u)->Pd C CT H' z rs L->NA rs Ws (Ps.map (·.1)) L.length L->Q .non H')\/(Ws=[]/\Ko H E z (ad 2)))))
inductive IF (C CT:Addr)(ad:Nat->Addr)(vs:List V)(H:Hp)(Q:VK)(E:XK):Prop
 | mk (z dz x lw a b:Addr) (rs:List Ro) (Ws:List Wl) (Us Vs:List (Str×Int)) (us0 us us2:List V) (c0:vs=[.ref z,.ref x,.ref lw,.ref a,.ref b]) (c1:H z=some (.ins CT dz [])) (c2:RoomAt C H x rs) (c3:Good rs) (c4:H lw=some (.lst us0)) (c5:RdVs H us0 (Ws.map dW)) (c6:(∀W∈Ws,Ce rs W)) (c7:Ws.length<=300) (c8:H a=some (.lst us)) (c9:A2 (By H) us Us) (c10:H b=some (.lst us2)) (c11:A2 (By H) us2 Vs) (c12:us.length<=100) (c13:us2.length<=100) (c14:Mu C CT ad H Q E z rs Ws Us Vs):IF C CT ad vs H Q E
def NA.none (a:NA rs [] Ds n L):L=[]:=by
 cases L with
 | nil=>rfl
 | cons W r=>obtain⟨j,_,_,_,h,_⟩:=a.rch 0 W U (Bn _);exact absurd h (RY _)
def hR {f C CH r:Addr}{ad:Nat->Addr}{fd:FuncData}(F:Fun K "__init__" "Atlas.__init__" NB f fd)(T:Bl mg)(LT:My K r)(m:Ca P w K mg base (CXe P w) 4 "check_told" Nw Ll (Qe C ad))(l:Ca P w K mg base (CXe P w) 9 "number_all" Nh K9 (PQ C (ad 3)))
  (B:Ca P w K mg base (CXe P w) 9 "chart_of" IV Ln (Qj C CH (ad 2))):FnOk P w K mg base (CXe P w) 10 f fd Fj (IF C r ad):=by
 refine F.oqE ZK λcdv A outer s H vs Q E a3 h=>?_
 obtain⟨z,G,x,lw,a,b,rs,Ws,Us,Vs,ao,us,a9,rfl,hz,ro,g,ah,b1,aw,fW,ha,a6,hb,a5,ak,af,fin⟩:=h
 have al:Room 9 _:=a3.mono Ξ
 have au:Room 4 _:=a3.mono Ξ
 have b4:sizeLine=16777216:=AF
 refine⟨_,(Ah (BY (AN m au EC (Aa (pv 1) (Aa (pv 3) (Aa (pv 4) Ab))))) (Ah (EY (pv 0) (pv 1) U) (Ah (EY (pv 0) (AN l al EC (Aa (pv 1) (Aa (pv 2) (Aa (Dx (N:=["deed"]) (sc:=Aq NB) (own:=["deed"]) (fr:=[]) (js:=[]) B0 U (BS (pv 3)) (λ_ _ _ _=>AS (i:=0) (show List.Nodup (["deed"]:List Str) by decide +kernel)) (λ_ _ _ _=>Ck) (λ_ _ _ _=>(Av (E3 K U) (pv 0) Ae (λ_ _=>U)))) Ab)))) U) (Am (EY (pv 0) (AN B al EC (Aa (pv 1) (Aa (Fi (pv 0) U) (Aa (pv 3) (Aa (pv 4) Ab))))) U))))),?_⟩
 refine⟨_,U,_,U,_,U,x,a,b,rs,Us,Vs,us,a9,U,ro,g,ha,a6,hb,a5,ak,af,?_⟩
 cases fin with
 | bad i t o=>exact .inr ⟨i,t,λb' H' s' a1=>o b' H' (λc u e _=>s' _ _ e) a1⟩
 | ok Ps Ls as eU eV tok tlk has a4 ad' fin=>
 subst eU eV
 have a8:=a6.unD
 have ag:=a5.unL
 have ay:=a8.len
 have b2:=tok.few
 refine .inl ⟨Tg.of tok tlk,λH1 s1=>?_⟩
 refine⟨_,U,_,U,z,r,G,[],U,s1 _ _ hz,LT.cl,LT.n1,by show 0<1000;decide,?_⟩
 have p:∀c u,H c=some u->c≠z->(Y H1 z (.ins r G (L2.putF "told_room" (.ref x) []))) c=some u:=λc u e I=>by rw[Af I];exact s1 _ _ e
 have am:(Y H1 z (.ins r G (L2.putF "told_room" (.ref x) []))) z=some (.ins r G (g1 x)):=Ag
 generalize (Y H1 z (.ins r G (L2.putF "told_room" (.ref x) [])))=H2 at p am ⊢
 have ac:=ro.keepX hz pL p
 have az:a≠z:=A8 ha hz (by intro z;cases z)
 have bz:b≠z:=A8 hb hz (by intro z;cases z)
 have wz:lw≠z:=A8 ah hz (by intro z;cases z)
 have a2:=p _ _ ha az
 have ap:RdVs H2 ao (Ws.map dW):=b1.same λc xs e=>p c _ e (A8 e hz (by intro z;cases z))
 have ae:A2 (Kj H2) us Ps:=a8.mono λv s _ ⟨c,e,R⟩=>⟨c,e,p _ _ R (A8 R hz (by intro z;cases z))⟩
 refine⟨_,U,_,U,_,U,a,U,⟨_,SqL.of a2⟩,λD hD=>?_⟩
 refine Co (n:=us.length) (λi ys H3=>ys=((Ps.map (·.1)).take i).map (λD=>V.str D.line)/\Same H2 H3/\H3 D=some (.lst ys)) ⟨U,Same.new hD,Ag⟩
  (λi ys H3 hi ⟨_,s3,_⟩=>⟨_,us[i],SqL.of (s3 _ _ a2),AJ hi⟩) (λys H3 b0=>by obtain⟨_,s3,_⟩:=b0;exact⟨_,SqL.of (s3 _ _ a2),An _⟩) ?_ ?_
 ·rintro i ys H3 y H4 hi ⟨rfl,s3,e3⟩ ⟨rfl,hy⟩;refine Cn ?_;obtain⟨⟨Dl,pr⟩,hq,b3,a',rfl,R⟩:=ae.at (hy _ (SqL.of (s3 _ _ a2)));have Be:atI [V.str Dl.line,V.int pr] ((0:Nat):Int)=some (.str Dl.line):=AB U;have av:i<(Ps.map (·.1)).length:=by rw[Ai];lia
  refine⟨_,U,a',_,_,_,U,U,SqT.of (s3 _ _ R),Be,_,e3,by rw[Ai,Bh];lia,?_,s3.put hD,Ag⟩;have e:(Ps.map (·.1))[i]? = some Dl:=by rw[AQ,hq];rfl
  obtain⟨_,e⟩:=Ay.mp e;rw[BL av,AW,e];rfl
 rintro ys H3 ⟨rfl,s3,e3⟩
 rw[show us.length=(Ps.map (·.1)).length by rw[Ai];exact ay,Cd]at e3
 refine⟨x,lw,D,rs,Ws,Ps.map (·.1),ao,U,ac.same s3,g,s3 _ _ (p _ _ ah wz),s3.rds ap,aw,e3,(λD' aq=>by obtain⟨q',a0,rfl⟩:=Ba.mp aq;exact tok.ok q' a0),fW,?_⟩
 rcases fin with⟨big,o⟩ | ⟨bd,fin⟩
 ·exact .inr ⟨big,λb' H' s' a1=>o b' H' (λc u e I=>s' _ _ (s3 _ _ (p c u e I))) a1⟩
 refine .inl ⟨bd,λd L H4 s4 ar e4 na=>?_⟩
 have a7:=s3.trans s4
 have z4:=a7 _ _ am
 have M:d≠z:=A8 e4 z4 (by intro z;cases z)
 have hn:H d=none:=by
  cases e':H d with
  | none=>rfl
  | some u'=>exact absurd (s3 _ _ (p _ _ e' M)) (by rw[ar];intro z;cases z)
 refine⟨_,U,z,r,G,_,U,z4,LT.cl,LT.n2,by show 1<1000;decide,?_⟩
 have S:∀c u,H4 c=some u->c≠z->(Y H4 z (.ins r G (L2.putF "numbers" (.ref d) (g1 x)))) c=some u:=λc u e I=>by rw[Af I];exact e
 have ab:(Y H4 z (.ins r G (L2.putF "numbers" (.ref d) (g1 x)))) z=some (.ins r G (g2 x d)):=Ag
 generalize (Y H4 z (.ins r G (L2.putF "numbers" (.ref d) (g1 x))))=H5 at S ab ⊢
 have k5:∀c u,H c=some u->c≠z->H5 c=some u:=λc u e I=>S c u (a7 _ _ (p c u e I)) I
 have an:=(ac.same a7).keepX z4 (VX x) S
 have aj:A2 (Kj H5) us Ps:=a8.mono λv s _ ⟨c,e,R⟩=>⟨c,e,k5 _ _ R (A8 R hz (by intro z;cases z))⟩
 have aa:A2 (SX H5) a9 Ls:=ag.mono λv s _ ⟨c,e,R⟩=>⟨c,e,k5 _ _ R (A8 R hz (by intro z;cases z))⟩
 refine⟨_,U,_,U,z,r,G,_,_,U,ab,LT.cl,LT.n2,pN x d,_,U,_,U,?_⟩
 refine⟨x,d,a,b,rs,Ps,Ls,L,us,a9,as,U,an,g,.inl (S _ _ e4 M),na.nd,na.rw',na.le bd,k5 _ _ ha az,aj,tok,k5 _ _ hb bz,aa,tlk,(λq' a0 W hW s hs=>has q' a0 W (na.rw' W hW) s hs),a4,ad',(λq' a0 j hZ W hW=>by obtain⟨i,hi⟩:=EL hZ;exact na.clo i j (Ay.mp hi).1 hi q'.1 (CQ a0) W hW),?_⟩
 have cd:∀c u,H c=some u->c≠d:=λc u e h=>by rw[h,hn]at e;cases e
 rcases fin with⟨ne,q⟩ | ⟨e0,o⟩
 ·have l1:1<=L.length:=by obtain⟨t,R⟩:=na.pre;obtain⟨W,hW⟩:=Xg _ ne;have hm:W∈BC [] Ws:=addN_mem.mpr (.inr hW);have:=List.length_pos_of_mem hm;rw[R,AG];lia
  refine .inl ⟨l1,λy ds H6 k6 r6 ca hm=>?_⟩;have z6:=k6 _ _ ab M.symm;have ax:=an.keepT (.inl (S _ _ e4 M)) k6;refine⟨_,U,z,r,G,_,U,z6,LT.cl,LT.n3,by show 2<1000;decide,?_⟩;have X:∀c u,H6 c=some u->c≠z->(Y H6 z (.ins r G (L2.putF "made_chart" (.ref y) (g2 x d)))) c=some u:=λc u e I=>by rw[Af I];exact e
  have ai:(Y H6 z (.ins r G (L2.putF "made_chart" (.ref y) (g2 x d)))) z=some (.ins r G (g3 x d y)):=Ag;generalize (Y H6 z (.ins r G (L2.putF "made_chart" (.ref y) (g2 x d))))=H7 at X ai ⊢;refine q L H7 (λc u e I=>X c u (k6 c u (k5 c u e I) (cd c u e)) I) ⟨G,x,d,y,ai,ax.keepX z6 (pP x d) X,?_⟩ na;rcases r6 with h | ⟨o,h⟩
  ·exact .inl (X _ _ h M)
  exact .inr ⟨o,X _ _ h M⟩
 subst e0
 exact .inr ⟨na.none,λb' H6 k6 a1=>o b' H6 (λc u e I=>k6 c u (k5 c u e I) (cd c u e)) a1⟩
def AH (h:H l=none):Same H (Y H l o)/\(Y H l o) l=some o:=⟨Same.new h,Ag⟩
def rL:List Str:=["NoDeed", "NoLook", "NoChart", "TooMany"]
structure Kn (K:W.Frag)(mg:Str->Option Value)(G:Addr)(ad:Nat->Addr):Prop where
 mG:mg "GropeError" = some (.ref G)
 oG:PySem.W.excIn K G El "ValueError.__new__" = true
 m:∀(k:Nat) (x:Str),rL[k]? = some x->mg x=some (.ref (ad k))
 o:∀i,i<4->PySem.W.excIn K (ad i) El "ValueError.__new__" = true
 s:∀i,i<4->mroIn K (ad i) G=true
 ni:∀i,i<4->Ip K (ad i)
 kn:∀i,i<4->∀k,k<4->i≠k->PySem.W.kin_not K (ad i) (ad k)=true
def XH (K:W.Frag)(D C':Addr)(b:Bool):Prop:=(b=true/\D=C')\/(b=false/\Ip K D/\PySem.W.kin_not K D C'=true)
def Ol (h:X.K=K):Cs X (.builtin "isinstance") (λxs H Q=>∃(a D f:Addr) (b:Bool),xs=[.ref a,.ref f]/\H a=some (GH a D)/\XH K D f b/\Q (.bl b) H):=by
 subst h;rintro d s g H xs us Q I r⟨a,D,f,b,e,i,c,q⟩;refine sC d s g H xs us Q I r ⟨a,D,f,e,i,?_⟩;rcases c with⟨rfl,c⟩ | ⟨rfl,c⟩
 ·exact .inl ⟨c,q⟩
 exact .inr ⟨c.1,c.2,q⟩
def cF {X:Cx}{K:W.Frag}(m:X.K=K){o e:Expr}{es:List Expr}{l:TE}{t:TA}{name:Str}{c a:Pos}{T j:String}{r:V->List V->Hp->VK->Prop}(n:PlainAttrs T)(h:Slot T name j)(i:typeOf (.builtin j)=pure (.type "method_descriptor"))(p:F9 X j r)(s:PE X o l)(u:PA X (e::es) t)
  (f:attributeBase o name X.env (eval o X.env)=eval o X.env:=by rfl)
  (g:((backTo a (starEach (e::es) X.env)).all (λx=>!x.1) && (backToKw a (keywordEach [] X.env)).all (λx=>x.1.isSome) && decide ((e::es).length+([]:List Keyword).length+(if ([]:List Keyword).isEmpty then 0 else 1)<30))=true:=by rfl)
  (d:(c.endLine == a.line)=true:=by rfl)(q:starEach (e::es) X.env=(false,eval e X.env)::starEach es X.env:=by rfl)(b:(backTo a (starEach es X.env)).any (·.1)=false:=by rfl):PE X (.Call (.Attribute o name c) (e::es) [] a) (MJ K T r l t):=by
 subst m
 exact CN n h i p s u f g d q b
structure OkT (rs:List Ro)(Us Vs:List (Str×Int))(Ds:List DL1):Prop where
 ex:∃(Ps:List (DL1×Int)) (Ls:List (LL×Int)) (as:List Str),Us=Ps.map (λq=>(q.1.line,q.2))/\Vs=Ls.map (λq=>(q.1.line,q.2))/\Mo rs Ps/\O6 rs Ps Ls/\(∀q∈Ls,∀W,Ce rs W->∀s,EJ rs q.1 W=some s->s∈as)/\as.length<=4/\as.Nodup/\Ds=Ps.map (·.1)
inductive BadF (rs:List Ro)(Ws:List Wl)(Us Vs:List (Str×Int)):Nat->Prop where
 | t (i:Nat) (h:Tz rs Us Vs i):BadF rs Ws Us Vs i
 | z (Ds:List DL1) (h:OkT rs Us Vs Ds) (e:Ws=[]):BadF rs Ws Us Vs 2
 | b (Ds:List DL1) (h:OkT rs Us Vs Ds) (big:Mz rs Ws Ds):BadF rs Ws Us Vs 3
def BadF.lt (h:BadF rs Ws Us Vs i):i<4:=by
 cases h with
 | t i h=>cases h <;> decide
 | z=>decide
 | b=>decide
def Bd.nil :Bd [] Ds:=⟨[],Ξ,λW h=>h,λa h=>by cases h⟩
def OkT.inf {C d:Addr}{ad:Nat->Addr}{H:Hp}{Q:VK}{E:XK}{z:Addr}{rs:List Ro}{Ws:List Wl}{Us Vs:List (Str×Int)}{Ds:List DL1}(h:OkT rs Us Vs Ds)
  (fin:(Mz rs Ws Ds/\Ko H E z (ad 3))\/(Bd Ws Ds/\((Ws≠[]/\∀(L:List Wl) (H':Hp),(∀c u,H c=some u->c≠z->H' c=some u)->Pd C d H' z rs L->NA rs Ws Ds L.length L->Q .non H')\/(Ws=[]/\Ko H E z (ad 2))))):Mu C d ad H Q E z rs Ws Us Vs:=by
 obtain⟨j,i,g,l,e,tok,b,has,f,a,rfl⟩:=h.ex
 exact .ok j i g l e tok b has f a fin
def BadF.inf {C a:Addr}{ad:Nat->Addr}{H:Hp}{Q:VK}{E:XK}{z:Addr}{rs:List Ro}{Ws:List Wl}{Us Vs:List (Str×Int)}{i:Nat}(h:BadF rs Ws Us Vs i)(o:Ko H E z (ad i)):Mu C a ad H Q E z rs Ws Us Vs:=by
 cases h with
 | t i h=>exact .bad i h o
 | z Ds h e=>subst e;exact h.inf (.inr ⟨Bd.nil,.inr ⟨U,o⟩⟩)
 | b Ds h big=>exact h.inf (.inl ⟨big,o⟩)
structure TlS (C:Addr)(H:Hp)(x lw a b:Addr)(rs:List Ro)(Ws:List Wl)(Us Vs:List (Str×Int)):Prop where
 ex:∃us0 us us2:List V,RoomAt C H x rs/\Good rs/\H lw=some (.lst us0)/\RdVs H us0 (Ws.map dW)/\(∀W∈Ws,Ce rs W)/\Ws.length<=300/\H a=some (.lst us)/\A2 (By H) us Us/\H b=some (.lst us2)/\A2 (By H) us2 Vs/\us.length<=100/\us2.length<=100
def TlS.same (h:TlS C H x lw a b rs Ws Us Vs)(s:Same H H'):TlS C H' x lw a b rs Ws Us Vs:=by obtain⟨l,us,d,u,g,f,rd,m,o,w,q,p,n,f1,f2⟩:=h.ex;exact⟨l,us,d,u.same s,g,s _ _ f,s.rds rd,m,o,s _ _ w,q.mono λv t _ i=>by obtain⟨c,e,r⟩:=i;exact⟨c,e,s _ _ r⟩,s _ _ p,n.mono λv t _ j=>by obtain⟨c,e,r⟩:=j;exact⟨c,e,s _ _ r⟩,f1,f2⟩
def TlS.at {C d:Addr}{ad:Nat->Addr}{H:Hp}{Q:VK}{E:XK}{x i a b z c:Addr}{rs:List Ro}{Ws:List Wl}{Us n:List (Str×Int)}(h:TlS C H x i a b rs Ws Us n)(v:H z=none)(j:H c=none)
  (k:Mu C d ad (Y (Y H c (.own z)) z (.ins d c [])) Q E z rs Ws Us n):IF C d ad [.ref z,.ref x,.ref i,.ref a,.ref b] (Y (Y H c (.own z)) z (.ins d c [])) Q E:=by
 have s:Same H (Y (Y H c (.own z)) z (.ins d c [])):=λb o e=>by rw[Af (Au e v),Af (Au e j)];exact e
 obtain⟨p,us,f,u,g,l,rd,m,y,w,A,r,q,f1,f2⟩:=(h.same s).ex
 exact⟨z,c,x,i,a,b,rs,Ws,Us,n,p,us,f,U,Ag,u,g,l,rd,m,y,w,A,r,q,f1,f2,k⟩
def Ek (i:Nat):List Bool:=[decide (0=i),decide (1=i),decide (2=i),decide (3=i),true]
inductive KC (C:Addr)(vs:List V)(H:Hp)(Q:VK)(E0_:XK):Prop
 | mk (x lw a b:Addr) (rs:List Ro) (Ws:List Wl) (Us Vs:List (Str×Int)) (i:Nat) (c0:vs=[.ref x,.ref lw,.ref a,.ref b]) (c1:TlS C H x lw a b rs Ws Us Vs) (c2:BadF rs Ws Us Vs i) (c3:∀(l:Addr) (H':Hp),Same H H'->H' l=some (.lst ((Ek i).map V.bl))->Q (.ref l) H'):KC C vs H Q E0_
abbrev HG:List Str:=["_law_room_here", "_law_worlds", "_law_deeds", "_law_looks"]
abbrev jO:List Str:=Cj HG ["_law_told", "e"]
def scLCaught:AI jO HG (Aq IP):=AO
def hG {f C X G fT:Addr}{ad:Nat->Addr}{fd dT:FuncData}(F:Fun K "_law_caught" "_law_caught" IP f fd)(T:Bl mg)(d:Kn K mg G ad)(MT:L2.Mk K X fT)(mT:mg "Atlas" = some (.ref X))(bT:Binds K dT Fj [])(M:FnOk P w K mg base (CXe P w) 10 fT dT Fj (IF C X ad)):FnOk P w K mg base CX0 12 f fd HG (KC C):=by
 refine F.oq scLCaught λcdv A outer s H vs Q E l h=>?_;obtain⟨x,lw,a,b,rs,Ws,Us,Vs,i,rfl,ts,bf,q⟩:=h;have m:=bf.lt;have a1:sizeLine=16777216:=AF;refine⟨_,(Ah (AD (i:=4) scLCaught.nd (AZ Ab)) (Ah (aZ (G:=G) (nG := "ValueError.__new__") (j:=5) U U U d.oG Φ d.mG scLCaught.nd U U (λpn xe E' hx=>(Am (BY (Hw MT M l Φ mT bT .nil hx (Aa (pv 0) (Aa (pv 1) (Aa (pv 2) (Aa (pv 3) Ab)))))))) (λa=>(Ah (AD (i:=4) scLCaught.nd (AZ (Aa (AX (Ol (K:=K) U) Φ T.isi LU (Aa (pv 5) (Aa (B7 (v:=.ref (ad 0)) Φ (d.m 0 _ U) U) Ab))) (Aa (AX (Ol (K:=K) U) Φ T.isi LU (Aa (pv 5) (Aa (B7 (v:=.ref (ad 1)) Φ (d.m 1 _ U) U) Ab))) (Aa (AX (Ol (K:=K) U) Φ T.isi LU (Aa (pv 5) (Aa (B7 (v:=.ref (ad 2)) Φ (d.m 2 _ U) U) Ab))) (Aa (AX (Ol (K:=K) U) Φ T.isi LU (Aa (pv 5) (Aa (B7 (v:=.ref (ad 3)) Φ (d.m 3 _ U) U) Ab))) Ab)))))) (Am (BY (cF (K:=K) U Ea F1 GY FL (pv 4) (Aa (AX (rY (C:=ad i) (d.o i m) X7) Φ T.isi LU (Aa (pv 5) (Aa (cG (v:=.ty "ValueError") Φ T.ve sF U) Ab))) Ab))))))) (Am (AC (pv 4))))),?_⟩;refine⟨AA,λl0 N=>?_⟩;have L:Same H (Y H l0 (.lst [])):=Same.new N;generalize (Y H l0 (.lst []))=H0 at L ⊢;refine⟨_,U,_,U,_,U,_,U,?_⟩;intro z dz R r a0;refine(ts.same L).at R r (bf.inf λe H2 k2 he=>⟨e,ad i,_,U,U,d.o i m,d.s i m,λ_=>?_⟩);have p:Same H0 H2:=λc u e=>k2 c u (by rw[Af (Au e R),Af (Au e r)];exact e) (Au e R);obtain⟨H3,W,sa,y⟩:=Dg (H:=H2) (o:=GH e (ad i)) he;rw[W]
 have I:∀(k:Nat),k<4->XH K (ad i) (ad k) (decide (k=i)):=λk hk=>by
  by_cases g:k=i
  ·exact .inl ⟨AU g,by rw[g]⟩
  exact .inr ⟨BR g,d.ni i m,d.kn i m k hk (λz=>g z.symm)⟩
 refine⟨_,U,e,ad i,ad 0,decide (0=i),U,y,I 0 Ξ,_,U,e,ad i,ad 1,decide (1=i),U,y,I 1 Ξ,_,U,e,ad i,ad 2,decide (2=i),U,y,I 2 Ξ,_,U,e,ad i,ad 3,decide (3=i),U,y,I 3 Ξ,AA,λS n=>?_⟩;obtain⟨H4,W,B,D⟩:=Dg (H:=H3) (o:=.lst [V.bl (decide (0=i)),V.bl (decide (1=i)),V.bl (decide (2=i)),V.bl (decide (3=i))]) n;rw[W];have n0:H S=none:=none_of (((L.trans p).trans sa)) n;refine⟨_,U,.inl ⟨U,_,SqL.of D⟩,_,U,e,U,B _ _ y,S,_,_,U,U,D,by show 4<sizeLine;lia,?_⟩;refine⟨_,U,q S _ ((((L.trans p).trans sa).trans B).put n0) ?_⟩;exact Ag
def bP (es:List Expr):List Stmt:=match B9 Gi with
 | [r1,.For x1 (.List _ p2) x3 x4 x5,r3]=>[r1,.For x1 (.List es p2) x3 x4 x5,r3]
 | yy=>yy
def plE:List Expr:=match (B9 Gi).getD 1 (.Pass ⟨0,0,0,0⟩)with
 | .For _ (.List es _) _ _ _=>es
 | _=>[]
def bO:bP plE=B9 Gi:=by rfl
def bM:plE.map IE=nm5.map V.str:=by rfl
def bN:plE.all JF=true:=by decide +kernel
abbrev T3:=List Str×List Str×List Str
def K1 (n:Nat)(t:Str)(h:T3):T3:=if n % 3=0 then(h.1++[t],h.2.1,h.2.2)else if n % 3=1 then(h.1,h.2.1++[t],h.2.2)else(h.1,h.2.1,h.2.2++[t])
def pl3:List Str->Nat->T3->T3
 | [],_,h=>h
 | t::r,n,h=>pl3 r (n / 3) (K1 n t h)
def EA (n:Nat):Wl:=let h:=pl3 nm5 n ([],[],[]);⟨none,[h.1,h.2.1,h.2.2],["open", "open", "open"]⟩
structure St3 (H:Hp)(h0 h1 h2:Addr)(x:T3)(k:Nat):Prop where
 a:H h0=some (.lst (x.1.map V.str))
 b:H h1=some (.lst (x.2.1.map V.str))
 c:H h2=some (.lst (x.2.2.map V.str))
 l:x.1.length<=k/\x.2.1.length<=k/\x.2.2.length<=k
def St3.put {k:Nat}(s:St3 H h0 h1 h2 x k)(d:h0≠h1)(c:h0≠h2)(b:h1≠h2)(m:Nat):∃(a:Addr) (xs:List Str),atI [V.ref h0,V.ref h1,V.ref h2] ((m:Int) % 3)=some (.ref a)/\H a=some (.lst (xs.map V.str))/\xs.length<=k/\(a=h0\/a=h1\/a=h2)/\∀t,St3 (Y H a (.lst (xs.map V.str++[V.str t]))) h0 h1 h2 (K1 m t x) (k+1):=by
 have f:∀(xs:List Str) (t:Str),xs.map V.str++[V.str t]=(xs++[t]).map V.str:=λxs t=>by rw[AW];rfl
 have l:=s.l;rcases(by lia:m % 3=0\/m % 3=1\/m % 3=2)with e | e | e
 ·refine⟨h0,x.1,?_,s.a,l.1,.inl U,λt=>?_⟩
  ·rw[show((m:Int) % 3)=((0:Nat):Int) by lia];exact AB U
  unfold K1;rw[Ar e,f];exact⟨Ag,by rw[Af d.symm];exact s.b,by rw[Af c.symm];exact s.c,by rw[AG];exact L8 l.1,by show x.2.1.length<=_;lia,by show x.2.2.length<=_;lia⟩
 ·refine⟨h1,x.2.1,?_,s.b,l.2.1,.inr (.inl U),λt=>?_⟩
  ·rw[show((m:Int) % 3)=((1:Nat):Int) by lia];exact AB U
  unfold K1;rw[Ak Ψ,Ar e,f];exact⟨by rw[Af d];exact s.a,Ag,by rw[Af b.symm];exact s.c,by show x.1.length<=_;lia,by rw[AG];exact L8 l.2.1,by show x.2.2.length<=_;lia⟩
 refine⟨h2,x.2.2,?_,s.c,l.2.2,.inr (.inr U),λt=>?_⟩
 ·rw[show((m:Int) % 3)=((2:Nat):Int) by lia];exact AB U
 unfold K1;rw[Ak Ψ,Ak Ψ,f];exact⟨by rw[Af c];exact s.a,by rw[Af b];exact s.b,Ag,by show x.1.length<=_;lia,by show x.2.1.length<=_;lia,by rw[AG];exact L8 l.2.2⟩
theorem KW :∀xs:List Str,RdVs H (xs.map V.str) (xs.map PyData.str)
 | []=>.nil
 | x::r=>.cons (.str x) (KW r)
inductive MQ (vs:List V)(H:Hp)(Q:VK)(E0_:XK):Prop
 | mk (n:Nat) (c0:vs=[.int (n:Int)]) (c1:n<243) (c2:∀(v:V) (H':Hp),Same H H'->RdV H' v (dW (EA n))->Q v H'):MQ  vs H Q E0_
abbrev Jl:List Str:=["_law_number"]
abbrev jM:List Str:=Cj Jl ["_law_heaps", "_law_thing"]
def scLPlain:AI jM Jl (Aq Gi):=AO
def dZ (F:Fun K "_law_plain" "_law_plain" Gi f fd)(T:Bl mg):FnOk P w K mg base CX0 1 f fd Jl MQ:=by
 refine F.oq scLPlain λcdv A outer s H vs Q E hr h=>?_;obtain⟨n,rfl,hn,q⟩:=h;have af:sizeLine=16777216:=AF;have v1:=bM;have B:=bN;rw[<- bO];generalize plE=es at v1 B ⊢;refine⟨_,(Ah (AD (i:=1) scLPlain.nd (AZ (Aa (AZ Ab) (Aa (AZ Ab) (Aa (AZ Ab) Ab))))) (Ah (Cg CK U (BS (AZ (NT (nm5.map V.str) B v1))) (AS (i:=2) scLPlain.nd) (Ah (BY (CN Ea F1 GY FL (Av Bb (pv 1) (As Eg (pv 0) Ae) (λ_ _=>U)) (Aa (pv 2) Ab))) (Am (AD (i:=0) scLPlain.nd (As Q2 (pv 0) Ae))))) (Am (AC (Bm (Aa Dc (Aa (Bm (Aa (BK GM Φ T.tuple FT (Aa (Av Bb (pv 1) Ae (λ_ _=>U)) Ab)) (Aa (BK GM Φ T.tuple FT (Aa (Av Bb (pv 1) Ae (λ_ _=>U)) Ab)) (Aa (BK GM Φ T.tuple FT (Aa (Av Bb (pv 1) Ae (λ_ _=>U)) Ab)) Ab)))) (Aa (Bm (Aa Aw (Aa Aw (Aa Aw Ab)))) Ab)))))))),?_⟩;refine⟨AA,λh0 n0=>?_⟩;obtain⟨L,g⟩:=AH (o:=(.lst [])) n0;generalize Y H h0 _=H0 at L g ⊢;refine⟨AA,λh1' n1=>?_⟩;obtain⟨e,u⟩:=AH (o:=(.lst [])) n1;generalize Y H0 h1' _=H1 at e u ⊢;refine⟨AA,λh2 G=>?_⟩;obtain⟨s2,I⟩:=AH (o:=(.lst [])) G;generalize Y H1 h2 _=H2 at s2 I ⊢;refine⟨AA,λhp D=>?_⟩;obtain⟨s3,q3⟩:=AH (o:=(.lst [.ref h0,.ref h1',.ref h2])) D;generalize Y H2 hp _=H3 at s3 q3 ⊢;have a6:h0≠h1':=Au g n1;have S:h0≠h2:=Au (e _ _ g) G;have ab:h1'≠h2:=Au u G;have ac:h0≠hp:=Au (s2 _ _ (e _ _ g)) D;have a7:h1'≠hp:=Au (s2 _ _ u) D;have aa:h2≠hp:=Au I D;refine⟨AA,λlt y=>?_⟩;obtain⟨s4,q4⟩:=AH (o:=(.lst (nm5.map V.str))) y;generalize Y H3 lt _=H4 at s4 q4 ⊢;have x0:H h0=none:=n0;have x1:H h1'=none:=none_of L n1;have x2:H h2=none:=none_of (L.trans e) G;have ae:hp≠lt:=Au q3 y;have a3:h0≠lt:=Au (s3 _ _ (s2 _ _ (e _ _ g))) y;have dl1:h1'≠lt:=Au (s3 _ _ (s2 _ _ u)) y;have R:h2≠lt:=Au (s3 _ _ I) y;have N:=(((L.trans e).trans s2).trans s3).trans s4;have X:St3 H4 h0 h1' h2 ([],[],[]) 0:=⟨(((e.trans s2).trans s3).trans s4) _ _ g,((s2.trans s3).trans s4) _ _ u,(s3.trans s4) _ _ I,An _,An _,An _⟩;refine⟨lt,U,⟨_,SqL.of q4⟩,?_⟩;refine DM (K:=K) (a:=lt) (xs:=nm5.map V.str) (λi C b=>∃(m:Nat) (v2:Option V) (x:T3),C = [some (.int (m:Int)),some (.ref hp),v2]/\Same H b/\b lt=some (.lst (nm5.map V.str))/\b hp=some (.lst [.ref h0,.ref h1',.ref h2])/\St3 b h0 h1' h2 x i/\pl3 (nm5.drop i) m x=pl3 nm5 n ([],[],[])) ⟨n,none,_,U,N,q4,s4 _ _ q3,X,U⟩ (λi C b _ ad=>by obtain⟨_,_,_,_,_,z,_⟩:=ad;exact SqL.of z) ?_ ?_
 ·rintro i v C b l ⟨m,v2,x,rfl,s5,l5,j,st,hx⟩;have hi:i<5:=(Ay.mp l).1
  obtain⟨t,ht,rfl⟩:∃t,nm5[i]? = some t/\V.str t=v:=by
   rw[AQ]at l;cases h:nm5[i]? with
   | none=>rw[h]at l;cases l
   | some t=>rw[h]at l;cases l;exact⟨t,U,U⟩
  obtain⟨hx',xs,a8,ex,lx,wh,put⟩:=st.put a6 S ab m;have W:hp≠hx':=by rcases wh with h | h | h <;> (rw[h];first | exact ac.symm | exact a7.symm | exact aa.symm)
  have a9:lt≠hx':=by rcases wh with h | h | h <;> (rw[h];first | exact a3.symm | exact dl1.symm | exact R.symm)
  have a5:H hx'=none:=by rcases wh with h | h | h <;> (rw[h];assumption)
  have hd:nm5.drop i=t::nm5.drop (i+1):=by obtain⟨B,h2⟩:=Ay.mp ht;rw[List.drop_eq_getElem_cons B,h2]
  refine⟨_,U,_,U,_,_,U,U,Ξ,hp,_,_,_,U,U,SqL.of j,a8,.inl ⟨U,_,SqL.of ex⟩,_,U,hx',_,_,U,U,ex,by rw[Ai];lia,?_⟩;refine⟨_,U,_,_,U,U,⟨Ψ,Ξ⟩,?_⟩;refine⟨m / 3,_,_,U,s5.put a5,by rw[Af a9];exact l5,by rw[Af W];exact j,put t,?_⟩;rw[<- hx,hd];rfl
 rintro C b ⟨m,v2,x,rfl,s5,l5,j,st,hx⟩;have a4:x=pl3 nm5 n ([],[],[]):=hx;have a0:atI [V.ref h0,V.ref h1',V.ref h2] ((0:Nat):Int)=some (.ref h0):=AB U;have a1:atI [V.ref h0,V.ref h1',V.ref h2] ((1:Nat):Int)=some (.ref h1'):=AB U;have a2:atI [V.ref h0,V.ref h1',V.ref h2] ((2:Nat):Int)=some (.ref h2):=AB U;refine⟨_,U,hp,_,_,_,U,U,SqL.of j,a0,h0,_,U,.inl ⟨SqL.of st.a,λt0 m0=>?_⟩⟩;obtain⟨M,q6⟩:=AH (o:=(.tup (x.1.map V.str))) m0;generalize Y b t0 _=H6 at M q6 ⊢;refine⟨_,U,hp,_,_,_,U,U,SqL.of (M _ _ j),a1,h1',_,U,.inl ⟨SqL.of (M _ _ st.b),λt1 m1=>?_⟩⟩;obtain⟨s7,q7⟩:=AH (o:=(.tup (x.2.1.map V.str))) m1;generalize Y H6 t1 _=H7 at s7 q7 ⊢;have d:=M.trans s7;refine⟨_,U,hp,_,_,_,U,U,SqL.of (d _ _ j),a2,h2,_,U,.inl ⟨SqL.of (d _ _ st.c),λt2 m2=>?_⟩⟩;obtain⟨s8,q8⟩:=AH (o:=(.tup (x.2.2.map V.str))) m2;generalize Y H7 t2 _=H8 at s8 q8 ⊢;refine⟨AA,λt3 m3=>?_⟩;obtain⟨s9,q9⟩:=AH (o:=(.tup [.ref t0,.ref t1,.ref t2])) m3;generalize Y H8 t3 _=H9 at s9 q9 ⊢;refine⟨AA,λt4 m4=>?_⟩;obtain⟨sa,qa⟩:=AH (o:=(.tup [.str "open",.str "open",.str "open"])) m4;generalize Y H9 t4 _=Ha at sa qa ⊢;refine⟨AA,λt5 m5=>?_⟩;obtain⟨sb,qb⟩:=AH (o:=(.tup [.non,.ref t3,.ref t4])) m5;generalize Y Ha t5 _=Hb at sb qb ⊢;have r:=sa.trans sb;have p:=s9.trans r;have c:=s8.trans p;refine q _ Hb (((s5.trans d).trans c)) ?_;unfold EA;rw[<- a4];exact .tup qb (.cons .non (.cons (.tup (r _ _ q9) (.cons (.tup ((s7.trans c) _ _ q6) (KW _)) (.cons (.tup (c _ _ q7) (KW _)) (.cons (.tup (p _ _ q8) (KW _)) .nil)))) (.cons (.tup (sb _ _ qa) (.cons (.str _) (.cons (.str _) (.cons (.str _) .nil)))) .nil)))
def w8:List Str:=["take ", "put ", "toss ", "open ", "shut ", "lock ", "unlock ", "shake "]
def ab4:List Str:=["a", "b", "c", "d"]
def EK (k:Nat):Str:=ab4.getD k Str.empty
def MF (k j:Nat):Str:=Str.ofString "tip " ++ EK k++Str.ofString " " ++ EK ((k+j) % 4)
def lnK (k:Nat):List Str:=(w8.map λx=>x++EK k)++(List.range 3).map λj=>MF k (j+1)
def E7 (n:Nat):List Str:=(List.range n).flatMap lnK
def sW (n:Nat):E7 (n+1)=E7 n++lnK n:=by unfold E7;rw[G0,List.flatMap_append,List.flatMap_cons,List.flatMap_nil,Cc]
theorem Xf:∀i:Nat,i<4->∃c,atI (Str.ofString "abcd").cps.toList (i:Int)=some c/\(⟨#[c]⟩:Str)=EK i/\(EK i).length=1
 | 0,_=>⟨97,Φ,Φ,Δ⟩
 | 1,_=>⟨98,Φ,Φ,Δ⟩
 | 2,_=>⟨99,Φ,Φ,Δ⟩
 | 3,_=>⟨100,Φ,Φ,Δ⟩
 | n+4,h=>absurd h Ψ
def sX:∀n,n<=4->(E7 n).length<=44:=by
 intro n h;have:n=0\/n=1\/n=2\/n=3\/n=4:=by lia
 rcases this with e | e | e | e | e <;> (rw[e];decide +kernel)
def tF (es:List Expr):List Stmt:=match B9 Hm with
 | [r1,.For x1 x2 [.For y1 (.List _ p2) y3 y4 y5,z] x4 x5,r3]=>[r1,.For x1 x2 [.For y1 (.List es p2) y3 y4 y5,z] x4 x5,r3]
 | yy=>yy
def alE:List Expr:=match (B9 Hm).getD 1 (.Pass ⟨0,0,0,0⟩)with
 | .For _ _ [.For _ (.List es _) _ _ _,_] _ _=>es
 | _=>[]
def tE:tF alE=B9 Hm:=by rfl
def sY:alE.map IE=w8.map V.str:=by rfl
def sZ:alE.all JF=true:=by decide +kernel
def T9:Sp:=λvs H Q _=>vs=[]/\∀(l:Addr) (H':Hp),Same H H'->H' l=some (.lst ((E7 4).map V.str))->Q (.ref l) H'
abbrev Jm:List Str:=[]
abbrev jP:List Str:=Cj Jm ["_law_lines", "_law_k", "_law_word", "_law_j"]
def scLAllLines:AI jP Jm (Aq Hm):=AO
def hU (F:Fun K "_law_all_lines" "_law_all_lines" Hm f fd)(T:Bl mg):FnOk P w K mg base CX0 1 f fd Jm T9:=by
 refine F.oq scLAllLines λcdv A outer s H vs Q E hr h=>?_;obtain⟨rfl,q⟩:=h;have a2:sizeLine=16777216:=AF;have D:=sY;have B:=sZ;rw[<- tE];generalize alE=es at D B ⊢;refine⟨_,(Ah (AD (i:=0) scLAllLines.nd (AZ Ab)) (Ah (Cg CK U (EB Φ T.range (Aa Ae Ab)) (AS (i:=1) scLAllLines.nd) (Ah (Cg CK U (BS (AZ (NT (w8.map V.str) B D))) (AS (i:=2) scLAllLines.nd) (Am (BY (CN Ea F1 GY FL (pv 0) (Aa (As CD (pv 2) (Av JE Aw (pv 1) (λ_ _=>U))) Ab))))) (Am (Cg CK U (bW Φ T.range (Aa Ae (Aa Ae Ab))) (AS (i:=3) scLAllLines.nd) (Am (BY (CN Ea F1 GY FL (pv 0) (Aa (As CD (As CD (As CD Aw (Av JE Aw (pv 1) (λ_ _=>U))) Aw) (Av JE Aw (As Eg (As Bq (pv 1) (pv 3)) Ae) (λ_ _=>U))) Ab)))))))) (Am (AC (pv 0))))),?_⟩;refine⟨AA,λl0 W=>?_⟩;obtain⟨s0,q0⟩:=AH (o:=(.lst [])) W;generalize Y H l0 _=H0 at s0 q0 ⊢;refine⟨4,U,Ξ,Ξ,HX (n:=4) (λi c l=>∃D e d:Option V,c = [some (.ref l0),D,e,d]/\Same H l/\l l0=some (.lst ((E7 i).map V.str))) ⟨none,none,none,U,s0,q0⟩ ?_ ?_⟩
 ·rintro i c l hi ⟨S,X,R,rfl,s2,G⟩;refine⟨AA,λp N=>?_⟩;obtain⟨s3,L⟩:=AH (o:=(.lst (w8.map V.str))) N;generalize Y l p _=H3 at s3 L ⊢;obtain⟨c1,u,b,l1⟩:=Xf i hi;have la:=sX i Ψ;have M:(Str.ofString "abcd").length<=sizeLine:=by rw[a2];decide +kernel
  refine⟨p,U,⟨_,SqL.of L⟩,DM (K:=K) (a:=p) (xs:=w8.map V.str) (λj c m=>∃e d:Option V,c = [some (.ref l0),some (.int (0+(i:Int))),e,d]/\Same H m/\m p=some (.lst (w8.map V.str))/\m l0=some (.lst ((E7 i++(w8.take j).map λx=>x++EK i).map V.str))) ⟨_,_,U,s2.trans s3,L,by rw[GZ,Eb,Cc];exact s3 _ _ G⟩ (λj c m _ a1=>by obtain⟨_,_,_,_,z,_⟩:=a1;exact SqL.of z) ?_ ?_⟩
  ·rintro j v c m g ⟨e,d,rfl,s4,w4,y⟩;have hj:j<8:=(Ay.mp g).1
   obtain⟨t,ht,rfl⟩:∃t,w8[j]? = some t/\V.str t=v:=by
    rw[AQ]at g;cases h:w8[j]? with
    | none=>rw[h]at g;cases g
    | some t=>rw[h]at g;cases g;exact⟨t,U,U⟩
   have tl:t.length<=7:=by
    have h:∀z∈w8,z.length<=7:=by decide +kernel
    exact h t (Br ht)
   have dw:p≠l0:=λz=>by rw[z,G]at N;cases N
   refine⟨_,U,.inl ⟨U,_,SqL.of y⟩,_,U,_,U,_,_,c1,U,U,M,by rw[Ie];exact u,_,_,U,U,by rw[b];lia,l0,_,_,U,U,y,by rw[Ai,AG,Ai,Bh];lia,?_⟩;refine⟨_,_,U,s4.put W,by rw[Af dw];exact w4,?_⟩;obtain⟨B,h2⟩:=Ay.mp ht;rw[Ag,b,BL B,h2];simp only[AW,Di,Bg,Eb]
  rintro c m ⟨e,d,rfl,s4,w4,y⟩;rw[Ai,Eo (An _)]at y;refine⟨_,_,U,⟨Ξ,Ξ,Ξ,Ξ⟩,HX (n:=3) (λj c C=>∃e d:Option V,c = [some (.ref l0),some (.int (0+(i:Int))),e,d]/\Same H C/\C l0=some (.lst ((E7 i++(w8.map λx=>x++EK i)++(List.range j).map λj=>MF i (j+1)).map V.str))) ⟨_,_,U,s4,by rw[List.range_zero,Eb,Cc];exact y⟩ ?_ ?_⟩
  ·rintro j c C hj ⟨e,d,rfl,s5,I⟩;obtain⟨c2,a0,r,l2⟩:=Xf ((i+(j+1)) % 4) (mod_lt _ Ξ);have t4:(Str.ofString "tip ").length=4:=by decide +kernel
   have b1:(Str.ofString " ").length=1:=by decide +kernel
   refine⟨_,U,.inl ⟨U,_,SqL.of I⟩,_,U,_,_,c1,U,U,M,by rw[Ie];exact u,_,_,U,U,by rw[b];lia,_,_,U,U,by rw[b,Cm];lia,_,U,_,U,_,_,U,U,_,_,U,U,Ξ,_,_,c2,U,U,M,?_,_,_,U,U,by rw[b,r,Cm,Cm];lia,l0,_,_,U,U,I,by rw[Ai,AG,AG,Ai,Ai,Em];show _+8+_<_;lia,?_⟩
   ·rw[show(0+(i:Int)+(1+(j:Int))) % 4=(((i+(j+1)) % 4:Nat):Int) by lia];exact a0
   refine⟨_,_,U,s5.put W,?_⟩;rw[Ag,b,r,G0];simp only[AW,Di,Bg,Eb,MF]
  rintro c C ⟨e,d,rfl,s5,I⟩;refine⟨_,_,_,U,s5,?_⟩;rw[sW];unfold lnK;rw[<- Di];exact I
 rintro c l ⟨S,X,R,rfl,s2,G⟩;exact⟨_,U,q l0 l s2 G⟩
def Rz (W:Wl):Nat:=((nm5.zip [1,3,9,27,81]).map λp=>p.2*(if p.1∈W.heaps.getD 0 []then 0 else if p.1∈W.heaps.getD 1 []then 1 else 2)).sum
def bL:(List.range 243).all (λn=>decide (Rz (EA n)=n) && (EA n).heaps.flatten.isPerm nm5)=true:=by decide +kernel
def QN (h:n<243):Rz (EA n)=n/\(EA n).heaps.flatten.Perm nm5:=by have a:=DB.mp bL n (Do.mpr h);rw[BV]at a;exact⟨Bf a.1,List.isPerm_iff.mp a.2⟩
def QE (h:n<243):Ce rs5 (EA n):=by
 refine⟨⟨?_,λi p l c b=>?_⟩,⟨U,U⟩⟩
 ·have:(ths rs5).map (·.1)=nm5:=by decide +kernel
  rw[this];exact(QN h).2
 have a:l∈(["open", "open", "open"]:List Str):=Br b;(simp only[Az,Bw,Bv]at a);exact .inl (by rcases a with h | h | h <;> exact h)
def EV (s m:Nat):List Wl:=(List.range m).map λk=>EA ((s+7*k) % 243)
def He (s m:Nat):(EV s m).length=m:=by unfold EV;rw[Ai,Em]
def TH (g:m<=243):(EV s m).Nodup:=by refine List.Pairwise.map _ (λa b h=>h) (SJ (λ{a b} c d h=>?_) R4);intro e;have c:=Do.mp c;have d:=Do.mp d;have f:=BQ Rz e;rw[(QN (mod_lt _ Ξ)).1,(QN (mod_lt _ Ξ)).1]at f;exact h Ψ
def IA :∀W∈EV s m,Ce rs5 W:=λW a=>by obtain⟨k,_,rfl⟩:=Ba.mp a;exact QE (mod_lt _ Ξ)
theorem RW:∀(A L:List Wl),(L++A).Nodup->BC L A=L++A
 | [],L,_=>(Cc L).symm
 | W::r,L,h=>by have a:W∉L:=λz=>(Cr.mp h).2.2 W z W A9 U;show BC (if W∈L then L else L++[W]) r=_;rw[Ak a,RW r (L++[W]) (by rw[Di];exact h),Di];rfl
def NA.none' (a:NA rs Ws [] n L)(nd:Ws.Nodup):L=Ws:=by
 obtain⟨t,e⟩:=a.pre;rw[RW Ws [] nd]at e;cases t with
 | nil=>rw[e,Cc];rfl
 | cons W r=>obtain⟨_,_,D,_,_,_,hD,_⟩:=a.rch Ws.length W (by rw[e];simp) (by rw[RW Ws [] nd];simp);cases hD
def A2.one {b:Type}{R:V->b->Prop}{v:V}{t:b}(h:R v t):A2 R [v] [t]:=⟨U,λi d t' a c=>by
 cases i with
 | zero=>cases a;cases c;exact h
 | succ n=>cases a⟩
def A2.nil {b:Type}{R:V->b->Prop}:A2 R [] []:=⟨U,λi v t a _=>by cases a⟩
def iD :OkT rs [] [] []:=⟨[],[],[],U,U,⟨λq h=>(by cases h),λq h=>(by cases h),Ξ,Ξ⟩,⟨λq h=>(by cases h),λq h=>(by cases h),Ξ,Ξ⟩,λq h=>(by cases h),Ξ,Ξ,U⟩
def FS:List Str->List Str
 | []=>[]
 | x::r=>if x∈FS r then FS r else x::FS r
theorem RE:∀{l:List Str}{x:Str},x∈l->x∈FS l
 | y::r,x,h=>by
  unfold FS;rcases(Az.mp h)with z | z
  ·subst z;split
   ·assumption
   exact A9
  split
  ·exact RE z
  exact AY _ (RE z)
theorem JM:∀l:List Str,(FS l).Nodup/\(FS l).length<=l.length
 | []=>⟨JV,An _⟩
 | y::r=>by
  obtain⟨a,b⟩:=JM r;unfold FS;split
  ·exact⟨a,le_succ_of_le b⟩
  exact⟨B6.mpr ⟨by assumption,a⟩,L8 b⟩
def FH (rs:List Ro):List Str:=FS ("-" :: (ths rs).map (·.2))
def Zd (rs:List Ro)(o:Option Str):FI rs o∈FH rs:=by
 apply RE;cases o with
 | none=>exact A9
 | some t=>
  show(((ths rs).find? λx=>x.1 == t).map (·.2)).getD (Str.ofString "-")∈_;cases e:(ths rs).find? λx=>x.1 == t with
  | none=>exact A9
  | some x=>exact AY _ (CQ (Xh e))
def JI (p:Bo):LL:=⟨Str.ofString "feel hand", "hand",0,p, "feel", "hand"⟩
def Rn (h:(plc rs)[0]? = some p):Hd rs (JI p):=⟨by show "feel hand" = Txt.join blank ["feel","hand"];decide +kernel,.inl ⟨U,U,U⟩,h⟩
def Rq (h:EJ rs (JI p) W=some s):s∈FH rs:=by unfold EJ JI at h;rw[Wg]at h;cases h;exact Zd rs _
def iC:OkT rs5 [] [(Str.ofString "feel hand",1)] []:=by
 refine⟨[],[(JI ("a",false,none),1)],FH rs5,U,U,⟨λq h=>(by cases h),λq h=>(by cases h),Ξ,Ξ⟩,⟨λq h=>?_,λq h=>?_,Ξ,Ξ⟩,λq h W _ s e=>?_,Δ,(JM _).1,U⟩
 ·rw[AR.mp h];exact Rn U
 ·rw[AR.mp h];exact⟨Δ,Δ,Ξ,Ξ⟩
 rw[AR.mp h]at e;exact Rq e
def cR (d:X.A.units+64<cLine):Bz X (compareOp .Eq) (λx y H Q=>∃(a b:Addr) (us vs:List V) (ds es:List PyData),x=.ref a/\y=.ref b/\H a=some (.lst us)/\H b=some (.lst vs)/\RdVs H us ds/\RdVs H vs es /\
  PySem.SeqAt.shaped (.list ds)=true/\PySem.SeqAt.shaped (.list es)=true/\Q (.bl (PyData.eqv (.list ds) (.list es))) H):=by
 intro c s r H x y v u Q I e j h
 obtain⟨a,b,us,vs,ds,es,rfl,rfl,o,f,rd,g,n,i,q⟩:=h
 cases e
 cases j
 obtain⟨p,l⟩:=NL I.hok o rd
 obtain⟨bs,m⟩:=NL I.hok f g
 exact SS l m n i d ⟨.bl _,H,I,U,q⟩
def NM {P:Program}{w:World}{H:Hp}{h:Heap}(ok:HOk P w H h){a:Addr}{xs:List Bool}(e:H a=some (.lst (xs.map V.bl))):∃as,Reads h (.ref a) (.list (xs.map PyData.bool)) as:=by
 obtain⟨z,c,n,g,f⟩:=ok _ _ e
 have all:∀{bs:List Bool}{us:List Value},Vals (bs.map V.bl) us->∃as,ReadsAll h us (bs.map PyData.bool) as:=by
  intro bs;induction bs with
  | nil=>intro us r;cases r;exact⟨_,.nil⟩
  | cons b bs ih=>
   intro us r;cases r with
   | cons r1 r2=>cases r1;obtain⟨as,q⟩:=ih r2;exact⟨_,.cons (.bool b) q⟩
 obtain⟨as,d⟩:=all g;exact⟨_,.list f U U (by simpa using d)⟩
def UI (neg:Bool):R2:=λx y H Q=>∃(a b:Addr) (xs ys:List Bool),x=.ref a/\y=.ref b/\H a=some (.lst (xs.map V.bl))/\H b=some (.lst (ys.map V.bl))/\shaped (.list (xs.map PyData.bool))=true/\shaped (.list (ys.map PyData.bool))=true/\Q (.bl (neg ^^ PyData.eqv (.list (xs.map PyData.bool)) (.list (ys.map PyData.bool)))) H
def NZ (m:X.A.units+64<cLine):Bz X (compareOp .Eq) (UI false):=by rintro c s o H x y v u Q I d g⟨a,b,xs,ys,rfl,rfl,l,e,j,f,q⟩;cases d;cases g;obtain⟨n,h⟩:=NM I.hok l;obtain⟨bs,i⟩:=NM I.hok e;exact SS h i j f m ⟨.bl _,H,I,U,by rw[Bool.false_xor]at q;exact q⟩
def cN (m:X.A.units+64<cLine):Bz X (compareOp .NotEq) (UI true):=by rintro c s o H x y v u Q I d g⟨a,b,xs,ys,rfl,rfl,l,e,j,f,q⟩;cases d;cases g;obtain⟨n,h⟩:=NM I.hok l;obtain⟨bs,i⟩:=NM I.hok e;exact Xr h i j f m ⟨.bl _,H,I,U,by rw[Bool.true_xor]at q;exact q⟩
def LM:∀xs:List Bool,PyData.eqv (.list (xs.map PyData.bool)) (.list (xs.map PyData.bool))=true:=λxs=>by
 rw[PyData.eqv];induction xs with
 | nil=>simp[PyData.eqvAll]
 | cons b r ih=>rw[Bg,PyData.eqvAll,ih];cases b <;> simp[PyData.eqv]
def Fd (xs:List Bool):shaped (.list (xs.map PyData.bool))=true:=by
 have a:PyData.canLayAll0 (xs.map PyData.bool)=true:=JD λb _=>by rw[PyData.canLay0]
 have c:=LN (g:=PyData.bool) (n:=0) (xs:=xs) λb _=>by rw[PyData.depth];exact An _
 refine Qs ?_ ?_
 ·rw[PyData.canLay0];exact a
 rw[PyData.depth];lia
def VW (x d y:Addr){m:Str}(a:¬m = "made_chart")(b:¬m = "numbers")(c:¬m = "told_room"):(g3 x d y).lookup m=none:=by unfold g3 g2 g1;rw[CF,Ak a,CF,Ak b,CF,Ak c];rfl
def mD (h:shaped d=true):d.canLay0=true:=by unfold PySem.SeqAt.shaped at h;rw[BV]at h;exact h.1
def Ug {Ws:List Wl}(h:∀W∈Ws,Ok W):shaped (.list (Ws.map dW))=true:=by
 refine Qs ?_ ?_
 ·rw[PyData.canLay0];exact JD λW a=>mD (Qt (h W a))
 have b:=LN (xs:=Ws) λW _=>Wz W;rw[PyData.depth];lia
def qD (Ws:List Wl):PyData.eqv (.list (Ws.map dW)) (.list (Ws.map dW))=true:=by
 rw[PyData.eqv];induction Ws with
 | nil=>simp[PyData.eqvAll]
 | cons W r ih=>rw[Bg,PyData.eqvAll,ih,V9,AU rfl];rfl
def U4 {C a:Addr}{ad:Nat->Addr}{H:Hp}{Q:VK}{E:XK}{z:Addr}{rs:List Ro}{Ws:List Wl}{Us Vs:List (Str×Int)}{Ds:List DL1}(h:OkT rs Us Vs Ds)(d:Bd Ws Ds)(b:Ws≠[])(q:∀(L:List Wl) (H':Hp),(∀c u,H c=some u->c≠z->H' c=some u)->Pd C a H' z rs L->NA rs Ws Ds L.length L->Q .non H'):Mu C a ad H Q E z rs Ws Us Vs:=h.inf (.inr ⟨d,.inl ⟨b,q⟩⟩)
inductive Pw (K:W.Frag)(C:Addr)(vs:List V)(H:Hp)(Q:VK)(E0_:XK):Prop
 | mk (a x:Addr) (ns:List Int) (wy:Nat) (c0:vs=[.ref a,.ref x,.int (wy:Int)]) (c1:SqL K H a (ns.map V.int)) (c2:ns.length<=63) (c3:wy<3) (c4:RoomAt C H x rs5) (c5:∀H':Hp,Q (.bl true) H'):Pw K C vs H Q E0_
abbrev Lf:List Str:=["_law_script", "_law_room_here", "_law_way"]
abbrev jK:List Str:=Cj Lf ["_law_many", "_law_start", "_law_worlds"]
def scLToldMany:AI jK Lf (Aq KO):=AO
def cX {f C CT fT fw:Addr}{ad:Nat->Addr}{fd dT dw:FuncData}(F:Fun K "_law_told_many" "_law_told_many" KO f fd)(T:Bl mg)(LT:My K CT)(MT:L2.Mk K CT fT)(mT:mg "Atlas" = some (.ref CT))(bT:Binds K dT Fj [])(af:FnOk P w K mg base (CXe P w) 10 fT dT Fj (IF C CT ad))(G:Binds K dw ["self"] [])(B:Dv K CT "worlds" fw)(r:FnOk P w K mg base CX0 1 fw dw ["self"] (ML C CT))
  (y:Ca P w K mg base CX0 1 "_law_pick" EW CO (FG K))(p:Ca P w K mg base CX0 1 "_law_plain" Gi Jl MQ)(g:Ca P w K mg base CX0 12 "_law_caught" IP HG (KC C)):FnOk P w K mg base CX0 13 f fd Lf (Pw K C):=by
 refine F.oq scLToldMany λcdv A outer s H vs Q E d h=>?_
 obtain⟨a,x,ns,wy,rfl,hS,hn,hw,R,q⟩:=h
 have a3:Room 11 _:=d.mono Ξ
 have ag:Room 2 _:=d.mono Ξ
 have S:Room 1 _:=d.mono Ξ
 have a4:=d.units
 have hu:=Cz d
 have al:sizeLine=16777216:=AF
 refine⟨_,(Ah (AD (i:=3) scLToldMany.nd (Av Bb (AZ (Aa Ae (Aa Ae (Aa Ae Ab)))) (pv 2) (λ_ _=>U))) (Ah (Gq (i:=4) scLToldMany.nd U (E9 U) (AN y S Ao (Aa (pv 0) (Aa Ae (Aa Ae Ab))))) (Ah (Ez (i:=5) (N:=["_law_k", "_law_start"]) (sc:=Aq KO) (own:=["_law_k"]) (fr:=["_law_start"]) (js:=[4]) scLToldMany.nd U U B0 U (EB Φ T.range (Aa (pv 3) Ab)) (λ_ _ _ _=>AS (i:=0) (show List.Nodup (["_law_k", "_law_start"]:List Str) by decide +kernel)) (λ_ _ _ _=>Ck) (λ_ _ _ _=>(AN p S Ao (Aa (As Eg (As Bq (pv 1) (As GA Ae (pv 0))) Ae) Ab)))) (Ah (AL (AM GB (pv 3) Ae (AE _)) (Am (AC (De (cR a4) (Hv (Hw MT af a3 Φ mT bT .nil U5 (Aa (pv 1) (Aa (BK DQ Φ T.list Dh (Aa (pv 5) Ab)) (Aa (AZ Ab) (Aa (AZ Ab) Ab))))) LT.cl B r S G .nil Ao) (pv 5) (AE _)))) AK) (Am (AC (De (NZ a4) (AN g d Ao (Aa (pv 1) (Aa (pv 5) (Aa (AZ Ab) (Aa (AZ (Aa (Bm (Aa Aw (Aa Ae Ab))) Ab)) Ab))))) (AZ (Aa B8 (Aa B8 (Aa B8 (Aa B8 (Aa B8 Ab)))))) (AE _)))))))),?_⟩
 refine⟨AA,λlm a8=>?_⟩
 obtain⟨s0,q0⟩:=AH (o:=(.lst [.int 200,.int 199,.int 201])) a8
 generalize Y H lm _=H0 at s0 q0 ⊢
 obtain⟨m,hm,m1,m2⟩:∃m:Nat,atI [V.int 200,V.int 199,V.int 201] (wy:Int)=some (.int (m:Int))/\199<=m/\m<=201:=by
  match wy,hw with
  | 0,_=>exact⟨200,AB U,Ξ,Ξ⟩
  | 1,_=>exact⟨199,AB U,Ξ,Ξ⟩
  | 2,_=>exact⟨201,AB U,Ξ,Ξ⟩
 refine⟨_,U,lm,_,_,_,U,U,SqL.of q0,hm,?_⟩
 refine⟨_,U,a,ns,_,_,U,s0.seq hS,hn,Ξ,Ξ,Ξ,λj j0 j1=>?_⟩
 obtain⟨st,rfl⟩:∃st:Nat,(st:Int)=j:=⟨j.toNat,Dr j0⟩
 refine⟨_,U,_,U,Ψ,Ψ,λD hD=>?_⟩
 refine Co (n:=m) (λi ys X=>RdVs X ys ((EV st i).map dW)/\Same H X/\X D=some (.lst ys)) ⟨.nil,s0.trans (Same.new hD),Ag⟩ (λi _ _ hi _=>by show i<_;lia) (λ_ _ _=>by show _<=_;lia) ?_ ?_
 ·rintro i ys X v H3 hi ⟨rd,s2,e2⟩ ⟨rfl,rfl⟩;refine Cn ?_;refine⟨_,U,_,U,_,_,U,U,.inl ⟨Ψ,Ψ⟩,_,_,U,U,_,_,U,U,Ξ,(st+7*i) % 243,?_,mod_lt _ Ξ,λv H4 s4 rv=>?_⟩
  ·rw[show((st:Int)+7*(0+(i:Int))) % 243=(((st+7*i) % 243:Nat):Int) by lia];rfl
  have ae:ys.length=i:=by rw[rd.length,Ai,He]
  refine⟨ys,s4 _ _ e2,Ψ,?_,(s2.trans s4).put (none_of s0 hD),Ag⟩;have kp:∀c xs,H4 c=some (.tup xs)->(Y H4 D (.lst (ys++[v]))) c=some (.tup xs):=λc xs e=>by rw[Af (A8 e (s4 _ _ e2) (by intro z;cases z))];exact e
  have ht:EV st (i+1)=EV st i++[EA ((st+7*i) % 243)]:=by unfold EV;rw[G0,AW];rfl
  rw[ht,AW];exact((s4.rds rd).same kp).append (.cons (rv.same kp) .nil)
 rintro ys X ⟨rd,s2,e2⟩
 have ae:ys.length=m:=by rw[rd.length,Ai,He]
 refine⟨_,U,_,_,U,U,_,U,?_⟩
 refine Bi (λz=>?_) (λz=>?_)
 ·have ai:m<201:=by have:=Bf z;lia
  refine⟨_,U,_,U,D,ys,U,.inl (SqL.of e2),λlw ac=>?_⟩;obtain⟨s3,q3⟩:=AH (o:=(.lst ys)) ac;generalize Y X lw _=H3 at s3 q3 ⊢;refine⟨AA,λla a1=>?_⟩;obtain⟨s4,q4⟩:=AH (o:=(.lst [])) a1;generalize Y H3 la _=H4 at s4 q4 ⊢;refine⟨AA,λlb a0=>?_⟩;obtain⟨M,q5⟩:=AH (o:=(.lst [])) a0;generalize Y H4 lb _=H5 at M q5 ⊢;have I:=(s3.trans s4).trans M;intro z dz nz a5 aj;have ts:TlS C H5 x lw la lb rs5 (EV st m) [] []:=⟨ys,[],[],R.same (s2.trans I),GG,(s4.trans M) _ _ q3,I.rds rd,IA,by rw[He];lia,M _ _ q4,A2.nil,q5,A2.nil,Ξ,Ξ⟩;refine ts.at nz a5 (U4 iD ⟨EV st m,by rw[He];lia,λW h=>h,λb _ D hD=>(by cases hD)⟩ (λe=>by have:=BQ List.length e;rw[He]at this;simp at this;lia) λL H6 k6 a6 na=>⟨U,?_⟩);obtain rfl:=na.none' (TH Ψ);have a7:Same H5 H6:=λc u e=>k6 c u (by rw[Af (Au e nz),Af (Au e a5)];exact e) (Au e nz);obtain⟨aa,x',d',y',ab,ak,ah⟩:=a6.ex;refine⟨z,aa,_,U,ab,VW x' d' y' Δ Δ Δ,z,rs5,_,U,a6,λl us H7 s7 nl el rl=>?_⟩;refine⟨_,U,l,D,us,ys,_,_,U,U,el,(I.trans (a7.trans s7)) _ _ e2,rl,(I.trans (a7.trans s7)).rds rd,?_,?_,?_⟩
  ·exact Ug λW h=>(IA W h).1.ok GG (IA W h).2
  ·exact Ug λW h=>(IA W h).1.ok GG (IA W h).2
  rw[qD];exact q _
 have a9:m=201:=by have:¬(m:Int)<201:=λh=>z (AU h);lia
 subst a9
 unfold Kv
 dsimp only
 refine⟨_,U,_,U,AA,λla a1=>?_⟩
 obtain⟨s4,q4⟩:=AH (o:=(.lst [])) a1
 generalize Y X la _=H4 at s4 q4 ⊢
 refine⟨AA,λt nt=>?_⟩
 obtain⟨M,q5⟩:=AH (o:=(.tup [.str (Str.ofString "feel hand"),.int 1])) nt
 generalize Y H4 t _=H5 at M q5 ⊢
 refine⟨AA,λlb a0=>?_⟩
 obtain⟨s6,q6⟩:=AH (o:=(.lst [.ref t])) a0
 generalize Y H5 lb _=H6 at s6 q6 ⊢
 have a2:=(s4.trans M).trans s6
 have ts:TlS C H6 x D la lb rs5 (EV st 201) [] [(Str.ofString "feel hand",1)]:=⟨ys,[],[.ref t],R.same (s2.trans a2),GG,a2 _ _ e2,a2.rds rd,IA,by rw[He];decide,(M.trans s6) _ _ q4,A2.nil,q6,A2.one ⟨t,U,s6 _ _ q5⟩,Ξ,by show 1<=100;decide⟩
 refine⟨x,D,la,lb,rs5,_,_,_,3,U,ts,.b [] iC λL nd _ hW _=>?_,λl H7 s7 e7=>?_⟩
 ·have:=Ly (TH (s:=st) (m:=201) Ξ) hW;rw[He]at this;lia
 refine⟨AA,λc nc=>?_⟩
 refine⟨l,c,Ek 3,[false,false,false,true,true],U,U,(Same.new nc) _ _ e7,Ag,Fd _,Fd _,?_⟩
 rw[show Ek 3=[false,false,false,true,true] by decide,LM]
 exact q _
def tk5:List Str:=["take ", "put "]
def pn5:List Str:=["a", "b", "c"]
theorem qU:∀i:Nat,i<6->∃(a b:Str) (D:DL1),atI (tk5.map V.str) ((0+(i:Int)) % 2)=some (.str a)/\atI (pn5.map V.str) ((0+(i:Int)) / 2)=some (.str b)/\Ds5[i]? = some D/\a++b=D.line/\a.length<=5/\b.length<=5
 | 0,_=>⟨"take ", "a",_,Φ,Φ,U,Δ,Δ,Δ⟩
 | 1,_=>⟨"put ", "a",_,Φ,Φ,U,Δ,Δ,Δ⟩
 | 2,_=>⟨"take ", "b",_,Φ,Φ,U,Δ,Δ,Δ⟩
 | 3,_=>⟨"put ", "b",_,Φ,Φ,U,Δ,Δ,Δ⟩
 | 4,_=>⟨"take ", "c",_,Φ,Φ,U,Δ,Δ,Δ⟩
 | 5,_=>⟨"put ", "c",_,Φ,Φ,U,Δ,Δ,Δ⟩
 | n+6,h=>absurd h Ψ
def Ps5:List (DL1×Int):=Ds5.map λD=>(D,1)
def tok5:Mo rs5 Ps5:=by
 refine⟨λq a=>?_,λq a=>?_,Δ,Δ⟩
 ·obtain⟨D,hD,rfl⟩:=Ba.mp a;exact qR D hD
 obtain⟨D,hD,rfl⟩:=Ba.mp a;have h:∀D∈Ds5,1<=D.line.length/\D.line.length<=30:=by intro D hD;simp[Ds5,Az,Bw,Bv]at hD;rcases hD with h | h | h | h | h | h <;> (rw[h];decide +kernel)
 exact⟨(h D hD).1,(h D hD).2,by show(1:Int)<=1;decide,by show(1:Int)<=1000000000;decide⟩
def nmL:List V:=nm5.map λn=>V.str (Ro.txt (.th n "s"))
theorem Yh:∀i:Nat,i<5->∃c,atI (Str.ofString "abcde").cps.toList (0+(i:Int))=some c/\nmL[i]? = some (.str (Str.ofString "thing t" ++ (⟨#[c]⟩:Str)++Str.ofString " s"))
 | 0,_=>⟨97,Φ,Φ⟩
 | 1,_=>⟨98,Φ,Φ⟩
 | 2,_=>⟨99,Φ,Φ⟩
 | 3,_=>⟨100,Φ,Φ⟩
 | 4,_=>⟨101,Φ,Φ⟩
 | n+5,h=>absurd h Ψ
def A2.upD (h:A2 (Kj H) us Ps):A2 (By H) us (Ps.map λq=>(q.1.line,q.2)):=⟨by rw[h.len,Ai],λi v t c a=>by obtain⟨q,b,_,r⟩:=h.at c;rw[AQ,b]at a;cases a;exact r⟩
def FO {A B:Prop}{a b:Int}(h:¬a=b)(x:B):if decide (V.int a=V.int b)=true then A else B:=by rw[BR (λz=>h (V.int.inj z))];exact BH x
def FN {A B:Prop}{a b:Int}(h:a=b)(x:A):if decide (V.int a=V.int b)=true then A else B:=by rw[AU (BQ V.int h)];exact BA x
def bQ:EA 0=W5:=by decide +kernel
def iA:OkT rs5 (Ps5.map λq=>(q.1.line,q.2)) [] Ds5:=⟨Ps5,[],[],U,U,tok5,⟨λq h=>(by cases h),λq h=>(by cases h),Ξ,Δ⟩,λq h=>(by cases h),Ξ,Ξ,by unfold Ps5;rw[BD];exact(List.map_id _).symm⟩
def A2.set {d:Type}{R:V->d->Prop}{us:List V}{f:List d}{v:V}{t:d}(h:A2 R us f)(r:R v t)(j:Nat):A2 R (us.set j v) (f.set j t):=⟨by rw[FU,FU];exact h.len,λi w s a b=>by
 rw[List.getElem?_set]at a b;by_cases e:j=i
 ·rw[Ar e]at a b;split at a
  ·split at b
   ·cases a;cases b;exact r
   cases b
  cases a
 rw[Ak e]at a b;obtain⟨s',c,_,g⟩:=h.at a;rw[b]at c;cases c;exact g⟩
def Us5:List (Str×Int):=Ps5.map λq=>(q.1.line,q.2)
def Tv:DL1:=⟨"toss a", "toss",0,0,("a",false,none),("a",false,none)⟩
def Yf:Mx rs5 Tv:=⟨⟨Δ,Δ,Δ⟩,Δ,U,U,λz=>absurd z Δ,Δ⟩
def Ti:∀s∈Us5,GdD rs5 s/\Ec s:=λs b=>by obtain⟨q,a,rfl⟩:=Ba.mp b;exact⟨⟨q.1,U,(tok5.ok q a).toMx⟩,tok5.st q a⟩
def X4:∀j,j<6->((Us5.set j (Str.ofString "toss a",0)).map (·.1)).Nodup:=by
 intro j h;have:j=0\/j=1\/j=2\/j=3\/j=4\/j=5:=by lia
 rcases this with e | e | e | e | e | e <;> (rw[e];decide +kernel)
def sO (h:j<6)(Ws:List Wl):BadF rs5 Ws (Us5.set j (Str.ofString "toss a",0)) [] 2:=by
 refine .t 2 (.s (λs a=>?_) (λs a=>(by cases a)) ?_)
 ·rcases List.mem_or_eq_of_mem_set a with z | z
  ·exact(Ti s z).1
  rw[z];exact⟨Tv,Δ,Yf⟩
 refine .inr ⟨by rw[FU];decide +kernel,Ξ,.inr ⟨by rw[Cc];exact X4 j h,j,(Str.ofString "toss a",0),?_,.pr Δ Δ (.inl Ξ) Δ,λi s b a=>?_⟩⟩
 ·rw[Cc,JS (by exact h)]
 rw[Cc,Ki Ψ]at a;exact(Ti s (Br a)).2
def rs6:List Ro:=.pl "d" :: rs5
def W6:Wl:=⟨none,[nm5,[],[],[]],["open", "open", "open", "open"]⟩
def VQ:Good rs6:=by
 refine⟨λr c=>?_,Δ,⟨"d",[("a",false,none),("b",false,none),("c",false,none)],U⟩,Δ,Δ,λp a k b=>?_⟩
 ·rcases(Az.mp c)with h | h
  ·rw[h];exact nv5 Δ
  exact GG.1 r h
 have h:plc rs6=[(("d" : Str),false,none),("a",false,none),("b",false,none),("c",false,none)]:=rfl;rw[h]at a;simp[Az,Bw,Bv]at a;rcases a with h | h | h | h <;> (rw[h]at b;cases b)
def ZS:Ce rs6 W6:=by
 refine⟨⟨?_,λi p l c b=>?_⟩,⟨U,U⟩⟩
 ·have:W6.hand.toList++W6.heaps.flatten=(ths rs6).map (·.1):=by decide +kernel
  rw[this]
 have a:=Br b;simp only[W6,Az,Bw,Bv]at a;exact .inl (by rcases a with h | h | h | h <;> exact h)
def XW:List Str:=["take", "put", "toss", "open", "shut", "lock", "unlock", "shake"]
def qM (k:Nat):List DL1:=((w8.zip XW).map λp=>⟨p.1++EK k,p.2,(k+1) % 4,(k+1) % 4,(EK k,false,none),(EK k,false,none)⟩)++(List.range 3).map λj=>⟨MF k (j+1), "tip",(k+1) % 4,(k+(j+1)+1) % 4,(EK k,false,none),(EK ((k+(j+1)) % 4),false,none)⟩
def ds44:List DL1:=(List.range 4).flatMap qM
def qP:ds44.map DL1.line=E7 4:=by decide +kernel
def WG (D:DL1):Bool:=decide (D.line=Txt.join blank (FF D.w D.p.1 D.pj.1)) && (FF D.w D.p.1 D.pj.1).all (λw=>decide (32∉cs w)) && decide (FF D.w D.p.1 D.pj.1≠[]) && decide (D.line.length<=1000) && decide ((plc rs6)[D.i]? = some D.p) && decide ((plc rs6)[D.j]? = some D.pj) && decide (D.w = "tip" -> D.i≠D.j) && decide (D.w∈Lx)
def qN:∀D∈ds44,Mx rs6 D:=λD hD=>by
 have h:ds44.all WG=true:=by decide +kernel
 have h:=DB.mp h D hD;unfold WG at h;simp only[BV,Kh,DB]at h;obtain⟨⟨⟨⟨⟨⟨⟨a,d⟩,i⟩,g⟩,c⟩,f⟩,e⟩,b⟩:=h;exact⟨⟨a,i,d⟩,g,c,f,e,b⟩
def l41:List Str:=(E7 4).take 41
def sN (Ws:List Wl):BadF rs6 Ws (l41.map λs=>(s,1)) [] 2:=by refine .t 2 (.s (λs b=>?_) (λs b=>(by cases b)) (.inl (.inl Δ)));obtain⟨z,a,rfl⟩:=Ba.mp b;have a:=Ih a;rw[<- qP]at a;obtain⟨D,hD,e⟩:=Ba.mp a;exact⟨D,e,qN D hD⟩
def Oe (xs:List V)(k:Nat):BB xs none (some (k:Int))=xs.take k:=by
 unfold BB;rw[HT.sIx_none,HT.sIx_nat,L5,Oo];rcases Nat.le_total k xs.length with h | h
 ·rw[L6 h]
 rw[Nat.min_eq_right h,Cd,Eo h]
inductive Qa (K:W.Frag)(vs:List V)(H:Hp)(Q:VK)(E0_:XK):Prop
 | mk (a:Addr) (ns:List Int) (c0:vs=[.ref a]) (c1:SqL K H a (ns.map V.int)) (c2:ns.length<=63) (c3:∀H':Hp,Q (.bl true) H'):Qa K vs H Q E0_
abbrev Lh:List Str:=["_law_script"]
abbrev jN:List Str:=Cj Lh ["_law_lines", "_law_room_here", "_law_deeds", "_law_way", "_law_world_here"]
def scLGreat:AI jN Lh (Aq Fe):=AO
def oX (es:List Expr):List Stmt:=match B9 Fe with
 | [r1,r2,r3,r4,r5,r6,.If c [.Assign t (.Tuple [n,.Tuple (.Tuple _ k1 p1::tl) k2 p2,o] k3 p3) p4,b2,b3] el p5,r8]=>[r1,r2,r3,r4,r5,r6,.If c [.Assign t (.Tuple [n,.Tuple (.Tuple es k1 p1::tl) k2 p2,o] k3 p3) p4,b2,b3] el p5,r8]
 | yy=>yy
def grE:List Expr:=match (B9 Fe).getD 6 (.Pass ⟨0,0,0,0⟩)with
 | .If _ (.Assign _ (.Tuple [_,.Tuple (.Tuple es _ _::_) _ _,_] _ _) _::_) _ _=>es
 | _=>[]
def oW:oX grE=B9 Fe:=by rfl
def oR:grE.map IE=nm5.map V.str:=by rfl
def oT:grE.all JF=true:=by decide +kernel
def gG {f5:Addr} (F:Fun K "_law_great" "_law_great" Fe f fd)(T:Bl mg)(MR:L2.Mk K C fI)(mR:mg "Room" = some (.ref C))(bR:Binds K dI ["self", "lines"] [])(ba:FnOk P w K mg base CX0 4 fI dI ["self", "lines"] (MZ C))
  (B:Ca P w K mg base CX0 1 "_law_pick" EW CO (FG K))(m:Ca P w K mg base CX0 1 "_law_plain" Gi Jl MQ)(d:Ca P w K mg base CX0 12 "_law_caught" IP HG (KC C))(g:Ca P w K mg base CX0 13 "_law_told_many" KO Lf (Pw K C))(D_l_all_lines:Df K mg "_law_all_lines" Hm Jm f5 d5)(u:FnOk P w K mg base CX0 1 f5 d5 Jm T9):FnOk P w K mg base CX0 14 f fd Lh (Qa K):=by
 refine F.oq scLGreat λcdv A outer s H vs Q E G h=>?_
 obtain⟨a,ns,rfl,hS,hn,q⟩:=h
 have X:Room 12 _:=G.mono Ξ
 have bh:Room 5 _:=G.mono Ξ
 have a2:Room 1 _:=G.mono Ξ
 have ag:=G.units
 have hu:=Cz G
 have c5:sizeLine=16777216:=AF
 have v1:=oR
 have h1:=oT
 rw[<- oW]
 generalize grE=es at v1 h1 ⊢
 refine⟨_,(Ah (AD (i:=1) scLGreat.nd (As CU (AZ (Aa Aw (Aa Aw (Aa Aw Ab)))) (Dx (N:=["_law_k"]) (sc:=Aq Fe) (own:=["_law_k"]) (fr:=[]) (js:=[]) B0 U (EB Φ T.range (Aa Ae Ab)) (λ_ _ _ _=>AS (i:=0) (show List.Nodup (["_law_k"]:List Str) by decide +kernel)) (λ_ _ _ _=>Ck) (λ_ _ _ _=>(As CD (As CD Aw (Av JE Aw (pv 0) (λ_ _=>U))) Aw))))) (Ah (AD (i:=2) scLGreat.nd (Hw MR ba bh Φ mR bR .nil Ao (Aa (pv 1) Ab))) (Ah (Ez (i:=3) (N:=["_law_k"]) (sc:=Aq Fe) (own:=["_law_k"]) (fr:=[]) (js:=[]) scLGreat.nd U U B0 U (EB Φ T.range (Aa Ae Ab)) (λ_ _ _ _=>AS (i:=0) (show List.Nodup (["_law_k"]:List Str) by decide +kernel)) (λ_ _ _ _=>Ck) (λ_ _ _ _=>(Bm (Aa (As CD (Av (LG K U) (AZ (Aa Aw (Aa Aw Ab))) (As Eg (pv 0) Ae) (λ_ _=>U)) (Av (LG K U) (AZ (Aa Aw (Aa Aw (Aa Aw Ab)))) (As Q2 (pv 0) Ae) (λ_ _=>U))) (Aa Ae Ab))))) (Ah (AD (i:=4) scLGreat.nd (AN B a2 Ao (Aa (pv 0) (Aa Ae (Aa Ae Ab))))) (Ah (AL (AM GB (pv 4) Ae (AE _)) (Am (AC (AN g G Ao (Aa (pv 0) (Aa (pv 2) (Aa (pv 4) Ab)))))) AK) (Ah (AL (AM Bt (pv 4) Ae (AE _)) (Ah (bA (pv 3) (AN B a2 Ao (Aa (pv 0) (Aa Ae (Aa Ae Ab)))) (Bm (Aa Aw (Aa Ae Ab))) U) (Am (AC (De (NZ ag) (AN d X Ao (Aa (pv 2) (Aa (AZ (Aa (AN m a2 Ao (Aa Ae Ab)) Ab)) (Aa (pv 3) (Aa (AZ Ab) Ab))))) (AZ (Aa B8 (Aa B8 (Aa B8 (Aa B8 (Aa B8 Ab)))))) (AE _))))) AK) (Ah (AL (AM Bt (pv 4) Ae (AE _)) (Ah (AD (i:=5) scLGreat.nd (Bm (Aa Dc (Aa (Bm (Aa (Bm (NT (nm5.map V.str) h1 v1)) (Aa (Bm Ab) (Aa (Bm Ab) (Aa (Bm Ab) Ab))))) (Aa (Bm (Aa Aw (Aa Aw (Aa Aw (Aa Aw Ab))))) Ab))))) (Ah (Ez (i:=3) (N:=["_law_line"]) (sc:=Aq Fe) (own:=["_law_line"]) (fr:=[]) (js:=[]) scLGreat.nd U U B0 U (BS (DI Ew (cE u a2 Φ D_l_all_lines.m D_l_all_lines.F.kp D_l_all_lines.b .nil Ao) DH (DG Ae))) (λ_ _ _ _=>AS (i:=0) (show List.Nodup (["_law_line"]:List Str) by decide +kernel)) (λ_ _ _ _=>Ck) (λ_ _ _ _=>(Bm (Aa (pv 0) (Aa Ae Ab))))) (Am (AC (De (NZ ag) (AN d X Ao (Aa (Hw MR ba bh Φ mR bR .nil Ao (Aa (As CU (AZ (Aa Aw Ab)) (pv 1)) Ab)) (Aa (AZ (Aa (pv 5) Ab)) (Aa (pv 3) (Aa (AZ Ab) Ab))))) (AZ (Aa B8 (Aa B8 (Aa B8 (Aa B8 (Aa B8 Ab)))))) (AE _)))))) AK) (Am (AC (De (NZ ag) (AN d X Ao (Aa (pv 2) (Aa (AZ (Aa (AN m a2 Ao (Aa Ae Ab)) Ab)) (Aa (pv 3) (Aa (AZ Ab) Ab))))) (AZ (Aa B8 (Aa B8 (Aa B8 (Aa B8 (Aa B8 Ab)))))) (AE _))))))))))),?_⟩
 refine⟨AA,λa1 bq=>?_⟩
 obtain⟨s1,q1⟩:=AH (o:=(.lst [.str (Str.ofString "place a"),.str (Str.ofString "place b"),.str (Str.ofString "place c")])) bq
 generalize Y H a1 _=H1 at s1 q1 ⊢
 have b5:(Str.ofString "abcde").length<=sizeLine:=by rw[c5];decide +kernel
 have b7:(Str.ofString "thing t").length=7:=by decide +kernel
 have b2:(Str.ofString " s").length=2:=by decide +kernel
 refine⟨5,U,Ξ,Ξ,λD hD=>?_⟩
 refine Co (n:=5) (λi ys H2=>ys=nmL.take i/\Same H1 H2/\H2 D=some (.lst ys)) ⟨U,Same.new hD,Ag⟩ (λi _ _ hi _=>by show i<5;exact hi) (λ_ _ _=>by show 5<=5;exact An _) ?_ ?_
 ·rintro i ys H3 y H2 hi ⟨rfl,s2,e2⟩ ⟨rfl,rfl⟩;refine Cn ?_;obtain⟨c,hc,ai⟩:=Yh i hi;obtain⟨aa,ai⟩:=Ay.mp ai;have b1:(⟨#[c]⟩:Str).length=1:=rfl;refine⟨_,U,_,_,c,U,U,b5,hc,_,_,U,U,Ψ,_,_,U,U,by rw[Cm];lia,_,e2,by rw[Bh];lia,?_,s2.put hD,Ag⟩;rw[BL aa,ai]
 rintro ys H2 ⟨rfl,s2,e2⟩
 rw[Eo Δ]at e2
 refine⟨a1,D,_,_,U,U,s2 _ _ q1,e2,by show 3+5<=sizeLine;lia,λa3 ce=>?_⟩
 obtain⟨s3,q3⟩:=AH (o:=(.lst ([.str (Str.ofString "place a"),.str (Str.ofString "place b"),.str (Str.ofString "place c")]++nmL))) ce
 generalize Y H2 a3 _=H3 at s3 q3 ⊢
 replace q3:H3 a3=some (.lst ((rs5.map Ro.txt).map V.str)):=q3
 refine⟨_,U,?_⟩
 intro x dx nx cj cq
 have t4:Same H3 (Y (Y H3 dx (.own x)) x (.ins C dx [])):=λb o e=>by rw[Af (Au e nx),Af (Au e cj)];exact e
 refine⟨x,dx,a3,rs5,U,Ag,t4 _ _ q3,GG,Δ,λH4 kp RA=>⟨U,?_⟩⟩
 have ap:Same H3 H4:=λb o e=>kp b o (t4 _ _ e) (Au e nx)
 refine⟨6,U,Ξ,Ξ,λR an=>?_⟩
 refine Co (n:=6) (λi ys H5=>A2 (Kj H5) ys (Ps5.take i)/\Same H4 H5/\H5 R=some (.lst ys)) ⟨A2.nil,Same.new an,Ag⟩ (λi ys H5 hi _=>by show i<6;exact hi) (λys H5 _=>by show 6<=6;exact An _) ?_ ?_
 ·rintro i ys H6 y H5 hi ⟨ad,s5,e5⟩ ⟨rfl,rfl⟩;refine Cn ?_;obtain⟨wa,wb,Dl,h3,h4,c9,c3,ct,cr⟩:=qU i hi;refine⟨AA,λb1 bo=>?_⟩;obtain⟨u1,w1⟩:=AH (o:=(.lst [.str (Str.ofString "take "),.str (Str.ofString "put ")])) bo;generalize Y H5 b1 _=Ha at u1 w1 ⊢;replace w1:Ha b1=some (.lst (tk5.map V.str)):=w1;refine⟨_,U,_,_,U,U,Ξ,b1,_,_,_,U,U,SqL.of w1,h3,?_⟩;refine⟨AA,λb2 cb=>?_⟩;obtain⟨u2,w2⟩:=AH (o:=(.lst [.str (Str.ofString "a"),.str (Str.ofString "b"),.str (Str.ofString "c")])) cb;generalize Y Ha b2 _=Hb at u2 w2 ⊢;replace w2:Hb b2=some (.lst (pn5.map V.str)):=w2;refine⟨_,U,_,_,U,U,⟨Ξ,Ξ⟩,b2,_,_,_,U,U,SqL.of w2,h4,_,_,U,U,Ψ,AA,λt ht=>?_⟩;rw[c3];have u3:Same Hb (Y Hb t (.tup [.str Dl.line,.int 1])):=Same.new ht;have a8:=(u1.trans u2).trans u3;have cp:=ad.len
  have ch:Ps5.take (i+1)=Ps5.take i++[(Dl,1)]:=by
   have h:Ps5[i]? = some (Dl,1):=by show(Ds5.map λD=>(D,(1:Int)))[i]? = _;rw[AQ,c9];rfl
   obtain⟨cn,ci⟩:=Ay.mp h;rw[BL cn,ci]
  have kp:∀c I,(Y Hb t (.tup [.str Dl.line,.int 1])) c=some (.tup I)->(Y (Y Hb t (.tup [.str Dl.line,.int 1])) R (.lst (ys++[V.ref t]))) c=some (.tup I):=λc I e=>by rw[Af (A8 e (a8 _ _ e5) (by intro z;cases z))];exact e
  refine⟨ys,a8 _ _ e5,by rw[cp,Bh];lia,?_,(s5.trans a8).put an,Ag⟩;rw[ch];exact A2.app (ad.mono λv p _ ae=>by obtain⟨x,h1,h2⟩:=ae;exact⟨x,h1,kp _ _ (a8 _ _ h2)⟩) (A2.one ⟨t,U,kp _ _ Ag⟩)
 rintro ys H5 ⟨ad,s5,e5⟩
 rw[Eo Δ]at ad
 have br:=((s2.trans s3).trans ap).trans s5
 have ao:=(s1.trans br).seq hS
 have R5:=RA.same s5
 refine⟨_,U,a,ns,_,_,U,ao,hn,Ξ,Ξ,Ξ,λj j0 j1=>?_⟩
 obtain⟨wy,rfl⟩:∃wy:Nat,(wy:Int)=j:=⟨j.toNat,Dr j0⟩
 have be:ys.length<=100:=by rw[ad.len];decide +kernel
 refine⟨_,U,_,_,U,U,_,U,?_⟩
 refine Bi (λz=>?_) (λz=>?_)
 ·have:=Bf z;exact⟨_,U,_,U,_,U,a,x,ns,wy,U,ao,hn,Ψ,R5,q⟩
 unfold Kv
 dsimp only
 refine⟨_,U,U,_,U,?_⟩
 by_cases h3:(wy:Int)=3
 ·refine FN h3 ?_;refine⟨AA,λt nt=>?_⟩;obtain⟨s6,q6⟩:=AH (o:=(.tup [.str (Str.ofString "toss a"),.int 0])) nt;generalize Y H5 t _=H6 at s6 q6 ⊢;refine⟨_,U,_,U,a,ns,_,_,U,s6.seq ao,hn,Ξ,Ξ,Ξ,λj j0 j1=>?_⟩;obtain⟨L,rfl⟩:∃L:Nat,(L:Int)=j:=⟨j.toNat,Dr j0⟩;have bw:L<ys.length:=by rw[ad.len];show L<6;lia
  refine⟨R,ys,L,U,U,s6 _ _ e5,bw,?_⟩;have kt:∀c I,H6 c=some (.tup I)->(Y H6 R (.lst (ys.set L (.ref t)))) c=some (.tup I):=λc I e=>by rw[Af (A8 e (s6 _ _ e5) (by intro z;cases z))];exact e
  have a7:A2 (By (Y H6 R (.lst (ys.set L (.ref t))))) (ys.set L (.ref t)) (Us5.set L (Str.ofString "toss a",0)):=A2.set (ad.upD.mono λv s _ ⟨c,e,r⟩=>⟨c,e,kt _ _ (s6 _ _ r)⟩) ⟨t,U,kt _ _ q6⟩ L;obtain⟨H7,e7,s7,q7⟩:∃H7,Y H6 R (.lst (ys.set L (.ref t)))=H7/\Same H4 H7/\H7 R=some (.lst (ys.set L (.ref t))):=⟨_,U,(s5.trans s6).put an,Ag⟩;rw[e7]at a7 ⊢;refine⟨_,U,0,U,Ξ,λv H8 s8 rv=>?_⟩;refine⟨AA,λlw a5=>?_⟩;obtain⟨s9,q9⟩:=AH (o:=(.lst [v])) a5;generalize Y H8 lw _=H9 at s9 q9 ⊢;refine⟨_,U,AA,λS a4=>?_⟩;obtain⟨sa,qa⟩:=AH (o:=(.lst [])) a4;generalize Y H9 S _=Ha at sa qa ⊢;have ak:=(s8.trans s9).trans sa;have ts:TlS C Ha x lw R S rs5 [EA 0] (Us5.set L (Str.ofString "toss a",0)) []:=⟨[v],_,[],RA.same (s7.trans ak),GG,sa _ _ q9,.cons ((s9.trans sa).rd rv) .nil,λW hW=>(by rw[AR.mp hW];exact QE Ξ),by show 1<=300;decide,ak _ _ q7,a7.mono λv s _ ⟨c,e,r⟩=>⟨c,e,ak _ _ r⟩,qa,A2.nil,by rw[FU];exact be,by show 0<=100;decide⟩;refine⟨x,lw,R,S,rs5,_,_,_,2,U,ts,sO Ψ _,λl Hb sb eb=>?_⟩;refine⟨AA,λc nc=>?_⟩;refine⟨l,c,Ek 2,[false,false,true,false,true],U,U,(Same.new nc) _ _ eb,Ag,Fd _,Fd _,?_⟩;rw[show Ek 2=[false,false,true,false,true] by decide,LM];exact q _
 refine FO h3 ?_
 dsimp only
 refine⟨_,U,U,_,U,?_⟩
 by_cases h4:(wy:Int)=4
 ·refine FN h4 ?_;refine⟨AA,λt1 cm=>?_⟩;obtain⟨b4,av⟩:=AH (o:=(.tup (nm5.map V.str))) cm;generalize Y H5 t1 _=I1 at b4 av ⊢;refine⟨AA,λt2 ck=>?_⟩;obtain⟨bl,bi⟩:=AH (o:=(.tup [])) ck;generalize Y I1 t2 _=I2 at bl bi ⊢;refine⟨AA,λt3 bz=>?_⟩;obtain⟨b0,bc⟩:=AH (o:=(.tup [])) bz;generalize Y I2 t3 _=I3 at b0 bc ⊢;refine⟨AA,λt4 c6=>?_⟩;obtain⟨aq,bd⟩:=AH (o:=(.tup [])) c6;generalize Y I3 t4 _=I4 at aq bd ⊢;refine⟨AA,λt5 bx=>?_⟩;obtain⟨bg,ay⟩:=AH (o:=(.tup [.ref t1,.ref t2,.ref t3,.ref t4])) bx;generalize Y I4 t5 _=I5 at bg ay ⊢;refine⟨AA,λt6 cd=>?_⟩;obtain⟨au,ar⟩:=AH (o:=(.tup [.str (Str.ofString "open"),.str (Str.ofString "open"),.str (Str.ofString "open"),.str (Str.ofString "open")])) cd;generalize Y I5 t6 _=I6 at au ar ⊢;refine⟨AA,λt7 c7=>?_⟩;obtain⟨al,bj⟩:=AH (o:=(.tup [.non,.ref t5,.ref t6])) c7;generalize Y I6 t7 _=I7 at al bj ⊢;have b9:=au.trans al;have bm:=bg.trans b9;have bf:=aq.trans bm;have ax:=b0.trans bf;have b6:=bl.trans ax;have cg:=b4.trans b6;have ca:RdV I7 (.ref t7) (dW W6):=.tup bj (.cons .non (.cons (.tup (b9 _ _ ay) (.cons (.tup (b6 _ _ av) (KW nm5)) (.cons (.tup (ax _ _ bi) .nil) (.cons (.tup (bf _ _ bc) .nil) (.cons (.tup (bm _ _ bd) .nil) .nil))))) (.cons (.tup (al _ _ ar) (.cons (.str _) (.cons (.str _) (.cons (.str _) (.cons (.str _) .nil))))) .nil)));refine⟨U,λla I8 s8 e8=>?_⟩;refine⟨41,U,la,_,U,SqL.of e8,λlp c0=>?_⟩;obtain⟨I9,e9,s9,q9⟩:∃I9,Y I8 lp (.lst (BB ((E7 4).map V.str) none (some 41)))=I9/\Same I8 I9/\I9 lp=some (.lst (l41.map V.str)):=⟨_,U,Same.new c0,by rw[Ag];exact BQ (λz=>some (HO.lst z)) ((Oe _ 41).trans (Ep).symm)⟩;rw[e9];have ac:l41.length=41:=by decide +kernel
  refine⟨lp,U,⟨_,SqL.of q9⟩,λD3 as=>?_⟩;refine Co (n:=41) (λi I M=>A2 (By M) I ((l41.take i).map λs=>(s,1))/\Same I9 M/\M D3=some (.lst I)) ⟨A2.nil,Same.new as,Ag⟩ (λi I M hi ⟨_,s,_⟩=>⟨_,.str (l41[i]'Ψ),SqL.of (s _ _ q9),by rw[AQ,AJ Ψ];rfl⟩) (λI M co=>by obtain⟨_,s,_⟩:=co;exact⟨_,SqL.of (s _ _ q9),by rw[Ai,ac];exact An _⟩) ?_ ?_
  ·rintro i I J2 y M hi ⟨az,a0,a6⟩ ⟨rfl,hy⟩;refine Cn ?_;have aa:i<l41.length:=by lia
   have bv:y=.str l41[i]:=by have:=hy _ (SqL.of (a0 _ _ q9));rw[AQ,AJ aa]at this;(exact(BG this).symm)
   subst bv;refine⟨_,U,AA,λt nt=>?_⟩;have u3:Same M (Y M t (.tup [.str l41[i],.int 1])):=Same.new nt;have kp:∀c ws,(Y M t (.tup [.str l41[i],.int 1])) c=some (.tup ws)->(Y (Y M t (.tup [.str l41[i],.int 1])) D3 (.lst (I++[V.ref t]))) c=some (.tup ws):=λc ws e=>by rw[Af (A8 e (u3 _ _ a6) (by intro z;cases z))];exact e
   refine⟨I,u3 _ _ a6,by rw[az.len,Ai,Bh];lia,?_,(a0.trans u3).put as,Ag⟩;rw[BL aa,AW];exact A2.app (az.mono λv p _ ae=>by obtain⟨x,h1,h2⟩:=ae;exact⟨x,h1,kp _ _ (u3 _ _ h2)⟩) (A2.one ⟨t,U,kp _ _ Ag⟩)
  rintro I M ⟨az,a0,a6⟩;rw[Eo Ψ]at az;have cv:I.length=41:=by rw[az.len,Ai,ac]
  have cf:=(cg.trans s8).trans (s9.trans a0);refine⟨AA,λb1 c1=>?_⟩;obtain⟨ah,b8⟩:=AH (o:=(.lst [.str (Str.ofString "place d")])) c1;generalize Y M b1 _=J2 at ah b8 ⊢;have c8:=((ap.trans s5).trans (cf.trans ah)) _ _ q3;refine⟨_,U,b1,a3,_,_,U,U,b8,c8,by rw[Ai];show 1+8<=sizeLine;lia,λcl bu=>?_⟩;obtain⟨b3,ab⟩:=AH (o:=(.lst ([.str (Str.ofString "place d")]++(rs5.map Ro.txt).map V.str))) bu;generalize Y J2 cl _=J3 at b3 ab ⊢;replace ab:J3 cl=some (.lst ((rs6.map Ro.txt).map V.str)):=ab;intro y dy ny c2 cu;have aw:Same J3 (Y (Y J3 dy (.own y)) y (.ins C dy [])):=λb o e=>by rw[Af (Au e ny),Af (Au e c2)];exact e
  refine⟨y,dy,cl,rs6,U,Ag,aw _ _ ab,VQ,Δ,λJ4 c4 RB=>⟨U,?_⟩⟩;have bp:Same J3 J4:=λb o e=>c4 b o (aw _ _ e) (Au e ny);have cc:=(ah.trans b3).trans bp;refine⟨_,U,AA,λlw a5=>?_⟩;obtain⟨af,bb⟩:=AH (o:=(.lst [.ref t7])) a5;generalize Y J4 lw _=J5 at af bb ⊢;refine⟨_,U,AA,λS a4=>?_⟩;obtain⟨a9,bn⟩:=AH (o:=(.lst [])) a4;generalize Y J5 S _=J6 at a9 bn ⊢;have am:=cc.trans (af.trans a9);have ts:TlS C J6 y lw D3 S rs6 [W6] (l41.map λs=>(s,1)) []:=⟨[.ref t7],_,[],RB.same (af.trans a9),VQ,a9 _ _ bb,.cons (((s8.trans (s9.trans a0)).trans am).rd ca) .nil,λW hW=>(by rw[AR.mp hW];exact ZS),by show 1<=300;decide,am _ _ a6,az.mono λv s _ ⟨c,e,r⟩=>⟨c,e,am _ _ r⟩,bn,A2.nil,Ψ,by show 0<=100;decide⟩;refine⟨y,lw,D3,S,rs6,_,_,_,2,U,ts,sN _,λl Hb sb eb=>?_⟩;refine⟨AA,λc nc=>?_⟩;refine⟨l,c,Ek 2,[false,false,true,false,true],U,U,(Same.new nc) _ _ eb,Ag,Fd _,Fd _,?_⟩;rw[show Ek 2=[false,false,true,false,true] by decide,LM];exact q _
 refine FO h4 ?_
 dsimp only
 refine⟨_,U,0,U,Ξ,λv H8 s8 rv=>?_⟩
 refine⟨AA,λlw a5=>?_⟩
 obtain⟨s9,q9⟩:=AH (o:=(.lst [v])) a5
 generalize Y H8 lw _=H9 at s9 q9 ⊢
 refine⟨_,U,AA,λS a4=>?_⟩
 obtain⟨sa,qa⟩:=AH (o:=(.lst [])) a4
 generalize Y H9 S _=Ha at sa qa ⊢
 have aj:=(s8.trans s9).trans sa
 have ts:TlS C Ha x lw R S rs5 [EA 0] Us5 []:=⟨[v],_,[],R5.same aj,GG,sa _ _ q9,.cons ((s9.trans sa).rd rv) .nil,λW hW=>(by rw[AR.mp hW];exact QE Ξ),by show 1<=300;decide,aj _ _ e5,ad.upD.mono λv s _ ⟨c,e,r⟩=>⟨c,e,aj _ _ r⟩,qa,A2.nil,be,by show 0<=100;decide⟩
 refine⟨x,lw,R,S,rs5,_,_,_,3,U,ts,.b Ds5 iA (by rw[bQ];exact sL),λl Hb sb eb=>?_⟩
 refine⟨AA,λc nc=>?_⟩
 refine⟨l,c,Ek 3,[false,false,false,true,true],U,U,(Same.new nc) _ _ eb,Ag,Fd _,Fd _,?_⟩
 rw[show Ek 3=[false,false,false,true,true] by decide,LM]
 exact q _
def Io (s:Str×Int):Prop:=(s.2<1\/1000000000<s.2)/\s.2.natAbs.log2<1920
def S7 (rs:List Ro)(s:Str×Int):Prop:=∃l:LL,l.line=s.1/\Hd rs l/\∀W,Ce rs W->∀z,EJ rs l W=some z->z∈FH rs
def Mv (rs:List Ro)(s:Str×Int):Prop:=∃D:DL1,D.line=s.1/\FD rs D
structure SpI (rs:List Ro)(Ws0 Ws:List Wl)(Us Vs:List (Str×Int))(Du:List Int):Prop where
 ne:Us≠[]
 nv:Vs≠[]
 u:∀s∈Us,(Mv rs s\/s.1=Str.ofString "take")/\1<=s.1.length/\s.1.length<=30/\((1<=s.2/\s.2<=1000000000)\/Io s)
 v:∀s∈Vs,(S7 rs s\/s.1=Str.ofString "feel")/\Ec s
 d:∀x∈Du,x=0\/x=1\/x=2
 d0:0∈Du↔∃s∈Us,s.1=Str.ofString "take"
 d1:1∈Du↔∃s∈Vs,s.1=Str.ofString "feel"
 d2:2∈Du->Ws=[]\/¬((Us++Vs).map (·.1)).Nodup\/∃s∈Us,Io s
 w:Ws=[]\/Ws=Ws0
def mem_ins {a:Type}{l:List a}{k:Nat}{x y:a}:y∈l.take k++[x]++l.drop k↔y=x\/y∈l:=by
 rw[BF,BF,AR];constructor
 ·rintro((h | h) | h)
  ·exact .inr (Ih h)
  ·exact .inl h
  exact .inr (OR h)
 rintro(h | h)
 ·exact .inl (.inr h)
 rw[<- EO k l]at h;rcases(BF.mp h)with z | z
 ·exact .inl (.inl z)
 exact .inr z
def T1 {a:Type}(l:List a)(k:Nat)(x:a):List.Sublist l (l.take k++[x]++l.drop k):=by have h:List.Sublist (l.take k++l.drop k) (l.take k++[x]++l.drop k):=(List.sublist_append_left _ _).append (OJ _);rw[EO]at h;exact h
def mem_due :y∈Du++[x]↔y=x\/y∈Du:=by rw[BF,AR];exact Or.comm
def SpI.way0 (h:SpI rs Ws0 Ws Us Vs Du)(k:Nat):SpI rs Ws0 Ws (Us.take k++[(Str.ofString "take",1)]++Us.drop k) Vs (Du++[0]):=by
 refine⟨Θ,h.nv,λs a=>?_,h.v,λx b=>?_,⟨λ_=>⟨_,mem_ins.mpr (.inl U),U⟩,λ_=>mem_due.mpr (.inl U)⟩,?_,λb=>?_,h.w⟩
 ·rcases mem_ins.mp a with z | z
  ·rw[z];exact⟨.inr U,Δ,Δ,.inl ⟨Ξ,Ξ⟩⟩
  exact h.u s z
 ·rcases mem_due.mp b with z | z
  ·exact .inl z
  exact h.d x z
 ·rw[mem_due];exact⟨λz=>h.d1.mp (z.resolve_left Ξ),λz=>.inr (h.d1.mpr z)⟩
 rcases h.d2 ((mem_due.mp b).resolve_left Ξ)with z | z | ⟨s,a,z⟩
 ·exact .inl z
 ·exact .inr (.inl λnd=>z (nd.sublist (((T1 Us k _).append (OJ Vs)).map _)))
 exact .inr (.inr ⟨s,mem_ins.mpr (.inr a),z⟩)
def SpI.way1 (h:SpI rs Ws0 Ws Us Vs Du)(k:Nat):SpI rs Ws0 Ws Us (Vs.take k++[(Str.ofString "feel",1)]++Vs.drop k) (Du++[1]):=by
 refine⟨h.ne,Θ,h.u,λs b=>?_,λx a=>?_,?_,⟨λ_=>⟨_,mem_ins.mpr (.inl U),U⟩,λ_=>mem_due.mpr (.inl U)⟩,λa=>?_,h.w⟩
 ·rcases mem_ins.mp b with z | z
  ·rw[z];exact⟨.inr U,Δ,Δ,Ξ,Ξ⟩
  exact h.v s z
 ·rcases mem_due.mp a with z | z
  ·exact .inr (.inl z)
  exact h.d x z
 ·rw[mem_due];exact⟨λz=>h.d0.mp (z.resolve_left Ξ),λz=>.inr (h.d0.mpr z)⟩
 rcases h.d2 ((mem_due.mp a).resolve_left Ξ)with z | z | z
 ·exact .inl z
 ·exact .inr (.inl λnd=>z (nd.sublist (((OJ Us).append (T1 Vs k _)).map _)))
 exact .inr (.inr z)
def SpI.more (h:SpI rs Ws0 Ws Us Vs Du)(c:Us'≠[])(nv:Vs'≠[])(u:∀s∈Us',(Mv rs s\/s.1=Str.ofString "take")/\1<=s.1.length/\s.1.length<=30/\((1<=s.2/\s.2<=1000000000)\/Io s))(v:∀s∈Vs',s∈Vs)
  (b:(∃s∈Us,s.1=Str.ofString "take")↔∃s∈Us',s.1=Str.ofString "take")(a:(∃s∈Vs,s.1=Str.ofString "feel")↔∃s∈Vs',s.1=Str.ofString "feel")(d:Ws'=[]\/¬((Us'++Vs').map (·.1)).Nodup\/∃s∈Us',Io s)(w:Ws'=[]\/Ws'=Ws):SpI rs Ws0 Ws' Us' Vs' (Du++[2]):=by
 refine⟨c,nv,u,λs f=>h.v s (v s f),λx e=>?_,?_,?_,λ_=>d,?_⟩
 ·rcases mem_due.mp e with z | z
  ·exact .inr (.inr z)
  exact h.d x z
 ·rw[mem_due];exact⟨λz=>b.mp (h.d0.mp (z.resolve_left Ξ)),λz=>.inr (h.d0.mpr (b.mpr z))⟩
 ·rw[mem_due];exact⟨λz=>a.mp (h.d1.mp (z.resolve_left Ξ)),λz=>.inr (h.d1.mpr (a.mpr z))⟩
 rcases w with z | z
 ·exact .inl z
 rw[z]
 exact h.w
def SpI.way2 (h:SpI rs Ws0 Ws Us Vs Du):SpI rs Ws0 [] Us Vs (Du++[2]):=h.more h.ne h.nv h.u (λ_ z=>z) Iff.rfl Iff.rfl (.inl U) (.inl U)
def SpI.way3 (h:SpI rs Ws0 Ws Us Vs Du)(e:x∈Us):SpI rs Ws0 Ws (Us++[x]) Vs (Du++[2]):=by
 have m:∀s,s∈Us++[x]↔s∈Us:=λs=>by rw[BF,AR];exact⟨λz=>z.elim id λz=>by rw[z];exact e,.inl⟩
 refine h.more Θ h.nv (λs f=>h.u s ((m s).mp f)) (λ_ z=>z) ⟨λc=>by obtain⟨s,a,b⟩:=c;exact⟨s,(m s).mpr a,b⟩,λd=>by obtain⟨s,a,b⟩:=d;exact⟨s,(m s).mp a,b⟩⟩ Iff.rfl (.inr (.inl λnd=>?_)) (.inr U);rw[AW,AW]at nd;exact(Cr.mp (Cr.mp nd).1).2.2 x.1 (CQ e) x.1 (CQ (AR.mpr U)) U
def SpI.way4 (h:SpI rs Ws0 Ws Us Vs Du)(e:x∈Vs):SpI rs Ws0 Ws Us ([x]++Vs) (Du++[2]):=by
 have m:∀s,s∈[x]++Vs↔s∈Vs:=λs=>by rw[BF,AR];exact⟨λz=>z.elim (λz=>by rw[z];exact e) id,.inr⟩
 refine h.more h.ne Θ h.u (λs f=>(m s).mp f) Iff.rfl ⟨λc=>by obtain⟨s,a,b⟩:=c;exact⟨s,(m s).mpr a,b⟩,λd=>by obtain⟨s,a,b⟩:=d;exact⟨s,(m s).mp a,b⟩⟩ (.inr (.inl λnd=>?_)) (.inr U);rw[AW,AW]at nd;exact(Cr.mp (Cr.mp nd).2.1).2.2 x.1 (CQ (AR.mpr U)) x.1 (CQ e) U
def SpI.way5 (h:SpI rs Ws0 Ws (x::r) Vs Du)(d:Io (x.1,p)):SpI rs Ws0 Ws ([(x.1,p)]++r) Vs (Du++[2]):=by
 refine h.more Θ h.nv (λs f=>?_) (λ_ z=>z) ⟨λ⟨s,a,b⟩=>?_,λ⟨s,a,b⟩=>?_⟩ Iff.rfl (.inr (.inr ⟨_,A9,d⟩)) (.inr U)
 ·rcases(Az.mp f)with z | z
  ·have c:=h.u x A9;rw[z];refine⟨?_,c.2.1,c.2.2.1,.inr d⟩;rcases c.1 with⟨D,e,o⟩ | e
   ·exact .inl ⟨D,e,o⟩
   exact .inr e
  exact h.u s (AY _ z)
 ·rcases(Az.mp a)with z | z
  ·exact⟨_,A9,by rw[z]at b;exact b⟩
  exact⟨s,AY _ z,b⟩
 rcases(Az.mp a)with z | z
 ·exact⟨x,A9,by rw[z]at b;exact b⟩
 exact⟨s,AY _ z,b⟩
theorem Oc {c:Type}{p:c->Prop}[DecidablePred p]:∀{l:List c},(∃s∈l,p s)->∃(i:Nat) (x:c),l[i]? = some x/\p x/\∀(j:Nat) y,j<i->l[j]? = some y->¬p y
 | [],⟨s,h,_⟩=>by cases h
 | a::r,⟨s,h,hp⟩=>by
  by_cases b:p a
  ·exact⟨0,a,U,b,λj y d=>absurd d (RY _)⟩
  obtain⟨i,x,f,m,g⟩:=Oc ⟨s,(Az.mp h).resolve_left λz=>b (by rw[<- z];exact hp),hp⟩;refine⟨i+1,x,f,m,λj y d e=>?_⟩;cases j with
  | zero=>cases e;exact b
  | succ j=>exact g j y Ψ e
theorem QQ {g e:Type}{R:g->e->Prop}:∀{l:List g},(∀s∈l,∃b,R s b)->∃bs:List e,bs.length=l.length/\∀(i:Nat) s b,l[i]? = some s->bs[i]? = some b->R s b
 | [],_=>⟨[],U,λi s b h=>by cases h⟩
 | a::r,h=>by
  obtain⟨b,m⟩:=h a A9;obtain⟨bs,j,n⟩:=QQ λs d=>h s (AY _ d);refine⟨b::bs,by rw[Cy,Cy,j],λi s c d f=>?_⟩;cases i with
  | zero=>cases d;cases f;exact m
  | succ i=>exact n i s c d f
def XQ:Wx (Str.ofString "take"):=⟨Δ,Δ,Δ⟩
def XR:Wx (Str.ofString "feel"):=⟨Δ,Δ,Δ⟩
def SpI.bad (h:SpI rs Ws0 Ws Us Vs Du)(ne:Du≠[])(few:(ths rs).length<=3):∃i:Nat,BadF rs Ws Us Vs i/\i<3/\(i:Int)∈Du/\∀x∈Du,(i:Int)<=x:=by
 have up:∀x∈Du,(0:Int)<=x:=λx c=>by rcases h.d x c with e | e | e <;> lia
 by_cases v:(0:Int)∈Du
 ·obtain⟨i,x,n,E,u⟩:=Oc (h.d0.mp v);exact⟨0,.t 0 (.d i x ⟨n,by rw[E];exact XQ,λj y A g=>(let ⟨D,e,o⟩:=(h.u y (Br g)).1.resolve_right (u j y A g);⟨D,e,o.toMx⟩)⟩),Ξ,v,up⟩
 have P:∀s∈Us,Mv rs s:=λs a=>(h.u s a).1.resolve_right λz=>v (h.d0.mpr ⟨s,a,z⟩);have B:∀s∈Us,GdD rs s:=λs a=>let ⟨D,e,o⟩:=P s a;⟨D,e,o.toMx⟩;by_cases C:(1:Int)∈Du
 ·obtain⟨i,x,n,E,u⟩:=Oc (h.d1.mp C);refine⟨1,.t 1 (.l B i x ⟨n,by rw[E];exact XR,λj y A g=>?_⟩),Ξ,C,λx c=>?_⟩
  ·obtain⟨l,e,o,_⟩:=(h.v y (Br g)).1.resolve_right (u j y A g);exact⟨l,e,o⟩
  rcases h.d x c with e | e | e
  ·exact absurd (by rw[<- e];exact c) v
  ·exact Int.le_of_eq e.symm
  lia
 have R:∀s∈Vs,S7 rs s:=λs a=>(h.v s a).1.resolve_right λz=>C (h.d1.mpr ⟨s,a,z⟩);have G:∀s∈Vs,GdL rs s:=λs a=>by obtain⟨l,e,o,_⟩:=R s a;exact⟨l,e,o⟩
 have f:∀x∈Du,x=2:=λx c=>by
  rcases h.d x c with e | e | e
  ·exact absurd (by rw[<- e];exact c) v
  ·exact absurd (by rw[<- e];exact c) C
  exact e
 obtain⟨y,g⟩:=Xg _ ne;have N:(2:Int)∈Du:=by rw[<- f y g];exact g
 suffices hb:BadF rs Ws Us Vs 2 from ⟨2,hb,Ξ,N,λx c=>Int.le_of_eq (f x c).symm⟩;by_cases X:40<Us.length\/40<Vs.length
 ·exact .t 2 (.s B G (.inl X))
 by_cases nd:((Us++Vs).map (·.1)).Nodup;rotate_left
 ·exact .t 2 (.s B G (.inr ⟨Ψ,Ψ,.inl nd⟩))
 have dp:DecidablePred λs:Str×Int=>s.2<1\/1000000000<s.2:=λs=>inferInstance;by_cases F:∃s∈Us,s.2<1\/1000000000<s.2
 ·obtain⟨i,x,n,E,u⟩:=Oc F;have c:=h.u x (Br n);have m:=(Ay.mp n).1;have Q:Io x:=c.2.2.2.resolve_left λz=>by lia
  refine .t 2 (.s B G (.inr ⟨Ψ,Ψ,.inr ⟨nd,i,x,by rw[Da m];exact n,.pr c.2.1 c.2.2.1 Q.1 Q.2,λj s A a=>?_⟩⟩));rw[Da Ψ]at a;have w:=h.u s (Br a);have:=u j s A a;exact⟨w.2.1,w.2.2.1,Ψ,Ψ⟩
 have T:Ws=[]:=by
  rcases h.d2 N with z | z | ⟨s,a,z⟩
  ·exact z
  ·exact absurd nd z
  exact absurd ⟨s,a,z.1⟩ F
 have st:∀s∈Us,Ec s:=λs a=>by have M:=h.u s a;have:¬(s.2<1\/1000000000<s.2):=λz=>F ⟨s,a,z⟩;exact⟨M.2.1,M.2.2.1,Ψ,Ψ⟩
 obtain⟨Ds,dl,dr⟩:=QQ P;obtain⟨d,ll,L⟩:=QQ R
 have H:Us=(Ds.zip (Us.map (·.2))).map λq=>(q.1.line,q.2):=by
  refine R9 λi=>?_;cases e:Us[i]? with
  | none=>have:=LW.mp e;rw[LW.mpr];rw[Ai,OB,Ai];lia
  | some s=>have m:=(Ay.mp e).1;have p:Ds[i]? = some (Ds[i]'Ψ):=AJ Ψ;have K:(Ds.zip (Us.map (·.2)))[i]? = some (Ds[i]'Ψ,s.2):=LX.mpr ⟨p,by rw[AQ,e];rfl⟩;rw[AQ,K];have:=(dr i s _ e p).1;show some s=some (_,s.2);rw[this]
 have I:Vs=(d.zip (Vs.map (·.2))).map λq=>(q.1.line,q.2):=by
  refine R9 λi=>?_;cases e:Vs[i]? with
  | none=>have:=LW.mp e;rw[LW.mpr];rw[Ai,OB,Ai];lia
  | some s=>have m:=(Ay.mp e).1;have p:d[i]? = some (d[i]'Ψ):=AJ Ψ;have K:(d.zip (Vs.map (·.2)))[i]? = some (d[i]'Ψ,s.2):=LX.mpr ⟨p,by rw[AQ,e];rfl⟩;rw[AQ,K];have:=(L i s _ e p).1;show some s=some (_,s.2);rw[this]
 have S:∀q∈Ds.zip (Us.map (·.2)),(q.1.line,q.2)∈Us:=λq b=>by rw[H];exact Ba.mpr ⟨q,b,U⟩
 have mV:∀q∈d.zip (Vs.map (·.2)),(q.1.line,q.2)∈Vs:=λq b=>by rw[I];exact Ba.mpr ⟨q,b,U⟩
 have oU:∀q∈Ds.zip (Us.map (·.2)),FD rs q.1:=λq b=>by obtain⟨i,m⟩:=EL b;obtain⟨r,z2⟩:=LX.mp m;have hl:=(Ay.mp r).1;exact(dr i _ _ (AJ Ψ) r).2
 have oV:∀q∈d.zip (Vs.map (·.2)),Hd rs q.1/\∀W,Ce rs W->∀z,EJ rs q.1 W=some z->z∈FH rs:=λq b=>by obtain⟨i,m⟩:=EL b;obtain⟨r,z2⟩:=LX.mp m;have hl:=(Ay.mp r).1;exact(L i _ _ (AJ Ψ) r).2
 have nU:Us.map (·.1)=(Ds.zip (Us.map (·.2))).map λq=>q.1.line:=by
  conv=>lhs;rw[H]
  rw[BD];rfl
 have nV:Vs.map (·.1)=(d.zip (Vs.map (·.2))).map λq=>q.1.line:=by
  conv=>lhs;rw[I]
  rw[BD];rfl
 rw[AW,nU,nV]at nd;refine .z _ ⟨_,_,FH rs,H,I,{ ok:=oU,st:=λq b=>st _ (S q b),few:=by rw[OB,Ai];lia,nd:=(Cr.mp nd).1 },{ ok:=λq b=>(oV q b).1,st:=λq b=>(h.v _ (mV q b)).2,few:=by rw[OB,Ai];lia,nd:=nd },λq b=>(oV q b).2,?_,(JM _).1,U⟩ T;have:=(JM ("-" :: (ths rs).map (·.2))).2;rw[Cy,Ai]at this;unfold FH;lia
structure Mn (H:Hp)(t:Addr)(Ws:List Wl)(Us Vs:List (Str×Int))(Du:List Int):Prop where
 ex:∃(lw a b du:Addr) (us0 us us2:List V),H t=some (.tup [.ref lw,.ref a,.ref b,.ref du])/\H lw=some (.lst us0)/\RdVs H us0 (Ws.map dW)/\H a=some (.lst us)/\A2 (By H) us Us/\H b=some (.lst us2)/\A2 (By H) us2 Vs/\H du=some (.lst (Du.map V.int))/\Us.length<=20/\Vs.length<=20/\Du.length<=20
inductive Px (K:W.Frag)(vs:List V)(H:Hp)(Q:VK)(E0_:XK):Prop
 | mk (a t:Addr) (ns:List Int) (k:Int) (rs:List Ro) (Ws0 Ws:List Wl) (Us Vs:List (Str×Int)) (Du:List Int) (c0:vs=[.ref a,.int k,.ref t]) (c1:SqL K H a (ns.map V.int)) (c2:ns.length<=63) (c3:0<=k) (c4:k<9000) (c5:Mn H t Ws Us Vs Du) (c6:SpI rs Ws0 Ws Us Vs Du) (c7:Us.length<=10) (c8:Vs.length<=10) (c9:Du.length<=10) (c10:∀(t':Addr) (Ws':List Wl) (Us' Vs':List (Str×Int)) (Du':List Int) (H':Hp),Same H H'->Mn H' t' Ws' Us' Vs' Du'->SpI rs Ws0 Ws' Us' Vs' Du'->Du'≠[]->Us'.length<=Us.length+1->Vs'.length<=Vs.length+1->Du'.length<=Du.length+1->Q (.ref t') H'):Px K vs H Q E0_
def A2.tk {f:Type}{R:V->f->Prop}{us:List V}{d:List f}(h:A2 R us d)(k:Nat):A2 R (us.take k) (d.take k):=⟨by rw[Bh,Bh,h.len],λi v t a b=>by
 rw[List.getElem?_take]at a b;by_cases e:i<k
 ·rw[Ar e]at a b;obtain⟨s,c,_,r⟩:=h.at a;rw[b]at c;cases c;exact r
 rw[Ak e]at a;cases a⟩
def A2.dp {e:Type}{R:V->e->Prop}{us:List V}{b:List e}(h:A2 R us b)(k:Nat):A2 R (us.drop k) (b.drop k):=⟨by rw[Dq,Dq,h.len],λi v t c d=>by rw[Sh]at c d;obtain⟨s,a,_,r⟩:=h.at c;rw[d]at a;cases a;exact r⟩
def oA {P:Hp->Prop}{H:Hp}{l:Addr}{o:HO}(a:H l=none)(h:∀H',Same H H'->H' l=some o->P H'):P (Y H l o):=h _ (Same.new a) Ag
def Iz (hlw:H lw=some (.lst us0))(rd:RdVs H us0 (Ws.map dW))(ha:H a=some (.lst us))(au:A2 (By H) us Us)(hb:H b=some (.lst us2))(av:A2 (By H) us2 Vs)(n1:H l1=none)(n2:(Y H l1 (.lst [.int x])) l2=none)(n3:(Y (Y H l1 (.lst [.int x])) l2 (.lst (Du.map V.int++[.int x]))) t'=none)(fu:Us.length<=20)(fv:Vs.length<=20)(fd:Du.length<=19) :
  Mn (Y (Y (Y H l1 (.lst [.int x])) l2 (.lst (Du.map V.int++[.int x]))) t' (.tup [.ref lw,.ref a,.ref b,.ref l2])) t' Ws Us Vs (Du++[x])/\Same H (Y (Y (Y H l1 (.lst [.int x])) l2 (.lst (Du.map V.int++[.int x]))) t' (.tup [.ref lw,.ref a,.ref b,.ref l2])):=by
 have s:Same H (Y (Y (Y H l1 (.lst [.int x])) l2 (.lst (Du.map V.int++[.int x]))) t' (.tup [.ref lw,.ref a,.ref b,.ref l2])):=((Same.new n1).trans (Same.new n2)).trans (Same.new n3)
 have k:∀{v:V}{q:Str×Int},By H v q->By _ v q:=λ{v q} h=>by obtain⟨c,e,r⟩:=h;exact⟨c,e,s _ _ r⟩
 refine⟨⟨lw,a,b,l2,us0,us,us2,Ag,s _ _ hlw,s.rds rd,s _ _ ha,au.mono λv t _ r=>k r,s _ _ hb,av.mono λv t _ r=>k r,?_,fu,fv,by rw[AG];show _+1<=20;lia⟩,s⟩
 rw[AW]
 exact(Same.new n3) _ _ Ag
abbrev Lg:List Str:=["_law_script", "_law_k", "_law_told"]
abbrev jL:List Str:=Cj Lg ["_law_worlds", "_law_deeds", "_law_looks", "_law_due", "_law_way", "_law_at", "_law_price"]
def scLSpoilt:AI jL Lg (Aq Np):=AO
def dB (F:Fun K "_law_spoilt" "_law_spoilt" Np f fd)(T:Bl mg)(d:Ca P w K mg base CX0 1 "_law_pick" EW CO (FG K)):FnOk P w K mg base CX0 2 f fd Lg (Px K):=by
 refine F.oq scLSpoilt λcdv A outer s H vs Q E a5 h=>?_;obtain⟨a,t,ns,k,rs,ak,Ws,Us,Vs,Du,rfl,hS,hn,k0,k1,ts,sp,fu,fv,aj,q⟩:=h;have am:sizeLine=16777216:=AF;refine⟨_,(Ah (bB (pv 2) (Hu U (Dw (AS (i:=3) scLSpoilt.nd) (Dw (AS (i:=4) scLSpoilt.nd) (Dw (AS (i:=5) scLSpoilt.nd) (Dw (AS (i:=6) scLSpoilt.nd) Ht)))))) (Ah (AD (i:=7) scLSpoilt.nd (AN d a5 Ao (Aa (pv 0) (Aa (pv 1) (Aa Ae Ab))))) (Ah (AL (AM Bt (pv 7) Ae (AE _)) (Ah (AD (i:=8) scLSpoilt.nd (AN d a5 Ao (Aa (pv 0) (Aa (As Bq (pv 1) Ae) (Aa (As Bq (AX BI Φ T.len Bj (Aa (pv 4) Ab)) Ae) Ab))))) (Am (AC (Bm (Aa (pv 3) (Aa (As CU (As CU (DI Ew (pv 4) DH (DG (pv 8))) (AZ (Aa (Bm (Aa Aw (Aa Ae Ab))) Ab))) (DI Ew (pv 4) (DG (pv 8)) DH)) (Aa (pv 5) (Aa (As CU (pv 6) (AZ (Aa Ae Ab))) Ab)))))))) AK) (Ah (AL (AM Bt (pv 7) Ae (AE _)) (Ah (AD (i:=8) scLSpoilt.nd (AN d a5 Ao (Aa (pv 0) (Aa (As Bq (pv 1) Ae) (Aa (As Bq (AX BI Φ T.len Bj (Aa (pv 5) Ab)) Ae) Ab))))) (Am (AC (Bm (Aa (pv 3) (Aa (pv 4) (Aa (As CU (As CU (DI Ew (pv 5) DH (DG (pv 8))) (AZ (Aa (Bm (Aa Aw (Aa Ae Ab))) Ab))) (DI Ew (pv 5) (DG (pv 8)) DH)) (Aa (As CU (pv 6) (AZ (Aa Ae Ab))) Ab)))))))) AK) (Ah (AL (AM Bt (pv 7) Ae (AE _)) (Am (AC (Bm (Aa (AZ Ab) (Aa (pv 4) (Aa (pv 5) (Aa (As CU (pv 6) (AZ (Aa Ae Ab))) Ab))))))) AK) (Ah (AL (AM Bt (pv 7) Ae (AE _)) (Am (AC (Bm (Aa (pv 3) (Aa (As CU (pv 4) (AZ (Aa (Av Bb (pv 4) Ae (λ_ _=>U)) Ab))) (Aa (pv 5) (Aa (As CU (pv 6) (AZ (Aa Ae Ab))) Ab))))))) AK) (Ah (AL (AM Bt (pv 7) Ae (AE _)) (Am (AC (Bm (Aa (pv 3) (Aa (pv 4) (Aa (As CU (AZ (Aa (Av Bb (pv 5) Ae (λ_ _=>U)) Ab)) (pv 5)) (Aa (As CU (pv 6) (AZ (Aa Ae Ab))) Ab))))))) AK) (Ah (AD (i:=9) scLSpoilt.nd (Av Bb (AZ (Aa Ae (Aa (NP MD Ae) (Aa (As Bq (As NX Ae Ae) Ae) (Aa (As NX Ae Ae) Ab))))) (AN d a5 Ao (Aa (pv 0) (Aa (As Bq (pv 1) Ae) (Aa Ae Ab)))) (λ_ _=>U))) (Am (AC (Bm (Aa (pv 3) (Aa (As CU (AZ (Aa (Bm (Aa (Av Bu (Av Bb (pv 4) Ae (λ_ _=>U)) Ae (λ_ _=>U)) (Aa (pv 9) Ab))) Ab)) (DI Ew (pv 4) (DG Ae) DH)) (Aa (pv 5) (Aa (As CU (pv 6) (AZ (Aa Ae Ab))) Ab))))))))))))))),?_⟩;obtain⟨lw,da,lb,du,al,us,u,ht,X,rd,ha,au,hb,av,I,_,_,_⟩:=ts.ex;have ul:=au.len;have vl:=av.len;refine⟨_,U,t,_,U,SqT.of ht,U,_,_,U,_,_,U,_,_,U,_,_,U,U,?_⟩;refine⟨_,U,_,U,a,ns,_,_,U,hS,hn,Ψ,Ψ,Ξ,λj j0 j1=>?_⟩;refine⟨_,U,U,_,U,?_⟩;by_cases h0:j=0
 ·refine FN h0 ?_;refine⟨_,U,_,U,_,_,U,U,_,U,_,_,U,.inl ⟨_,SqL.of ha,U⟩,_,_,U,U,a,ns,_,_,U,hS,hn,Ψ,Ψ,Ψ,λi i0 i1=>?_⟩;obtain⟨m,rfl⟩:∃m:Nat,(m:Int)=i:=⟨i.toNat,Dr i0⟩;have hm:m<=us.length:=by lia
  refine⟨_,U,_,U,_,U,_,U,da,_,U,SqL.of ha,λp1 a8=>?_⟩;rw[Oe];obtain⟨n,z⟩:=AH (o:=(.lst (us.take m))) a8;generalize Y H p1 _=H1 at n z ⊢;refine⟨AA,λx a2=>?_⟩;obtain⟨s2,D⟩:=AH (o:=(.tup [.str (Str.ofString "take"),.int 1])) a2;generalize Y H1 x _=H2 at s2 D ⊢;refine⟨AA,λB N=>?_⟩;obtain⟨s3,q3⟩:=AH (o:=(.lst [.ref x])) N;generalize Y H2 B _=H3 at s3 q3 ⊢;refine⟨p1,B,_,_,U,U,(s2.trans s3) _ _ z,q3,by rw[Bh];show _+1<=sizeLine;lia,λp2 a7=>?_⟩;obtain⟨s4,q4⟩:=AH (o:=(.lst (us.take m++[.ref x]))) a7;generalize Y H3 p2 _=H4 at s4 q4 ⊢;have S:=((n.trans s2).trans s3).trans s4;refine⟨_,U,_,U,_,U,da,_,U,SqL.of (S _ _ ha),λp3 a1=>?_⟩;rw[LO hm];obtain⟨C,q5⟩:=AH (o:=(.lst (us.drop m))) a1;generalize Y H4 p3 _=H5 at C q5 ⊢;refine⟨p2,p3,_,_,U,U,C _ _ q4,q5,by rw[AG,Bh,Dq];show _+1+_<=sizeLine;lia,λp4 a0=>?_⟩;obtain⟨s6,q6⟩:=AH (o:=(.lst (us.take m++[.ref x]++us.drop m))) a0;generalize Y H5 p4 _=H6 at s6 q6 ⊢;have b:=S.trans (C.trans s6);refine⟨_,U,_,U,AA,λR y=>⟨du,R,_,_,U,U,(Same.new y) _ _ (b _ _ I),Ag,by rw[Ai];show _+1<=sizeLine;lia,λl2 n2=>⟨AA,λt' n3=>?_⟩⟩⟩;have k6:∀{v:V}{s:Str×Int},By H v s->By H6 v s:=λ⟨c,e,r⟩=>⟨c,e,b _ _ r⟩;have G:=au.mono λv t _ r=>k6 r;have a6:=av.mono λv t _ r=>k6 r;have L:By H6 (.ref x) (Str.ofString "take",1):=⟨x,U,(((s3.trans s4).trans C).trans s6) _ _ D⟩;have ln:∀{l:List (Str×Int)},(l.take m++[(Str.ofString "take",(1:Int))]++l.drop m).length=l.length+1:=λ{l}=>by rw[AG,AG,Bh,Dq];show _+1+_=_;lia
  obtain⟨W,M⟩:=Iz (b _ _ X) (b.rds rd) q6 (((G.tk m).app (A2.one L)).app (G.dp m)) (b _ _ hb) a6 y n2 n3 (by rw[ln];lia) Ψ Ψ;exact q t' _ _ _ _ _ (b.trans M) W (sp.way0 m) Θ (by rw[ln];exact An _) Ψ (by rw[AG];exact An _)
 refine FO h0 ?_;unfold Kv;dsimp only;refine⟨_,U,U,_,U,?_⟩;by_cases h1:j=1
 ·refine FN h1 ?_;refine⟨_,U,_,U,_,_,U,U,_,U,_,_,U,.inl ⟨_,SqL.of hb,U⟩,_,_,U,U,a,ns,_,_,U,hS,hn,Ψ,Ψ,Ψ,λi i0 i1=>?_⟩;obtain⟨m,rfl⟩:∃m:Nat,(m:Int)=i:=⟨i.toNat,Dr i0⟩;have hm:m<=u.length:=by lia
  refine⟨_,U,_,U,_,U,_,U,_,U,lb,_,U,SqL.of hb,λp1 a8=>?_⟩;rw[Oe];obtain⟨n,z⟩:=AH (o:=(.lst (u.take m))) a8;generalize Y H p1 _=H1 at n z ⊢;refine⟨AA,λx a2=>?_⟩;obtain⟨s2,D⟩:=AH (o:=(.tup [.str (Str.ofString "feel"),.int 1])) a2;generalize Y H1 x _=H2 at s2 D ⊢;refine⟨AA,λB N=>?_⟩;obtain⟨s3,q3⟩:=AH (o:=(.lst [.ref x])) N;generalize Y H2 B _=H3 at s3 q3 ⊢;refine⟨p1,B,_,_,U,U,(s2.trans s3) _ _ z,q3,by rw[Bh];show _+1<=sizeLine;lia,λp2 a7=>?_⟩;obtain⟨s4,q4⟩:=AH (o:=(.lst (u.take m++[.ref x]))) a7;generalize Y H3 p2 _=H4 at s4 q4 ⊢;have S:=((n.trans s2).trans s3).trans s4;refine⟨_,U,_,U,_,U,lb,_,U,SqL.of (S _ _ hb),λp3 a1=>?_⟩;rw[LO hm];obtain⟨C,q5⟩:=AH (o:=(.lst (u.drop m))) a1;generalize Y H4 p3 _=H5 at C q5 ⊢;refine⟨p2,p3,_,_,U,U,C _ _ q4,q5,by rw[AG,Bh,Dq];show _+1+_<=sizeLine;lia,λp4 a0=>?_⟩;obtain⟨s6,q6⟩:=AH (o:=(.lst (u.take m++[.ref x]++u.drop m))) a0;generalize Y H5 p4 _=H6 at s6 q6 ⊢;have b:=S.trans (C.trans s6);refine⟨_,U,AA,λR y=>⟨du,R,_,_,U,U,(Same.new y) _ _ (b _ _ I),Ag,by rw[Ai];show _+1<=sizeLine;lia,λl2 n2=>⟨AA,λt' n3=>?_⟩⟩⟩;have k6:∀{v:V}{s:Str×Int},By H v s->By H6 v s:=λ⟨c,e,r⟩=>⟨c,e,b _ _ r⟩;have G:=au.mono λv t _ r=>k6 r;have a6:=av.mono λv t _ r=>k6 r;have L:By H6 (.ref x) (Str.ofString "feel",1):=⟨x,U,(((s3.trans s4).trans C).trans s6) _ _ D⟩;have ln:∀{l:List (Str×Int)},(l.take m++[(Str.ofString "feel",(1:Int))]++l.drop m).length=l.length+1:=λ{l}=>by rw[AG,AG,Bh,Dq];show _+1+_=_;lia
  obtain⟨W,M⟩:=Iz (b _ _ X) (b.rds rd) (b _ _ ha) G q6 (((a6.tk m).app (A2.one L)).app (a6.dp m)) y n2 n3 Ψ (by rw[ln];lia) Ψ;exact q t' _ _ _ _ _ (b.trans M) W (sp.way1 m) Θ Ψ (by rw[ln];exact An _) (by rw[AG];exact An _)
 refine FO h1 ?_;dsimp only;refine⟨_,U,U,_,U,?_⟩;by_cases h2:j=2
 ·refine FN h2 ?_;refine⟨AA,λlz nz=>?_⟩;obtain⟨n,z⟩:=AH (o:=(.lst [])) nz;generalize Y H lz _=H1 at n z ⊢;refine⟨_,U,_,U,_,U,AA,λR y=>⟨du,R,_,_,U,U,(Same.new y) _ _ (n _ _ I),Ag,by rw[Ai];show _+1<=sizeLine;lia,λl2 n2=>⟨AA,λt' n3=>?_⟩⟩⟩;obtain⟨W,M⟩:=Iz (Ws:=[]) z .nil (n _ _ ha) (au.mono λv t _ ah=>by obtain⟨c,e,r⟩:=ah;exact⟨c,e,n _ _ r⟩) (n _ _ hb) (av.mono λv t _ ⟨c,e,r⟩=>⟨c,e,n _ _ r⟩) y n2 n3 Ψ Ψ Ψ;exact q t' _ _ _ _ _ (n.trans M) W sp.way2 Θ Ψ Ψ (by rw[AG];exact An _)
 refine FO h2 ?_;dsimp only;refine⟨_,U,U,_,U,?_⟩;obtain⟨u0,ur,a3⟩:∃u0 ur,Us=u0::ur:=Xm sp.ne;obtain⟨y0,yr,a9⟩:∃y0 yr,Vs=y0::yr:=Xm sp.nv;obtain⟨v0,af⟩:∃v0,us[0]? = some v0:=⟨us[0]'(by rw[ul,a3];simp),AJ _⟩;obtain⟨w0,ad⟩:∃w0,u[0]? = some w0:=⟨u[0]'(by rw[vl,a9];simp),AJ _⟩;have aa:By H v0 u0:=by obtain⟨s',a4,_,r⟩:=au.at af;rw[a3]at a4;cases a4;exact r
 have ai:By H w0 y0:=by obtain⟨s',a4,_,r⟩:=av.at ad;rw[a9]at a4;cases a4;exact r
 have Be:atI us ((0:Nat):Int)=some v0:=AB af;have ab:atI u ((0:Nat):Int)=some w0:=AB ad;by_cases h3:j=3
 ·refine FN h3 ?_;refine⟨_,U,_,U,_,U,da,_,_,_,U,U,SqL.of ha,Be,AA,λB nx=>?_⟩;obtain⟨n,z⟩:=AH (o:=(.lst [v0])) nx;generalize Y H B _=H1 at n z ⊢;refine⟨da,B,_,_,U,U,n _ _ ha,z,by show _+1<=sizeLine;lia,λly ny=>?_⟩;obtain⟨s2,D⟩:=AH (o:=(.lst (us++[v0]))) ny;generalize Y H1 ly _=H2 at s2 D ⊢;have g:=n.trans s2;refine⟨_,U,_,U,AA,λR y=>⟨du,R,_,_,U,U,(Same.new y) _ _ (g _ _ I),Ag,by rw[Ai];show _+1<=sizeLine;lia,λl2 n2=>⟨AA,λt' n3=>?_⟩⟩⟩;have k2:∀{v:V}{s:Str×Int},By H v s->By H2 v s:=λ⟨c,e,r⟩=>⟨c,e,g _ _ r⟩;obtain⟨W,M⟩:=Iz (g _ _ X) (g.rds rd) D ((au.mono λv t _ r=>k2 r).app (A2.one (k2 aa))) (g _ _ hb) (av.mono λv t _ r=>k2 r) y n2 n3 (by rw[AG];show _+1<=20;lia) Ψ Ψ;exact q t' _ _ _ _ _ (g.trans M) W (sp.way3 (by rw[a3];exact A9)) Θ (by rw[AG];exact An _) Ψ (by rw[AG];exact An _)
 refine FO h3 ?_;dsimp only;refine⟨_,U,U,_,U,?_⟩;by_cases h4:j=4
 ·refine FN h4 ?_;refine⟨_,U,_,U,_,U,lb,_,_,_,U,U,SqL.of hb,ab,AA,λB nx=>?_⟩;obtain⟨n,z⟩:=AH (o:=(.lst [w0])) nx;generalize Y H B _=H1 at n z ⊢;refine⟨_,U,B,lb,_,_,U,U,z,n _ _ hb,by show 1+_<=sizeLine;lia,λly ny=>?_⟩;obtain⟨s2,D⟩:=AH (o:=(.lst ([w0]++u))) ny;generalize Y H1 ly _=H2 at s2 D ⊢;have g:=n.trans s2;refine⟨_,U,AA,λR y=>⟨du,R,_,_,U,U,(Same.new y) _ _ (g _ _ I),Ag,by rw[Ai];show _+1<=sizeLine;lia,λl2 n2=>⟨AA,λt' n3=>?_⟩⟩⟩;have k2:∀{v:V}{s:Str×Int},By H v s->By H2 v s:=λ⟨c,e,r⟩=>⟨c,e,g _ _ r⟩;obtain⟨W,M⟩:=Iz (g _ _ X) (g.rds rd) (g _ _ ha) (au.mono λv t _ r=>k2 r) D ((A2.one (k2 ai)).app (av.mono λv t _ r=>k2 r)) y n2 n3 Ψ (by rw[AG];show 1+_<=20;lia) Ψ;exact q t' _ _ _ _ _ (g.trans M) W (sp.way4 (by rw[a9];exact A9)) Θ Ψ (by rw[AG,Nat.add_comm];exact An _) (by rw[AG];exact An _)
 refine FO h4 ?_;dsimp only;refine⟨_,U,_,_,U,U,⟨Ξ,Ξ,Ξ⟩,_,_,U,U,_,_,U,U,⟨Ξ,Ξ,Ξ⟩,AA,λlp np=>?_⟩;refine oA (P:=λHx=>MI _ _ _ _ _ Hx _) np λH1 n z=>?_;refine⟨_,U,_,U,_,_,U,U,a,ns,_,_,U,n.seq hS,hn,Ψ,Ψ,Ξ,λi i0 i1=>?_⟩;obtain⟨m,rfl⟩:∃m:Nat,(m:Int)=i:=⟨i.toNat,Dr i0⟩
 obtain⟨p,hp,ag⟩:∃p:Int,atI [V.int 0,V.int (-1),V.int (10^9+1),V.int (10^40)] (m:Int)=some (.int p)/\Io (u0.1,p):=by
  match m,(show m<4 by lia)with
  | 0,_=>exact⟨0,AB U,.inl (by show(0:Int)<1;decide),by show Nat.log2 0<1920;decide +kernel⟩
  | 1,_=>exact⟨-1,AB U,.inl (by show(-1:Int)<1;decide),by show Nat.log2 1<1920;decide +kernel⟩
  | 2,_=>exact⟨10^9+1,AB U,.inr (by show(1000000000:Int)<10^9+1;decide +kernel),by show Nat.log2 (Int.natAbs (10^9+1))<1920;decide +kernel⟩
  | 3,_=>exact⟨10^40,AB U,.inr (by show(1000000000:Int)<10^40;decide +kernel),by show Nat.log2 (Int.natAbs (10^40))<1920;decide +kernel⟩
 refine⟨lp,_,_,.int p,U,U,SqL.of z,hp,?_⟩;obtain⟨c,rfl,rc⟩:=aa;have ac:atI [V.str u0.1,V.int u0.2] ((0:Nat):Int)=some (.str u0.1):=AB U;refine⟨_,U,_,U,da,_,_,_,U,U,SqL.of (n _ _ ha),Be,c,_,_,_,U,U,SqT.of (n _ _ rc),ac,_,U,AA,λx a2=>?_⟩;obtain⟨s2,D⟩:=AH (o:=(.tup [.str u0.1,.int p])) a2;generalize Y H1 x _=H2 at s2 D ⊢;refine⟨AA,λB N=>?_⟩;obtain⟨s3,q3⟩:=AH (o:=(.lst [.ref x])) N;generalize Y H2 B _=H3 at s3 q3 ⊢;have ae:=(n.trans s2).trans s3;refine⟨_,U,_,U,da,_,U,SqL.of (ae _ _ ha),λp3 a1=>?_⟩;rw[show(1:Int)=((1:Nat):Int) from U,LO (by rw[ul,a3];simp)];obtain⟨C,q5⟩:=AH (o:=(.lst (us.drop 1))) a1;generalize Y H3 p3 _=H5 at C q5 ⊢;refine⟨B,p3,_,_,U,U,C _ _ q3,q5,by rw[Dq];show 1+_<=sizeLine;lia,λp4 a0=>?_⟩;obtain⟨s6,q6⟩:=AH (o:=(.lst ([.ref x]++us.drop 1))) a0;generalize Y H5 p4 _=H6 at s6 q6 ⊢;have b:=ae.trans (C.trans s6);refine⟨_,U,_,U,AA,λR y=>⟨du,R,_,_,U,U,(Same.new y) _ _ (b _ _ I),Ag,by rw[Ai];show _+1<=sizeLine;lia,λl2 n2=>⟨AA,λt' n3=>?_⟩⟩⟩;have k6:∀{v:V}{s:Str×Int},By H v s->By H6 v s:=λ⟨c,e,r⟩=>⟨c,e,b _ _ r⟩;have G:=au.mono λv t _ r=>k6 r;have L:By H6 (.ref x) (u0.1,p):=⟨x,U,((s3.trans C).trans s6) _ _ D⟩;subst a3;obtain⟨W,M⟩:=Iz (Us:=[(u0.1,p)]++ur) (b _ _ X) (b.rds rd) q6 ((A2.one L).app (G.dp 1)) (b _ _ hb) (av.mono λv t _ r=>k6 r) y n2 n3 (by rw[AG];rw[Cy]at fu;show 1+_<=20;lia) Ψ Ψ;exact q t' _ _ _ _ _ (b.trans M) W (sp.way5 ag) Θ Θ Ψ (by rw[AG];exact An _)
section
variable {X:Cx}
theorem VI:∀{ns:List Int}{us:List Value},Vals (ns.map V.int) us->IntsAre us ns
 | [],_,r=>by cases r;exact .nil
 | n::ns,_,r=>by
  cases r with
  | cons h r=>obtain⟨t,rfl⟩:=h;exact .cons n t (VI r)
def rW (A:X.calm=true):Cs X (.builtin "min") (λxs H Q=>∃(p:Addr) (ns:List Int),xs=[.ref p]/\SqL X.K H p (ns.map V.int)/\0<ns.length/\∀M,M∈ns->(∀a,a∈ns->M<=a)->Q (.int M) H):=by
 rintro g s C H xs us Q I r⟨p,ns,rfl,z,c,q⟩;obtain⟨u,rfl,x⟩:=CM r;cases x;obtain⟨l,n,w,E⟩:=I.list z;have d:=VI n;obtain⟨ys,e⟩:=d.allInts.items;have b:ns=ys.toList.map (·.1):=by (rw[<- d.numsOf,<- nums_intItems,<- e])
 have hsz:0<ys.size:=by (have h:=c;rw[b,Ai,DF]at h;exact h)
 have i:=w.isList;rw[e]at i;refine min_intList (I.ok.hd A) i hsz λv h' tk o y=>?_;(obtain⟨t,rfl⟩:=intItems_at o);obtain⟨D,m⟩:=argBest_lt (numAt ys) (ys.size-1);refine⟨.int _,H,I.kept y,⟨t,U⟩,q _ ?_ λa f=>?_⟩
 ·rw[b,(numAt_eq)];exact getD_mem (by rw[Ai,DF];lia)
 rw[b]at f;(obtain⟨j,B,rfl⟩:=mem_getD f);(rw[Ai,DF]at B);(rw[<- numAt_eq];exact m j Ψ)
def sH:bootBuiltins "min" = some (.builtin "min"):=by decide +kernel
end
def X8 {c:Type}{l:List c}(h:2<=l.length):∃a b r,l=a::b::r:=by
 cases l with
 | nil=>exact absurd h Θ
 | cons a l=>
  cases l with
  | nil=>exact absurd h Θ
  | cons b r=>exact⟨a,b,r,U⟩
def rN:∀i:Nat,i<3->[V.bl (decide (V.int (i:Int)=V.int 0)),V.bl (decide (V.int (i:Int)=V.int 1)),V.bl (decide (V.int (i:Int)=V.int 2)),V.bl false,V.bl true]=(Ek i).map V.bl:=by decide
def dl1 (w' w:Str)(i:Nat)(p:Bo):DL1:=⟨w'++p.1,w,i,i,p,p⟩
def JK {w:Str} (g:Good rs)(a:(plc rs)[i]? = some p)(h:w'=w++blank)(b:w∈Lx/\w∈IH)(d:¬w = "tip")(f:32∉cs w)(j:w'.length<=5):FD rs (dl1 w' w i p):=by
 have nv:=FQ g (EF (HN a));refine⟨⟨?_,?_,a,a,λz=>absurd z d,b.1⟩,b.2⟩
 ·show Wd (w'++p.1) (FF w p.1 p.1);unfold FF;rw[Ak d];refine⟨by rw[h];rfl,Θ,λx c=>?_⟩;(simp only[Az,Bw,Bv]at c);rcases c with e | e
  ·rw[e];exact f
  rw[e];exact λz=>by have:=nv.low _ z;lia
 show(w'++p.1).length<=1000;rw[Cm];have:=nv.len;lia
def D3 (P0 P1:Bo):List DL1:=[dl1 "take " "take" 0 P0,dl1 "open " "open" 1 P1,dl1 "shut " "shut" 1 P1]
def Us3 (P0 P1:Bo):List (Str×Int):=[(Str.ofString "take " ++ P0.1,3),(Str.ofString "open " ++ P1.1,10^9),(Str.ofString "shut " ++ P1.1,1)]
def Ku (p:Bo):LL:=⟨Str.ofString "try " ++ p.1, "try",0,p, "try",p.1⟩
def Vs2 (P0:Bo):List (Str×Int):=[(Str.ofString "feel hand",2),(Str.ofString "try " ++ P0.1,1)]
def Tn (h:(plc rs)[0]? = some p):Hd rs (Ku p):=⟨by show Str.ofString "try " ++ p.1=Str.ofString "try" ++ blank++p.1;rw[show Str.ofString "try " = Str.ofString "try" ++ blank by decide +kernel],.inr ⟨by show Str.ofString "try" ∈ wordsS;decide +kernel,U,U⟩,h⟩
def To (a:p.2.1=false):EJ rs (Ku p) W=none:=by
 unfold EJ Ku GJ;dsimp only;(rw[Ak Δ]);by_cases h:W.hand.isSome=true
 ·rw[Ar h]
 rw[Ak h,Ar rfl];unfold Iv;rw[a];rfl
def lM (p q:Str):([Str.ofString "take " ++ p,Str.ofString "open " ++ q,Str.ofString "shut " ++ q,Str.ofString "feel hand",Str.ofString "try " ++ p]:List Str).Nodup:=by
 have h:([Str.ofString "take " ++ p,Str.ofString "open " ++ q,Str.ofString "shut " ++ q,Str.ofString "feel hand",Str.ofString "try " ++ p].map λs=>(cs s).take 2)=[[116,97],[111,112],[115,104],[102,101],[116,114]]:=by simp only[Bg,Eb,BN];rw[show cs (Str.ofString "take ")=[116,97,107,101,32] by decide +kernel,show cs (Str.ofString "open ")=[111,112,101,110,32] by decide +kernel,show cs (Str.ofString "shut ")=[115,104,117,116,32] by decide +kernel,show cs (Str.ofString "try ")=[116,114,121,32] by decide +kernel,show cs (Str.ofString "feel hand")=[102,101,101,108,32,104,97,110,100] by decide +kernel];rfl
 refine Su (S:=λa b=>a≠b) (λs:Str=>(cs s).take 2) (λa b h e=>h (by rw[e])) ?_;rw[h];decide
def Tj (g:Good rs)(b:plc rs=P0::P1::Pr):∀s∈Us3 P0 P1,(Mv rs s/\Ec s)/\5<=s.1.length:=by
 have c:(plc rs)[0]? = some P0:=by rw[b];rfl
 have a:(plc rs)[1]? = some P1:=by rw[b];rfl
 have h:=FQ g (EF (HN c));have f:=FQ g (EF (HN a));have j:=h.len;have m:=f.len;have n:(Str.ofString "take ").length=5:=by decide +kernel
 have l:(Str.ofString "open ").length=5:=by decide +kernel
 have i:(Str.ofString "shut ").length=5:=by decide +kernel
 intro s d;simp only[Us3,Az,Bw,Bv]at d;rcases d with e | e | e
 ·subst e;exact⟨⟨⟨dl1 "take " "take" 0 P0,U,JK g c Δ Δ Δ Δ Δ⟩,by rw[Cm];lia,by rw[Cm];lia,by show(1:Int)<=3;decide,by show(3:Int)<=1000000000;decide⟩,by rw[Cm];lia⟩
 ·subst e;exact⟨⟨⟨dl1 "open " "open" 1 P1,U,JK g a Δ Δ Δ Δ Δ⟩,by rw[Cm];lia,by rw[Cm];lia,by show(1:Int)<=10^9;decide,by show(10^9:Int)<=1000000000;decide⟩,by rw[Cm];lia⟩
 subst e;exact⟨⟨⟨dl1 "shut " "shut" 1 P1,U,JK g a Δ Δ Δ Δ Δ⟩,by rw[Cm];lia,by rw[Cm];lia,by show(1:Int)<=1;decide,by show(1:Int)<=1000000000;decide⟩,by rw[Cm];lia⟩
def V5 (g:Good rs)(a:plc rs=P0::Pr):P0.2.1=false:=by obtain⟨n,t,e⟩:=g.first;rw[a]at e;cases e;rfl
def Tb (g:Good rs)(b:plc rs=P0::Pr):∀s∈Vs2 P0,(S7 rs s/\Ec s)/\¬s.1=Str.ofString "feel" := by
 have a:(plc rs)[0]? = some P0:=by rw[b];rfl
 have c:=FQ g (EF (HN a));have h:=c.len;have i:=c.pos;have j:(Str.ofString "try ").length=4:=by decide +kernel
 have f:(Str.ofString "feel").length=4:=by decide +kernel
 intro s d;simp only[Vs2,Az,Bw,Bv]at d;rcases d with e | e
 ·subst e;exact⟨⟨⟨JI P0,U,Rn a,λW _ z e=>Rq e⟩,Δ,Δ,Ξ,Ξ⟩,Δ⟩
 subst e;refine⟨⟨⟨Ku P0,U,Tn a,λW _ z e=>?_⟩,by rw[Cm];lia,by rw[Cm];lia,by show(1:Int)<=1;decide,by show(1:Int)<=1000000000;decide⟩,λe=>?_⟩
 ·rw[To (V5 g b)]at e;cases e
 have:=BQ Str.length e;rw[Cm]at this;lia
def YY (g:Good rs)(i:plc rs=P0::P1::Pr){k:Nat}(m:1<=k):SpI rs Ws Ws ((Us3 P0 P1).take k) (Vs2 P0) []:=by
 have j:∀s∈(Us3 P0 P1).take k,(Mv rs s/\Ec s)/\5<=s.1.length:=λs d=>Tj g i s (Ih d);have f:=Tb g i;have bt:(Str.ofString "take").length=4:=by decide +kernel
 refine⟨λe=>?_,by unfold Vs2;simp,λs d=>?_,λs d=>⟨.inl (f s d).1.1,(f s d).1.2⟩,λx l=>(by cases l),⟨λh=>(by cases h),λ⟨s,d,e⟩=>?_⟩,⟨λh=>(by cases h),λ⟨s,d,e⟩=>absurd e (f s d).2⟩,λh=>(by cases h),.inr U⟩
 ·have:=BQ List.length e;rw[Bh]at this;simp[Us3]at this;lia
 ·obtain⟨⟨a,b⟩,c⟩:=j s d;exact⟨.inl a,b.n1,b.n2,.inl ⟨b.p1,b.p2⟩⟩
 have:=(j s d).2;rw[e]at this;lia
def iB (g:Good rs)(b:plc rs=P0::P1::Pr)(few:(ths rs).length<=3):OkT rs (Us3 P0 P1) (Vs2 P0) (D3 P0 P1):=by
 have c:(plc rs)[0]? = some P0:=by rw[b];rfl
 have d:(plc rs)[1]? = some P1:=by rw[b];rfl
 have i:=Tj g b;have h:=Tb g b;have nd:=lM P0.1 P1.1;refine⟨[(dl1 "take " "take" 0 P0,3),(dl1 "open " "open" 1 P1,10^9),(dl1 "shut " "shut" 1 P1,1)],[(JI P0,2),(Ku P0,1)],FH rs,U,U,{ ok:=λq a=>?_,st:=λq a=>(i _ (CQ (f:=λq:DL1×Int=>(q.1.line,q.2)) a)).1.2,few:=by show 3<=40;decide,nd:=(Cr.mp (show([Str.ofString "take " ++ P0.1,Str.ofString "open " ++ P1.1,Str.ofString "shut " ++ P1.1]++[Str.ofString "feel hand",Str.ofString "try " ++ P0.1]:List Str).Nodup from nd)).1 },{ ok:=λq a=>?_,st:=λq a=>(h _ (CQ (f:=λq:LL×Int=>(q.1.line,q.2)) a)).1.2,few:=by show 2<=40;decide,nd:=nd },λq a W j s e=>?_,?_,(JM _).1,U⟩
 ·simp only[Az,Bw,Bv]at a;rcases a with e | e | e
  ·rw[e];exact JK g c Δ Δ Δ Δ Δ
  ·rw[e];exact JK g d Δ Δ Δ Δ Δ
  rw[e];exact JK g d Δ Δ Δ Δ Δ
 ·simp only[Az,Bw,Bv]at a;rcases a with e | e
  ·rw[e];exact Rn c
  rw[e];exact Tn c
 ·simp only[Az,Bw,Bv]at a;rcases a with z | z
  ·rw[z]at e;exact Rq e
  rw[z]at e;rw[To (V5 g b)]at e;cases e
 have:=(JM ("-" :: (ths rs).map (·.2))).2;rw[Cy,Ai]at this;unfold FH;lia
def Pk (W:Wl):Wl:=⟨(W.heaps.getD 0 []).getLast?,W.heaps.set 0 (W.heaps.getD 0 []).dropLast,W.lids⟩
def GD (W:Wl)(ls:List Str):Wl:=⟨W.hand,W.heaps,ls⟩
def six (W:Wl):List Wl:=[W,Pk W].flatMap λZ=>[GD Z W.lids,GD Z (W.lids.set 1 "open"),GD Z (W.lids.set 1 "shut")]
def six_mem :Z∈six W↔(∃B,(B=W\/B=Pk W)/\∃b,(b=W.lids\/b=W.lids.set 1 "open" \/ b=W.lids.set 1 "shut")/\Z=GD B b):=by
 unfold six;simp only[OF,Az,Bw,Bv];constructor
 ·rintro⟨B,a,h | h | h⟩
  ·exact⟨B,a,_,.inl U,h⟩
  ·exact⟨B,a,_,.inr (.inl U),h⟩
  exact⟨B,a,_,.inr (.inr U),h⟩
 rintro⟨B,a,b,h | h | h,e⟩
 ·exact⟨B,a,.inl (by rw[e,h])⟩
 ·exact⟨B,a,.inr (.inl (by rw[e,h]))⟩
 exact⟨B,a,.inr (.inr (by rw[e,h]))⟩
def Zh (l:List (List Str))(x:List Str)(h:l.getD 0 []=[]):(l.set 0 x).getD 0 []=x\/(l.set 0 x).getD 0 []=[]:=by
 cases l with
 | nil=>exact .inr U
 | cons a r=>exact .inl U
def Yg (h:W∈Cf (dl1 "take " "take" 0 p) Z):Z.hand=none/\Z.heaps.getD 0 []≠[]/\W=⟨(Z.heaps.getD 0 []).getLast?,Z.heaps.set 0 (Z.heaps.getD 0 []).dropLast,Z.lids⟩:=by
 have e:Cf (dl1 "take " "take" 0 p) Z=Eu Z 0 (Z.heaps.getD 0 []) (Z.lids.getD 0 Str.empty):=by unfold Cf dl1 GC;dsimp only;(rw[Ak Δ]);unfold Jw;rw[Ar rfl]
 rw[e]at h;unfold Eu at h;by_cases c:Z.hand=none/\Z.lids.getD 0 Str.empty = "open" /\ Z.heaps.getD 0 []≠[]
 ·rw[Ar c]at h;exact⟨c.1,c.2.2,AR.mp h⟩
 rw[Ak c]at h;cases h
def TB {p:Bo}{b w:Str}{a W:Wl}(c:w∈EG)(h:W∈Cf (dl1 b w 1 p) a):W=GD a (a.lids.set 1 (GO w)):=by
 have e:Cf (dl1 b w 1 p) a=Fo w p a 1 (a.lids.getD 1 Str.empty):=by unfold Cf dl1 GC;rw[Ar c]
 rw[e]at h;unfold Fo at h;split at h
 ·exact AR.mp h
 cases h
def Za (m:Z∈six W) (hD:D∈D3 P0 P1)(h:X∈Cf D Z):X∈six W:=by
 obtain⟨B,d,c,f,rfl⟩:=six_mem.mp m;simp only[D3,Az,Bw,Bv]at hD
 have b:∀x:Str,(x = "open" \/ x = "shut")->GD (GD B c) ((GD B c).lids.set 1 x)∈six W:=λx l=>by
  refine six_mem.mpr ⟨B,d,W.lids.set 1 x,.inr ?_,?_⟩
  ·rcases l with e | e
   ·exact .inl (by rw[e])
   exact .inr (by rw[e])
  show Wl.mk B.hand B.heaps (c.set 1 x)=Wl.mk B.hand B.heaps (W.lids.set 1 x);rcases f with e | e | e
  ·rw[e]
  ·rw[e,List.set_set]
  rw[e,List.set_set]
 rcases hD with e | e | e
 ·subst e;obtain⟨g,j,i⟩:=Yg h;subst i;rcases d with e | e
  ·subst e;exact six_mem.mpr ⟨Pk B,.inr U,c,f,U⟩
  exfalso;subst e;have a:(W.heaps.getD 0 []).getLast? = none:=g;rw[O1]at a;refine j ?_;show(W.heaps.set 0 (W.heaps.getD 0 []).dropLast).getD 0 []=[];rcases Zh W.heaps (W.heaps.getD 0 []).dropLast a with z | z
  ·rw[z,a];rfl
  exact z
 ·subst e;rw[TB Δ h];exact b _ (.inl Δ)
 subst e;rw[TB Δ h];exact b _ (.inr Δ)
def sM (h:Ws.length<=10):Bd Ws (D3 P0 P1):=by
 refine⟨Ws.flatMap six,?_,λW c=>OF.mpr ⟨W,c,six_mem.mpr ⟨W,.inl U,_,.inl U,U⟩⟩,λb d D hD X e=>?_⟩
 ·have:∀l:List Wl,(l.flatMap six).length=6*l.length:=λl=>by
   induction l with
   | nil=>rfl
   | cons a r ih=>rw[List.flatMap_cons,AG,ih,Cy];show 6+_=_;lia
  rw[this];lia
 obtain⟨W,c,d⟩:=OF.mp d;exact OF.mpr ⟨W,c,Za d hD e⟩
def NA.fst (a:NA rs (W::Ws) Ds n L):∃t,L=W::t:=by
 obtain⟨t,e⟩:=a.pre;obtain⟨u,b⟩:=RU [W] Ws;have c:BC [] (W::Ws)=BC [W] Ws:=by show BC (if W∈[]then []else []++[W]) Ws=_;rw[Ak Θ];rfl
 exact⟨u++t,by rw[e,c,b];rfl⟩
def tK (e:H t1=some (.tup [.str a.1,.int a.2]))(d:H t2=some (.tup [.str b.1,.int b.2]))(f:H t3=some (.tup [.str c.1,.int c.2])):A2 (By H) [.ref t1,.ref t2,.ref t3] [a,b,c]:=((A2.one ⟨t1,U,e⟩).app (A2.one ⟨t2,U,d⟩)).app (A2.one ⟨t3,U,f⟩)
def tJ (d:H t1=some (.tup [.str a.1,.int a.2]))(c:H t2=some (.tup [.str b.1,.int b.2])):A2 (By H) [.ref t1,.ref t2] [a,b]:=(A2.one ⟨t1,U,d⟩).app (A2.one ⟨t2,U,c⟩)
abbrev JO (l:List Addr)(i:Nat):Addr:=l.getD i 0
def Q7 (K:W.Frag)(D:Addr):Bool:=decide (PySem.W.findIn K (.ref D) "__getattribute__" = some (some (.builtin "BaseException.__getattribute__"))) && decide (PySem.W.findIn K (.ref D) "__getattr__" = some none) && decide (PySem.W.subIn K (.ref D) (.type "BaseException")=some true) && decide (PySem.W.findIn K (.ref D) "__class__" = some (some (.builtin "object.__class__"))) && decide (PySem.W.specialIn K (.builtin "object.__class__") "__get__" = some (some (.builtin "getset_descriptor.__get__"))) && decide (PySem.W.takesIn K (.builtin "object.__class__")=some true) && decide (PySem.W.mroIn K D (.type "object")=some true) && (PySem.W.clsIn K D).isSome
def iJ (h:Q7 K D=true):Ip K D:=by unfold Q7 at h;simp[BV,Kh]at h;obtain⟨⟨⟨⟨⟨⟨⟨a,e⟩,i⟩,g⟩,c⟩,f⟩,d⟩,b⟩:=h;exact⟨a,e,i,g,c,f,d,b⟩
def Vu (K:W.Frag)(l:List Addr):Bool:=(List.range 4).all λi=>Q7 K (JO l i) && (List.range 4).all λk=>decide (i=k) || PySem.W.kin_not K (JO l i) (JO l k)
def mJ (m:mg "GropeError" = some (.ref G))(l:PySem.W.excIn K G El "ValueError.__new__" = true)(e:Xk K mg G x0 "NoDeed")(g:Xk K mg G x1 "NoLook")(f:Xk K mg G x2 "NoChart")(c:Xk K mg G x3 "TooMany")(o:Vu K [x0,x1,x2,x3]=true):Kn K mg G (JO [x0,x1,x2,x3]):=by
 have b:=λi (a:i<4)=>(BV _ _).mp (DB.mp o i (Do.mpr a));refine⟨m,l,λk x h=>?_,λi a=>?_,λi a=>?_,λi a=>iJ (b i a).1,λi a k j d=>?_⟩
 ·match k,h with
  | 0,h=>cases h;exact e.mN
  | 1,h=>cases h;exact g.mN
  | 2,h=>cases h;exact f.mN
  | 3,h=>cases h;exact c.mN
  | n+4,h=>cases h
 ·match i,a with
  | 0,_=>exact e.oN
  | 1,_=>exact g.oN
  | 2,_=>exact f.oN
  | 3,_=>exact c.oN
  | n+4,h=>exact absurd h Ψ
 ·match i,a with
  | 0,_=>exact e.sub
  | 1,_=>exact g.sub
  | 2,_=>exact f.sub
  | 3,_=>exact c.sub
  | n+4,h=>exact absurd h Ψ
 have:=DB.mp (b i a).2 k (Do.mpr j);rw[R0]at this;rcases this with z | z
 ·exact absurd (Bf z) d
 exact z
def fM {f C CT fI fT fw:Addr}{ad:Nat->Addr}{fd dI dT dw:FuncData}(F:Fun K "law" "law" Hl f fd)(T:Bl mg)(LT:My K CT)(MR:L2.Mk K C fI)(mR:mg "Room" = some (.ref C))(bR:Binds K dI ["self", "lines"] [])(cq:FnOk P w K mg base CX0 4 fI dI ["self", "lines"] (MZ C))(MT:L2.Mk K CT fT)(mT:mg "Atlas" = some (.ref CT))(bT:Binds K dT Fj [])(cm:FnOk P w K mg base (CXe P w) 10 fT dT Fj (IF C CT ad))(a9:Binds K dw ["self"] [])(a8:Dv K CT "worlds" fw)(ab:FnOk P w K mg base CX0 1 fw dw ["self"] (ML C CT))
  (y:Ca P w K mg base CX0 1 "_law_pick" EW CO (FG K))(a5:Ca P w K mg base CX0 14 "_law_great" Fe Lh (Qa K))(aa:Ca P w K mg base CX0 3 "_law_room" Gg QX (Pz K))(a4:Ca P w K mg base CX0 2 "_law_world" IJ QW (Pv K))(I:Ca P w K mg base CX0 2 "_law_spoilt" Np Lg (Px K))(a3:Ca P w K mg base CX0 12 "_law_caught" IP HG (KC C)):FnOk P w K mg base CX0 15 f fd QY (MX K):=by
 refine F.oq scLaw λcdv A outer s H vs Q E G h=>?_
 obtain⟨a,ns,rfl,hS,hn,q⟩:=h
 have ba:Room 12 _:=G.mono Ξ
 have bm:Room 11 _:=G.mono Ξ
 have cz:Room 5 _:=G.mono Ξ
 have c9:Room 3 _:=G.mono Ξ
 have ap:Room 2 _:=G.mono Ξ
 have a6:Room 1 _:=G.mono Ξ
 have bd:=G.units
 have hu:=Cz G
 have dj:sizeLine=16777216:=AF
 refine⟨_,(Ah (AL (AM Bt (AN y a6 Ao (Aa (pv 0) (Aa Ae (Aa Ae Ab)))) Ae (AE _)) (Am (AC (AN a5 G Ao (Aa (pv 0) Ab)))) AK) (Ah (Gq (i:=1) scLaw.nd U (E9 U) (AN aa c9 Ao (Aa (pv 0) (Aa (As Bq Ae (AN y a6 Ao (Aa (pv 0) (Aa Ae (Aa Ae Ab))))) (Aa (As Bq Ae (AN y a6 Ao (Aa (pv 0) (Aa Ae (Aa Ae Ab))))) Ab))))) (Ah (AD (i:=2) scLaw.nd (Hw MR cq cz Φ mR bR .nil Ao (Aa (BK DQ Φ T.list Dh (Aa (CS hu (pv 1) Aw (λ_ _=>U)) Ab)) Ab))) (Ah (Ez (i:=3) (N:=["_law_k", "_law_script", "_law_drawn"]) (sc:=Aq Hl) (own:=["_law_k"]) (fr:=["_law_script", "_law_drawn"]) (js:=[0,1]) scLaw.nd U U B0 U (EB Φ T.range (Aa (As Bq Ae (AN y a6 Ao (Aa (pv 0) (Aa Ae (Aa Ae Ab))))) Ab)) (λ_ _ _ _=>AS (i:=0) (show List.Nodup (["_law_k", "_law_script", "_law_drawn"]:List Str) by decide +kernel)) (λ_ _ _ _=>Ck) (λ_ _ _ _=>(AN a4 ap Ao (Aa (pv 1) (Aa (As Bq Ae (As GA Ae (pv 0))) (Aa (pv 2) Ab)))))) (Ah (AD (i:=4) scLaw.nd (CS hu (pv 1) Aw (λ_ _=>U))) (Ah (AD (i:=5) scLaw.nd (AZ (Aa (Bm (Aa (As CD Aw (Av Bb (pv 4) Ae (λ_ _=>U))) (Aa Ae Ab))) (Aa (Bm (Aa (As CD Aw (Av Bb (pv 4) Ae (λ_ _=>U))) (Aa (As NX Ae Ae) Ab))) (Aa (Bm (Aa (As CD Aw (Av Bb (pv 4) Ae (λ_ _=>U))) (Aa Ae Ab))) Ab))))) (Ah (AD (i:=6) scLaw.nd (AZ (Aa (Bm (Aa Aw (Aa Ae Ab))) (Aa (Bm (Aa (As CD Aw (Av Bb (pv 4) Ae (λ_ _=>U))) (Aa Ae Ab))) Ab)))) (Ah (AD (i:=7) scLaw.nd (AN I ap Ao (Aa (pv 0) (Aa Ae (Aa (Bm (Aa (pv 3) (Aa (DI Ew (pv 5) DH (DG (As Bq Ae (AN y a6 Ao (Aa (pv 0) (Aa Ae (Aa Ae Ab))))))) (Aa (pv 6) (Aa (AZ Ab) Ab))))) Ab))))) (Ah (AL (AM Bt (AN y a6 Ao (Aa (pv 0) (Aa Ae (Aa Ae Ab)))) Ae (AE _)) (Am (AD (i:=7) scLaw.nd (AN I ap Ao (Aa (pv 0) (Aa Ae (Aa (pv 7) Ab)))))) AK) (Ah (AD (i:=8) scLaw.nd (AX (rW U) Φ T.min sH (Aa (Av Bu (pv 7) Ae (λ_ _=>U)) Ab))) (Ah (AD (i:=9) scLaw.nd (AZ (Aa (De Bt (pv 8) Ae (AE _)) (Aa (De Bt (pv 8) Ae (AE _)) (Aa (De Bt (pv 8) Ae (AE _)) (Aa B8 (Aa B8 Ab))))))) (Ah (AL (AM (cN bd) (AN a3 ba Ao (Aa (pv 2) (Aa (BK DQ Φ T.list Dh (Aa (Av Bu (pv 7) Ae (λ_ _=>U)) Ab)) (Aa (BK DQ Φ T.list Dh (Aa (Av Bu (pv 7) Ae (λ_ _=>U)) Ab)) (Aa (BK DQ Φ T.list Dh (Aa (Av Bu (pv 7) Ae (λ_ _=>U)) Ab)) Ab))))) (pv 9) (AE _)) (Am (AC B8)) AK) (Am (AC (De (cS bd) (Av Bb (Hv (Hw MT cm bm Φ mT bT .nil U5 (Aa (pv 2) (Aa (BK DQ Φ T.list Dh (Aa (pv 3) Ab)) (Aa (BK DQ Φ T.list Dh (Aa (pv 5) Ab)) (Aa (BK DQ Φ T.list Dh (Aa (pv 6) Ab)) Ab))))) LT.cl a8 ab a6 a9 .nil Ao) Ae (λ_ _=>U)) (Av Bb (pv 3) Ae (λ_ _=>U)) (AE _)))))))))))))))),?_⟩
 refine⟨_,U,a,ns,_,_,U,hS,hn,Ξ,Ξ,Ξ,λj j0 j1=>?_⟩
 refine⟨U,_,U,?_⟩
 by_cases hg:j=1
 ·refine FN hg ?_;exact⟨_,U,a,ns,U,hS,hn,q⟩
 refine FO hg ?_
 unfold Kv
 dsimp only
 refine⟨_,U,_,U,a,ns,_,_,U,hS,hn,Ξ,Ξ,Ξ,λp p0 p1=>?_⟩
 refine⟨_,_,U,U,_,U,a,ns,_,_,U,hS,hn,Ξ,Ξ,Ξ,λm m0 m1=>?_⟩
 refine⟨_,_,U,U,a,ns,2+p,1+m,U,hS,hn,Ψ,Ψ,Ψ,Ψ,λdr rs H2 s2 R dg di d2=>?_⟩
 have g:=R.good
 obtain⟨kvs,L3,pp,pt,e1,e2,e3,D,k1,k2,k3,k4,k5,k6,k7,g1,g2,g3,g4,g5,g6,g7⟩:=R.ex
 refine⟨_,U,dr,_,U,Dn k1 k7,D,_,U,.inl (SqL.of g6),λl hl=>?_⟩
 obtain⟨H3,g0,s3,q3⟩:=Dg (H:=H2) (o:=.lst ((rs.map Ro.txt).map V.str)) hl
 rw[g0]
 intro x dx nx d3 dl
 have s4:Same H3 (Y (Y H3 dx (.own x)) x (.ins C dx [])):=λb o e=>by rw[Af (Au e nx),Af (Au e d3)];exact e
 refine⟨x,dx,l,rs,U,Ag,s4 _ _ q3,g,d2,λH5 kp RA=>⟨U,?_⟩⟩
 have s5:Same H3 H5:=λb o e=>kp b o (s4 _ _ e) (Au e nx)
 have b4:=s3.trans s5
 have R5:=R.same b4
 have aw:=(s2.trans b4).seq hS
 have c8:1<=(plc rs).length:=by lia
 refine⟨_,U,a,ns,_,_,U,aw,hn,Ξ,Ξ,Ξ,λj2 z0 z1=>?_⟩
 refine⟨_,_,U,U,_,U,Ψ,Ψ,λD1 be=>?_⟩
 refine Co (n:=(1+j2).toNat) (λi ys H6=>∃Ws:List Wl,RdVs H6 ys (Ws.map dW)/\Ws.length=i/\(∀W∈Ws,Ce rs W)/\Same H5 H6/\H6 D1=some (.lst ys))
  ⟨[],.nil,U,(λ_ h=>by cases h),Same.new be,Ag⟩ (λi _ _ hi _=>by show i<_;lia) (λ_ _ _=>by show _<=_;lia) ?_ ?_
 ·rintro i ys H6 v H7 hi ⟨Ws,rd,wl,hW,s6,e6⟩ ⟨rfl,rfl⟩;refine Cn ?_;refine⟨_,U,_,U,_,_,U,U,.inl ⟨Ψ,Ψ⟩,_,_,U,U,_,U,a,ns,_,dr,rs,U,s6.seq aw,hn,Ψ,Ψ,R5.same s6,c8,λv W H8 s8 rv sz fw=>?_⟩;have dq:ys.length=i:=by rw[rd.length,Ai,wl]
  refine⟨ys,s8 _ _ e6,Ψ,Ws++[W],?_,by rw[AG,wl];rfl,λd hZ=>?_,(s6.trans s8).put be,Ag⟩
  ·have kp:∀c xs,H8 c=some (.tup xs)->(Y H8 D1 (.lst (ys++[v]))) c=some (.tup xs):=λc xs e=>by rw[Af (A8 e (s8 _ _ e6) (by intro z;cases z))];exact e
   rw[AW];exact((s8.rds rd).same kp).append (.cons (rv.same kp) .nil)
  rcases(BF.mp hZ)with h | h
  ·exact hW d h
  rw[AR.mp h];exact⟨fw,sz⟩
 rintro ys H6 ⟨Ws,rd,wl,hW,s6,e6⟩
 have R6:=R5.same s6
 obtain⟨_,_,pl,_,_,_,_,_,bx,cr,_,_,_,_,_,c7,_⟩:=R6.ex
 obtain⟨P0,P1,Pr,hP⟩:=X8 (l:=plc rs) Ψ
 refine⟨_,U,dr,_,U,Dn bx cr,?_⟩
 have a0:atI (((plc rs).map (·.1)).map V.str) ((0:Nat):Int)=some (.str P0.1):=AB (by rw[hP];rfl)
 have a1:atI (((plc rs).map (·.1)).map V.str) ((1:Nat):Int)=some (.str P1.1):=AB (by rw[hP];rfl)
 have cl:=FQ g (EF (show P0.1∈(plc rs).map (·.1) by rw[hP];exact A9))
 have as:=FQ g (EF (show P1.1∈(plc rs).map (·.1) by rw[hP];exact AY _ A9))
 have l0:=cl.len
 have l1:=as.len
 have b5:(Str.ofString "take ").length=5:=by decide +kernel
 have b6:(Str.ofString "open ").length=5:=by decide +kernel
 have b7:(Str.ofString "shut ").length=5:=by decide +kernel
 have b8:(Str.ofString "try ").length=4:=by decide +kernel
 refine⟨_,U,pl,_,_,_,U,U,SqL.of c7,a0,_,_,U,U,Ψ,AA,λt1 d6=>?_⟩
 obtain⟨y1,q1⟩:=AH (o:=(.tup [.str (Str.ofString "take " ++ P0.1),.int 3])) d6
 generalize Y H6 t1 _=A1 at y1 q1 ⊢
 refine⟨_,U,pl,_,_,_,U,U,SqL.of (y1 _ _ c7),a1,_,_,U,U,Ψ,_,_,U,U,⟨Ξ,Ξ,Ξ⟩,AA,λt2 d5=>?_⟩
 obtain⟨y2,q2⟩:=AH (o:=(.tup [.str (Str.ofString "open " ++ P1.1),.int (10^Int.toNat 9)])) d5
 generalize Y A1 t2 _=A2' at y2 q2 ⊢
 replace q2:A2' t2=some (.tup [.str (Str.ofString "open " ++ P1.1),.int (10^9)]):=q2
 refine⟨_,U,pl,_,_,_,U,U,SqL.of ((y1.trans y2) _ _ c7),a1,_,_,U,U,Ψ,AA,λt3 cd=>?_⟩
 obtain⟨y3,a2⟩:=AH (o:=(.tup [.str (Str.ofString "shut " ++ P1.1),.int 1])) cd
 generalize Y A2' t3 _=A3 at y3 a2 ⊢
 refine⟨AA,λld ck=>?_⟩
 obtain⟨y4,q4⟩:=AH (o:=(.lst [.ref t1,.ref t2,.ref t3])) ck
 generalize Y A3 ld _=A4 at y4 q4 ⊢
 refine⟨AA,λt4 co=>?_⟩
 obtain⟨y5,q5⟩:=AH (o:=(.tup [.str (Str.ofString "feel hand"),.int 2])) co
 generalize Y A4 t4 _=A5 at y5 q5 ⊢
 have aq:=((y1.trans y2).trans (y3.trans y4)).trans y5
 refine⟨_,U,pl,_,_,_,U,U,SqL.of (aq _ _ c7),a0,_,_,U,U,Ψ,AA,λt5 cc=>?_⟩
 obtain⟨y6,q6⟩:=AH (o:=(.tup [.str (Str.ofString "try " ++ P0.1),.int 1])) cc
 generalize Y A5 t5 _=A6 at y6 q6 ⊢
 refine⟨AA,λlk cb=>?_⟩
 obtain⟨y7,q7⟩:=AH (o:=(.lst [.ref t4,.ref t5])) cb
 generalize Y A6 lk _=A7 at y7 q7 ⊢
 have ae:=(y5.trans y6).trans y7
 have aj:=aq.trans (y6.trans y7)
 have aU:A2 (By A7) [.ref t1,.ref t2,.ref t3] (Us3 P0 P1):=tK ((y2.trans (y3.trans (y4.trans ae))) _ _ q1) ((y3.trans (y4.trans ae)) _ _ q2) ((y4.trans ae) _ _ a2)
 have aV:A2 (By A7) [.ref t4,.ref t5] (Vs2 P0):=tJ ((y6.trans y7) _ _ q5) (y7 _ _ q6)
 have b9:=ae _ _ q4
 have e7:=aj _ _ e6
 have ao:=aj.rds rd
 have al:=(s6.trans aj).seq aw
 have bw:=RA.same (s6.trans aj)
 clear y1 y2 y3 y4 y5 y6 y7 aq ae q1 q2 a2 q5 q6 q4
 have cp:Ws.length<=10:=by lia
 have cj:1<=Ws.length:=by lia
 refine⟨_,U,_,U,_,U,_,U,a,ns,_,_,U,al,hn,Ξ,Ξ,Ξ,λk0 b3 cx=>?_⟩
 obtain⟨kn,rfl⟩:∃kn:Nat,(kn:Int)=k0:=⟨k0.toNat,Dr b3⟩
 refine⟨_,_,U,U,_,U,ld,_,U,SqL.of b9,λp1 cw=>?_⟩
 rw[show(1+(kn:Int))=((1+kn:Nat):Int) by lia,Oe]
 obtain⟨y1,q1⟩:=AH (o:=(.lst ([V.ref t1,.ref t2,.ref t3].take (1+kn)))) cw
 generalize Y A7 p1 _=B1 at y1 q1 ⊢
 refine⟨_,U,AA,λle d7=>?_⟩
 obtain⟨y2,q2⟩:=AH (o:=(.lst [])) d7
 generalize Y B1 le _=B2 at y2 q2 ⊢
 refine⟨AA,λtt c3=>?_⟩
 obtain⟨y3,a2⟩:=AH (o:=(.tup [.ref D1,.ref p1,.ref lk,.ref le])) c3
 generalize Y B2 tt _=B3 at y3 a2 ⊢
 have X:=(y1.trans y2).trans y3
 have kU:∀{v:V}{s:Str×Int},By A7 v s->By B3 v s:=λ⟨c,e,r⟩=>⟨c,e,X _ _ r⟩
 have db:(Us3 P0 P1).length=3:=rfl
 have an:Mn B3 tt Ws ((Us3 P0 P1).take (1+kn)) (Vs2 P0) []:=⟨D1,p1,lk,le,ys,_,_,a2,X _ _ e7,X.rds ao,(y2.trans y3) _ _ q1,(aU.mono λv t _ r=>kU r).tk (1+kn),X _ _ q7,aV.mono λv t _ r=>kU r,y3 _ _ q2,by rw[Bh];lia,by show 2<=20;decide,by show 0<=20;decide⟩
 refine⟨a,tt,ns,5,rs,Ws,Ws,_,_,[],U,X.seq al,hn,Ξ,Ξ,an,YY g hP Ψ,by rw[Bh];lia,by show 2<=10;decide,by show 0<=10;decide,λt' af ah ac a7 B4 s4 ts sp ne bj bi az=>?_⟩
 rw[Bh]at bj
 have b0:ac.length<=3:=bi
 have bl:a7.length<=1:=az
 have S:=X.trans s4
 dsimp only
 refine Zi (λbr H'=>∃(ak:Addr) (af:List Wl) (ah ac:List (Str×Int)) (a7:List Int),br=[some (.ref a),some (.ref dr),some (.ref x),some (.ref D1),some (.ref pl),some (.ref ld),some (.ref lk),some (.ref ak),none,none]/\Same A7 H'/\Mn H' ak af ah ac a7/\SpI rs Ws af ah ac a7/\a7≠[]) ?_ (λN hN=>?_)
 rotate_left
 ·refine⟨_,U,a,ns,_,_,U,S.seq al,hn,Ξ,Ξ,Ξ,λk b3 cx=>?_⟩;refine⟨U,_,U,?_⟩;by_cases hk:k=1
  ·refine FN hk ?_;refine⟨_,U,_,U,a,t',ns,10,rs,Ws,af,_,_,a7,U,S.seq al,hn,Ξ,Ξ,ts,sp,Ψ,Ψ,Ψ,λak bh b1 bv ax B5 s5 ci bz cn _ _ _=>?_⟩;exact hN _ _ ⟨ak,bh,b1,bv,ax,U,S.trans s5,ci,bz,cn⟩
  refine FO hk ?_;exact hN _ _ ⟨t',af,ah,ac,a7,U,S,ts,sp,ne⟩
 clear ts sp ne bj bi az b0 bl s4 S an q1 q2 a2 y1 y2 y3 X kU
 rintro br B ⟨ai,ag,bo,Vs2',c6,rfl,yB,ts,sp,ne⟩
 obtain⟨lw,da,lb,du,bb,us,bn,ht,c5,c2,ha,au,hb,av,cy,fu,fv,dm⟩:=ts.ex
 have am:(ths rs).length<=3:=by lia
 obtain⟨i,bf,hi,ce,d4⟩:=sp.bad ne am
 have Be:atI [V.ref lw,.ref da,.ref lb,.ref du] ((0:Nat):Int)=some (.ref lw):=AB U
 have cf:atI [V.ref lw,.ref da,.ref lb,.ref du] ((1:Nat):Int)=some (.ref da):=AB U
 have d8:atI [V.ref lw,.ref da,.ref lb,.ref du] ((2:Nat):Int)=some (.ref lb):=AB U
 have ch:atI [V.ref lw,.ref da,.ref lb,.ref du] ((3:Nat):Int)=some (.ref du):=AB U
 refine⟨_,U,ai,_,_,_,U,U,SqT.of ht,ch,du,c6,U,SqL.of cy,So.mpr ne,λM hM cg=>?_⟩
 obtain rfl:(i:Int)=M:=Int.le_antisymm (d4 M hM) (cg _ ce)
 refine⟨_,U,U,_,U,U,_,U,U,AA,λl9 n9=>?_⟩
 rw[rN i hi]
 obtain⟨y1,q1⟩:=AH (o:=(.lst ((Ek i).map V.bl))) n9
 generalize Y B l9 _=C1 at y1 q1 ⊢
 refine⟨_,U,_,U,ai,_,_,_,U,U,SqT.of (y1 _ _ ht),Be,lw,_,U,.inl (SqL.of (y1 _ _ c5)),λm1 as=>?_⟩
 obtain⟨y2,q2⟩:=AH (o:=(.lst bb)) as
 generalize Y C1 m1 _=C2 at y2 q2 ⊢
 have ar:=y1.trans y2
 refine⟨_,U,ai,_,_,_,U,U,SqT.of (ar _ _ ht),cf,da,_,U,.inl (SqL.of (ar _ _ ha)),λm2 cv=>?_⟩
 obtain⟨y3,a2⟩:=AH (o:=(.lst us)) cv
 generalize Y C2 m2 _=C3 at y3 a2 ⊢
 have X:=ar.trans y3
 refine⟨_,U,ai,_,_,_,U,U,SqT.of (X _ _ ht),d8,lb,_,U,.inl (SqL.of (X _ _ hb)),λm3 c0=>?_⟩
 obtain⟨y4,q4⟩:=AH (o:=(.lst bn)) c0
 generalize Y C3 m3 _=C4 at y4 q4 ⊢
 have S:=X.trans y4
 have bq:(∀W∈ag,Ce rs W)/\ag.length<=300:=by
  rcases sp.w with e | e
  ·rw[e];exact⟨λ_ h=>(by cases h),Ξ⟩
  rw[e];exact⟨hW,Ψ⟩
 have d1:TlS C C4 x m1 m2 m3 rs ag bo Vs2':=⟨bb,us,bn,bw.same (yB.trans S),g,(y3.trans y4) _ _ q2,S.rds c2,bq.1,bq.2,y4 _ _ a2,au.mono λv t _ ⟨c,e,r⟩=>⟨c,e,S _ _ r⟩,q4,av.mono λv t _ ⟨c,e,r⟩=>⟨c,e,S _ _ r⟩,by rw[au.len];lia,by rw[av.len];lia⟩
 refine⟨x,m1,m2,m3,rs,ag,bo,Vs2',i,U,d1,bf,λl C5 s5 e5=>?_⟩
 refine⟨_,U,l,l9,Ek i,Ek i,U,U,e5,((y2.trans y3).trans (y4.trans s5)) _ _ q1,Fd _,Fd _,?_⟩
 rw[LM]
 refine⟨false,U,BH ?_⟩
 dsimp only
 have yC:=yB.trans (S.trans s5)
 obtain⟨W0,Wr,rfl⟩:=List.exists_cons_of_length_pos cj
 refine⟨_,U,_,U,D1,ys,U,.inl (SqL.of (yC _ _ e7)),λm4 cu=>?_⟩
 obtain⟨y6,q6⟩:=AH (o:=(.lst ys)) cu
 generalize Y C5 m4 _=C6 at y6 q6 ⊢
 refine⟨_,U,ld,_,U,.inl (SqL.of ((yC.trans y6) _ _ b9)),λm5 nm5=>?_⟩
 obtain⟨y7,b2⟩:=AH (o:=(.lst [.ref t1,.ref t2,.ref t3])) nm5
 generalize Y C6 m5 _=C7 at y7 b2 ⊢
 refine⟨_,U,lk,_,U,.inl (SqL.of ((yC.trans (y6.trans y7)) _ _ q7)),λm6 d9=>?_⟩
 obtain⟨y8,q8⟩:=AH (o:=(.lst [.ref t4,.ref t5])) d9
 generalize Y C7 m6 _=C8 at y8 q8 ⊢
 have ca:=(y6.trans y7).trans y8
 have yD:=yC.trans ca
 intro z dz nz bp dc
 have ct:TlS C C8 x m4 m5 m6 rs (W0::Wr) (Us3 P0 P1) (Vs2 P0):=⟨ys,_,_,bw.same yD,g,(y7.trans y8) _ _ q6,yD.rds ao,hW,Ψ,y8 _ _ b2,aU.mono λv t _ ⟨c,e,r⟩=>⟨c,e,yD _ _ r⟩,q8,aV.mono λv t _ ⟨c,e,r⟩=>⟨c,e,yD _ _ r⟩,by show 3<=100;decide,by show 2<=100;decide⟩
 refine ct.at nz bp (U4 (iB g hP am) (sM cp) (Ik _ _) λL F6 k6 bu na=>⟨U,?_⟩)
 have d0:Same C8 F6:=λc u e=>k6 c u (by rw[Af (Au e nz),Af (Au e bp)];exact e) (Au e nz)
 obtain⟨Lr,rfl⟩:=na.fst
 obtain⟨c1,x',d',y',c4,dn,dk⟩:=bu.ex
 refine⟨z,c1,_,U,c4,VW x' d' y' Δ Δ Δ,z,rs,_,U,bu,λl dh F7 s7 nl el rl=>?_⟩
 have yF:=yD.trans (d0.trans s7)
 have bc:=yF.rds ao
 have bg:=hW W0 A9
 have ay:=Qt (bg.1.ok g bg.2)
 cases rl with
 | cons r0 rl=>
 cases bc with
 | cons r1 bc=>
 refine⟨l,_,_,_,U,U,SqL.of el,AB U,_,U,D1,_,_,_,U,U,SqL.of (yF _ _ e7),AB U,?_⟩
 refine⟨_,_,r0,r1,ay,ay,?_⟩
 rw[V9,AU rfl]
 exact q _
end
end K21
namespace K21
open PySem L2 Tx Rk PyProof.Rows PySem.SeqAt
def lP {P:List Value->Prop}(h:P []):∀us:List Value,us.length=0->P us:=λu e=>by cases u with|nil=>exact h|cons a r=>cases e
def CV {P:List Value->Prop}(h:∀b:Value,P [b]):∀us:List Value,us.length=1->P us:=λu e=>by obtain⟨a,rfl⟩:=List.length_eq_one_iff.mp e;exact h a
def Dk {P:List Value->Prop}(h:∀b c:Value,P [b,c]):∀us:List Value,us.length=2->P us:=λu e=>by cases u with|nil=>cases e|cons a r=>exact CV (P:=λr=>P (a::r)) (h a) r (J7 e)
def Ci {P:List Value->Prop}(h:∀b d c:Value,P [b,d,c]):∀us:List Value,us.length=3->P us:=λu e=>by cases u with|nil=>cases e|cons a r=>exact Dk (P:=λr=>P (a::r)) (h a) r (J7 e)
def FM {P:List Value->Prop}(h:∀b f d c:Value,P [b,f,d,c]):∀us:List Value,us.length=4->P us:=λu e=>by cases u with|nil=>cases e|cons a r=>exact Ci (P:=λr=>P (a::r)) (h a) r (J7 e)
def lO {P:List Value->Prop}(h:∀c g f d b:Value,P [c,g,f,d,b]):∀us:List Value,us.length=5->P us:=λu e=>by cases u with|nil=>cases e|cons a r=>exact FM (P:=λr=>P (a::r)) (h a) r (J7 e)
open PySem.W (Frag OpenLaw codeIn excIn findIn fnOf hasDictIn isFn keepIn makesIn mg_none_of mg_of nsIn plainGet plainOver)
abbrev nA (K:Frag)(x:Str)(f:Addr):Prop:=nsIn K mainGlobals x=some (some (.ref f))
abbrev lK (K:Frag)(f:Addr)(x q:Str)(s:Stmt)(oc:Value)(od:Option Addr)(kV dc pm:Value)(an:Option Addr)(cd ct:Value)(sl:Array (Option Value)):Prop:=K.lookup f=some ⟨oc,od,.func (fnOf x q (Fv s) (B9 s) (Aq s) .none kV dc pm an cd ct),sl⟩
def all_mk {l:OpenLaw}{w:World}{K:Frag}{h:Heap}{mg:Str->Option Value}{fa GE NN CH CT X1 X2 X3 C aN aF tF1 tF2 tF3 tF4 aW f1 f2 f3 f4 f5 f6 f7 f8 f9 f10 f11 f12 f13 f14 f15 f16 f17 f18 f19 f20 f21 f22 f23 f24 f25 f26 f27 f28 f29 f30 f31 f32 f33 f34 f35 f36 f37 f38 f39 f40 f41 f42 f43 f44 f45 f46 f47 f48 f49 f50 f51 f52 f53 f54 f55 f56 f57 f58 f59 f60 f61 f62 f63 f64 f65 f66 f67 f68 f69 f70:Addr}(X:K.In h)(G:h.Ns mainGlobals mg)(hfa:mg "law" = some (.ref fa))
  {od60 an60 od61 an61 od62 an62 od63 an63 od64 an64 od65 an65 od66 an66 od67 an67 odN odF oF1 oF2 oF3 oF4 odW:Option Addr}{sl60 sl61 sl62 sl63 sl64 sl65 sl66 sl67 slN slF sF1 sF2 sF3 sF4 slW:Array (Option Value)}{oc60 kV60 dc60 pm60 cd60 ct60 oc61 kV61 dc61 pm61 cd61 ct61 oc62 kV62 dc62 pm62 cd62 ct62 oc63 kV63 dc63 pm63 cd63 ct63 oc64 kV64 dc64 pm64 cd64 ct64 oc65 kV65 dc65 pm65 cd65 ct65 oc66 kV66 dc66 pm66 cd66 ct66 oc67 kV67 dc67 pm67 cd67 ct67 uL uO uP uT uWc uSc uNc uRc:Value}{itN itF iF1 iF2 iF3 iF4 itW:Array Value}{nN nF nF1 nF2 nF3 nF4 nnW:Nat}
  {esP esL:Array DictEntry}{epP epL:Nat}{aP aL t1 t2 t3 t4:Addr}{oT1 oT2 oT3 oT4:Option Addr}{iT1 iT2 iT3 iT4:Array Value}{nT1 nT2 nT3 nT4:Nat}{sT1 sT2 sT3 sT4:Array (Option Value)}
  (q1:Qf K "set_of" IK f1)
  (q2:Qf K "worlds_of" ZL f2)
  (q3:Qf K "check_many" IU f3)
  (q4:Qf K "check_steps" Gk f4)
  (q5:Qf K "check_name" IT f5)
  (q6:Qf K "check_price" IS f6)
  (q7:Qf K "check_table" KS f7)
  (q8:Qf K "check_entry" KU f8)
  (q9:Qf K "read_deeds" KI f9)
  (q10:Qf K "read_looks" Nd f10)
  (q11:Qf K "parted" Ng f11)
  (q12:Qf K "doable_sets" IR f12)
  (q13:Qf K "heap_in" Hn f13)
  (q14:Qf K "lid_on" Gh f14)
  (q15:Qf K "turns" KE f15)
  (q16:Qf K "read_deed" Hk f16)
  (q17:Qf K "move_things" Ni f17)
  (q18:Qf K "take" Na f18)
  (q19:Qf K "put" Nf f19)
  (q20:Qf K "move_lid" Nj f20)
  (q21:Qf K "hand_fits" Nt f21)
  (q22:Qf K "is_free" IQ f22)
  (q23:Qf K "is_open" KP f23)
  (q24:Qf K "can_put" Nz f24)
  (q25:Qf K "laid" Nn f25)
  (q26:Qf K "changed" IZ f26)
  (q27:Qf K "looked" Nk f27)
  (q28:Qf K "read_look" IM f28)
  (q29:Qf K "is_look" Nq f29)
  (q30:Qf K "feel" Nu f30)
  (q31:Qf K "try_lid" M9 f31)
  (q32:Qf K "heft" Nr f32)
  (q33:Qf K "shape_told" KG f33)
  (q34:Qf K "check_told" Nw f34)
  (q35:Qf K "number_all" Nh f35)
  (q36:Qf K "add_new" NC f36)
  (q37:Qf K "chart_of" IV f37)
  (q38:Qf K "deed_table" KR f38)
  (q39:Qf K "numbers_of" KJ f39)
  (q40:Qf K "look_table" KM f40)
  (q41:Qf K "is_name" KQ f41)
  (q42:Qf K "read_line" KH f42)
  (q43:Qf K "read_rows" IL f43)
  (q44:Qf K "read_things" Nb f44)
  (q45:Qf K "read_places" Nc f45)
  (q46:Qf K "check_keys" Ny f46)
  (q47:Qf K "_law_pick" EW f47)
  (q48:Qf K "_law_fixed" Gj f48)
  (q49:Qf K "_law_names" KL f49)
  (q50:Qf K "_law_place_line" Nl f50)
  (q51:Qf K "_law_room" Gg f51)
  (q52:Qf K "_law_lids" Nm f52)
  (q53:Qf K "_law_world" IJ f53)
  (q54:Qf K "_law_caught" IP f54)
  (q55:Qf K "_law_spoilt" Np f55)
  (q56:Qf K "_law_plain" Gi f56)
  (q57:Qf K "_law_told_many" KO f57)
  (q58:Qf K "_law_all_lines" Hm f58)
  (q59:Qf K "_law_great" Fe f59)
  (a60:nA K "law" f60)(l60:lK K f60 "law" "law" Hl oc60 od60 kV60 dc60 pm60 an60 cd60 ct60 sl60)(c60:codeIn K cd60 "law" = true)(k60:keepIn K (.ref f60)=true)
  (aC:nsIn K mainGlobals "Room" = some (some (.ref C)))
  (a61:findIn K (.ref C) "__init__" = some (some (.ref f61)))(i61:isFn K (.ref f61)=true)(l61:lK K f61 "__init__" "Room.__init__" QC oc61 od61 kV61 dc61 pm61 an61 cd61 ct61 sl61)(c61:codeIn K cd61 "Room.__init__" = true)(k61:keepIn K (.ref f61)=true)
  (a62:findIn K (.ref C) "places" = some (some (.ref f62)))(i62:isFn K (.ref f62)=true)(l62:lK K f62 "places" "Room.places" Qy oc62 od62 kV62 dc62 pm62 an62 cd62 ct62 sl62)(c62:codeIn K cd62 "Room.places" = true)(k62:keepIn K (.ref f62)=true)
  (a63:findIn K (.ref C) "things" = some (some (.ref f63)))(i63:isFn K (.ref f63)=true)(l63:lK K f63 "things" "Room.things" ZM oc63 od63 kV63 dc63 pm63 an63 cd63 ct63 sl63)(c63:codeIn K cd63 "Room.things" = true)(k63:keepIn K (.ref f63)=true)
  (a64:findIn K (.ref C) "lid_of" = some (some (.ref f64)))(i64:isFn K (.ref f64)=true)(l64:lK K f64 "lid_of" "Room.lid_of" QA oc64 od64 kV64 dc64 pm64 an64 cd64 ct64 sl64)(c64:codeIn K cd64 "Room.lid_of" = true)(k64:keepIn K (.ref f64)=true)
  (a65:findIn K (.ref C) "lidded" = some (some (.ref f65)))(i65:isFn K (.ref f65)=true)(l65:lK K f65 "lidded" "Room.lidded" Qz oc65 od65 kV65 dc65 pm65 an65 cd65 ct65 sl65)(c65:codeIn K cd65 "Room.lidded" = true)(k65:keepIn K (.ref f65)=true)
  (a66:findIn K (.ref C) "key_of" = some (some (.ref f66)))(i66:isFn K (.ref f66)=true)(l66:lK K f66 "key_of" "Room.key_of" QB oc66 od66 kV66 dc66 pm66 an66 cd66 ct66 sl66)(c66:codeIn K cd66 "Room.key_of" = true)(k66:keepIn K (.ref f66)=true)
  (a67:findIn K (.ref C) "shape_of" = some (some (.ref f67)))(i67:isFn K (.ref f67)=true)(l67:lK K f67 "shape_of" "Room.shape_of" Qx oc67 od67 kV67 dc67 pm67 an67 cd67 ct67 sl67)(c67:codeIn K cd67 "Room.shape_of" = true)(k67:keepIn K (.ref f67)=true)
  (pg:plainGet K C Str.empty=true)(hd:hasDictIn K C=true)(po:plainOver K C=true)(sa:findIn K (.ref C) "__setattr__" = some (some (.builtin "object.__setattr__")))(mk:makesIn K C=true)(kc:keepIn K (.ref C)=true)
  (nP:findIn K (.ref C) "told_places" = some none)(nS:findIn K (.ref C) "told_shapes" = some none)
  (aCH:nsIn K mainGlobals "Chart" = some (some (.ref CH)))(pgCH:plainGet K CH Str.empty=true)(hdCH:hasDictIn K CH=true)(poCH:plainOver K CH=true)(saCH:findIn K (.ref CH) "__setattr__" = some (some (.builtin "object.__setattr__")))(mkCH:makesIn K CH=true)(kcCH:keepIn K (.ref CH)=true)
  (nCH_1:findIn K (.ref CH) "many" = some none)
  (nCH_2:findIn K (.ref CH) "prices" = some none)
  (nCH_3:findIn K (.ref CH) "told_outs" = some none)
  (nCH_4:findIn K (.ref CH) "told_answers" = some none)
  (nCH_5:findIn K (.ref CH) "told_parts" = some none)
  (nCH_6:findIn K (.ref CH) "told_doable" = some none)
  (aCT:nsIn K mainGlobals "Atlas" = some (some (.ref CT)))(pgCT:plainGet K CT Str.empty=true)(hdCT:hasDictIn K CT=true)(poCT:plainOver K CT=true)(saCT:findIn K (.ref CT) "__setattr__" = some (some (.builtin "object.__setattr__")))(mkCT:makesIn K CT=true)(kcCT:keepIn K (.ref CT)=true)
  (nCT_1:findIn K (.ref CT) "told_room" = some none)
  (nCT_2:findIn K (.ref CT) "numbers" = some none)
  (nCT_3:findIn K (.ref CT) "made_chart" = some none)
  (q68:Qm K CH "__init__" "Chart.__init__" IW f68)
  (q69:Qm K CT "__init__" "Atlas.__init__" NB f69)
  (q70:Qm K CT "worlds" "Atlas.worlds" QD f70)
  (aG:nsIn K mainGlobals "GropeError" = some (some (.ref GE)))(aE:nsIn K mainGlobals "NoDeed" = some (some (.ref NN)))(oG:excIn K GE El "ValueError.__new__" = true)(oE:excIn K NN El "ValueError.__new__" = true)(sE:mroIn K NN GE=true)
  (aX1:nsIn K mainGlobals "NoLook" = some (some (.ref X1)))(oX1:excIn K X1 El "ValueError.__new__" = true)(sX1:mroIn K X1 GE=true)
  (aX2:nsIn K mainGlobals "NoChart" = some (some (.ref X2)))(oX2:excIn K X2 El "ValueError.__new__" = true)(sX2:mroIn K X2 GE=true)
  (aX3:nsIn K mainGlobals "TooMany" = some (some (.ref X3)))(oX3:excIn K X3 El "ValueError.__new__" = true)(sX3:mroIn K X3 GE=true)
  (gL:nsIn K mainGlobals "LETTERS" = some (some uL))(vL:DS uL=some (.str abc))
  (gO:nsIn K mainGlobals "MOST_LETTERS" = some (some uO))(vO:DS uO=some (.int 8))
  (gP:nsIn K mainGlobals "MOST_PLACES" = some (some uP))(vP:DS uP=some (.int 6))
  (gT:nsIn K mainGlobals "MOST_THINGS" = some (some uT))(vT:DS uT=some (.int 6))
  (gWc:nsIn K mainGlobals "MOST_WORLDS" = some (some uWc))(vWc:DS uWc=some (.int 200))
  (gSc:nsIn K mainGlobals "MOST_STEPS" = some (some uSc))(vSc:DS uSc=some (.int 40))
  (gNc:nsIn K mainGlobals "MOST_SIGNS" = some (some uNc))(vNc:DS uNc=some (.int 30))
  (gRc:nsIn K mainGlobals "MOST_PRICE" = some (some uRc))(vRc:DS uRc=some (.int 1000000000))
  (gN:nsIn K mainGlobals "NO_NAMES" = some (some (.ref aN)))(lN:K.lookup aN=some ⟨.type "tuple",odN,.seq itN nN,slN⟩)(vN:DA itN.toList=some (fixedS.map V.str))
  (gF:nsIn K mainGlobals "FORMS" = some (some (.ref aF)))(lF:K.lookup aF=some ⟨.type "tuple",odF,.seq itF nF,slF⟩)(vF:DA itF.toList=some [.ref tF1,.ref tF2,.ref tF3,.ref tF4])
  (lF1:K.lookup tF1=some ⟨.type "tuple",oF1,.seq iF1 nF1,sF1⟩)(vF1:DA iF1.toList=some [.str "place",.int 2])
  (lF2:K.lookup tF2=some ⟨.type "tuple",oF2,.seq iF2 nF2,sF2⟩)(vF2:DA iF2.toList=some [.str "box",.int 2])
  (lF3:K.lookup tF3=some ⟨.type "tuple",oF3,.seq iF3 nF3,sF3⟩)(vF3:DA iF3.toList=some [.str "box",.int 3])
  (lF4:K.lookup tF4=some ⟨.type "tuple",oF4,.seq iF4 nF4,sF4⟩)(vF4:DA iF4.toList=some [.str "thing",.int 3])
  (gW:nsIn K mainGlobals "WORDS" = some (some (.ref aW)))(lW:K.lookup aW=some ⟨.type "tuple",odW,.seq itW nnW,slW⟩)(vW:DA itW.toList=some (wordsS.map V.str))
  (gPl:nsIn K mainGlobals "PLACES" = some (some (.ref aP)))
  (lPl:K.lookup aP=some ⟨.type "dict",none,.dict esP epP,#[]⟩)
  (sPl:(aP == sysModules)=false)
  (vPl:Fx esP.toList=some placesK)
  (hPl:esP.toList.map (·.hash)=placesK.map (λkv=>LF w kv.1))
  (gLi:nsIn K mainGlobals "LIDS" = some (some (.ref aL)))
  (lLi:K.lookup aL=some ⟨.type "dict",none,.dict esL epL,#[]⟩)
  (sLi:(aL == sysModules)=false)
  (vLi:Fx esL.toList=some (HQ t1 t2 t3 t4))
  (hLi:esL.toList.map (·.hash)=(HQ t1 t2 t3 t4).map (λkv=>LF w kv.1))
  (lT1:K.lookup t1=some ⟨.type "tuple",oT1,.seq iT1 nT1,sT1⟩)
  (wT1:DA iT1.toList=some [V.str "shut",V.str "open"])
  (lT2:K.lookup t2=some ⟨.type "tuple",oT2,.seq iT2 nT2,sT2⟩)
  (wT2:DA iT2.toList=some [V.str "open",V.str "shut"])
  (lT3:K.lookup t3=some ⟨.type "tuple",oT3,.seq iT3 nT3,sT3⟩)
  (wT3:DA iT3.toList=some [V.str "shut",V.str "locked"])
  (lT4:K.lookup t4=some ⟨.type "tuple",oT4,.seq iT4 nT4,sT4⟩)
  (wT4:DA iT4.toList=some [V.str "locked",V.str "shut"])
  (hKB:Vu K [NN,X1,X2,X3]=true)
  (z1:nsIn K mainGlobals "len" = some none)(z2:nsIn K mainGlobals "range" = some none)(z3:nsIn K mainGlobals "tuple" = some none)(z4:nsIn K mainGlobals "zip" = some none)(z5:nsIn K mainGlobals "isinstance" = some none)(z6:nsIn K mainGlobals "str" = some none)(z7:nsIn K mainGlobals "list" = some none)(z8:nsIn K mainGlobals "set" = some none)(z9:nsIn K mainGlobals "all" = some none)(z10:nsIn K mainGlobals "sorted" = some none)(z11:nsIn K mainGlobals "int" = some none)(z12:nsIn K mainGlobals "bool" = some none)(z13:nsIn K mainGlobals "reversed" = some none)(z14:nsIn K mainGlobals "max" = some none)(z15:nsIn K mainGlobals "sum" = some none)(z16:nsIn K mainGlobals "enumerate" = some none)(z17:nsIn K mainGlobals "dict" = some none)(z18:nsIn K mainGlobals "any" = some none)(z19:nsIn K mainGlobals "ValueError" = some none)(z20:nsIn K mainGlobals "min" = some none) :
  ∃fd:FuncData,(∀(s:Shared) (v:Value),BindsTo s fd ⟨[v],[]⟩ [("_law_script",v)])/\∀base:Heap,K.In base->base.Ns mainGlobals mg->FnOk l.prog w K mg base CX0 15 fa fd ["_law_script"] (MX K):=by
 have e:=hfa.symm.trans (Cb X G a60)
 cases e
 have T:Bl mg:=⟨CP X G z1,CP X G z2,CP X G z3,CP X G z4,CP X G z5,CP X G z6,CP X G z7,CP X G z8,CP X G z9,CP X G z10,CP X G z11,CP X G z12,CP X G z13,CP X G z14,CP X G z15,CP X G z16,CP X G z17,CP X G z18,CP X G z19,CP X G z20⟩
 obtain⟨tL,eL⟩:=(Ff vL:RelV (.str abc) uL)
 rw[eL]at gL
 obtain⟨tO,eO⟩:=(Ff vO:RelV (.int 8) uO)
 rw[eO]at gO
 obtain⟨tP,eP⟩:=(Ff vP:RelV (.int 6) uP)
 rw[eP]at gP
 obtain⟨tT,eT⟩:=(Ff vT:RelV (.int 6) uT)
 rw[eT]at gT
 obtain⟨tWc,eWc⟩:=(Ff vWc:RelV (.int 200) uWc)
 rw[eWc]at gWc
 obtain⟨tSc,eSc⟩:=(Ff vSc:RelV (.int 40) uSc)
 rw[eSc]at gSc
 obtain⟨tNc,eNc⟩:=(Ff vNc:RelV (.int 30) uNc)
 rw[eNc]at gNc
 obtain⟨tRc,eRc⟩:=(Ff vRc:RelV (.int 1000000000) uRc)
 rw[eRc]at gRc
 have M:Md K mg aN aF:=⟨⟨_,Cb X G gL⟩,⟨_,Cb X G gO⟩,⟨_,Cb X G gP⟩,⟨_,Cb X G gT⟩,Cb X G gN,λH=>.inr ⟨_,itN,nN,lN,U,U,by
   have h1:=(DU vN).length
   have h2:itN.toList.length=itN.size:=by simp
   have h3:(fixedS.map V.str).length=14:=by decide +kernel
   have hs:sizeLine=16777216:=AF
   lia,DU vN⟩,Cb X G gF,
  KZ lF vF (.cons (KZ lF1 vF1 (.cons (Gm U) (.cons (Gm U) .nil))) (.cons (KZ lF2 vF2 (.cons (Gm U) (.cons (Gm U) .nil))) (.cons (KZ lF3 vF3 (.cons (Gm U) (.cons (Gm U) .nil))) (.cons (KZ lF4 vF4 (.cons (Gm U) (.cons (Gm U) .nil))) .nil))))⟩
 have L:Cl K C:=⟨⟨pg,hd,po,sa⟩,nP,nS⟩
 have MW:Mw K mg aW:=⟨Cb X G gW,λH=>.inr ⟨_,itW,nnW,lW,U,U,by
   have h1:=(DU vW).length;have h2:itW.toList.length=itW.size:=by simp
   have h3:(wordsS.map V.str).length<=100:=by decide +kernel
   have hs:sizeLine=16777216:=AF;lia,DU vW⟩⟩
 have F60:=EI l60 c60 k60
 have F61:=EI l61 c61 k61
 have b61:=F61.binds (ps:=["self", "lines"]) λ_ _ _ _ _ _=>Dk λ_ _=>rfl
 have F62:=EI l62 c62 k62
 have b62:=F62.binds (ps:=["self"]) λ_ _ _ _ _ _=>CV λ_=>rfl
 have F63:=EI l63 c63 k63
 have b63:=F63.binds (ps:=["self"]) λ_ _ _ _ _ _=>CV λ_=>rfl
 have F64:=EI l64 c64 k64
 have b64:=F64.binds (ps:=["self", "place"]) λ_ _ _ _ _ _=>Dk λ_ _=>rfl
 have F65:=EI l65 c65 k65
 have b65:=F65.binds (ps:=["self", "place"]) λ_ _ _ _ _ _=>Dk λ_ _=>rfl
 have F66:=EI l66 c66 k66
 have b66:=F66.binds (ps:=["self", "place"]) λ_ _ _ _ _ _=>Dk λ_ _=>rfl
 have F67:=EI l67 c67 k67
 have b67:=F67.binds (ps:=["self", "thing"]) λ_ _ _ _ _ _=>Dk λ_ _=>rfl
 obtain⟨_,F68,b68,m68⟩:=q68.df Jr λ_ _ _ _ _ _=>FM λ_ _ _ _=>rfl
 obtain⟨_,F69,b69,m69⟩:=q69.df Fj λ_ _ _ _ _ _=>lO λ_ _ _ _ _=>rfl
 obtain⟨_,F70,b70,m70⟩:=q70.df QZ λ_ _ _ _ _ _=>CV λ_=>rfl
 have CCH:Cls K CH:=⟨pgCH,hdCH,poCH,saCH⟩
 have CCT:Cls K CT:=⟨pgCT,hdCT,poCT,saCT⟩
 obtain⟨_,D1⟩:=q1.df X G Hy λ_ _ _ _ _ _=>CV λ_=>rfl
 obtain⟨_,D2⟩:=q2.df X G cI λ_ _ _ _ _ _=>CV λ_=>rfl
 obtain⟨_,D3⟩:=q3.df X G Gx λ_ _ _ _ _ _=>CV λ_=>rfl
 obtain⟨_,D4⟩:=q4.df X G Gw λ_ _ _ _ _ _=>Dk λ_ _=>rfl
 obtain⟨_,D5⟩:=q5.df X G HM λ_ _ _ _ _ _=>CV λ_=>rfl
 obtain⟨_,D6⟩:=q6.df X G HL λ_ _ _ _ _ _=>CV λ_=>rfl
 obtain⟨_,D7⟩:=q7.df X G Jq λ_ _ _ _ _ _=>Ci λ_ _ _=>rfl
 obtain⟨_,D8⟩:=q8.df X G Lm λ_ _ _ _ _ _=>Ci λ_ _ _=>rfl
 obtain⟨_,D9⟩:=q9.df X G Jj λ_ _ _ _ _ _=>Dk λ_ _=>rfl
 obtain⟨_,D10⟩:=q10.df X G Ji λ_ _ _ _ _ _=>Dk λ_ _=>rfl
 obtain⟨_,D11⟩:=q11.df X G Jk λ_ _ _ _ _ _=>CV λ_=>rfl
 obtain⟨_,D12⟩:=q12.df X G Jp λ_ _ _ _ _ _=>Dk λ_ _=>rfl
 obtain⟨_,D13⟩:=q13.df X G EZ λ_ _ _ _ _ _=>Ci λ_ _ _=>rfl
 obtain⟨_,D14⟩:=q14.df X G ED λ_ _ _ _ _ _=>Ci λ_ _ _=>rfl
 obtain⟨_,D15⟩:=q15.df X G Jg λ_ _ _ _ _ _=>Ci λ_ _ _=>rfl
 obtain⟨_,D16⟩:=q16.df X G Hz λ_ _ _ _ _ _=>Dk λ_ _=>rfl
 obtain⟨_,D17⟩:=q17.df X G La λ_ _ _ _ _ _=>FM λ_ _ _ _=>rfl
 obtain⟨_,D18⟩:=q18.df X G K6 λ_ _ _ _ _ _=>Ci λ_ _ _=>rfl
 obtain⟨_,D19⟩:=q19.df X G K7 λ_ _ _ _ _ _=>Ci λ_ _ _=>rfl
 obtain⟨_,D20⟩:=q20.df X G Lb λ_ _ _ _ _ _=>FM λ_ _ _ _=>rfl
 obtain⟨_,D21⟩:=q21.df X G Lj λ_ _ _ _ _ _=>FM λ_ _ _ _=>rfl
 obtain⟨_,D22⟩:=q22.df X G FK λ_ _ _ _ _ _=>CV λ_=>rfl
 obtain⟨_,D23⟩:=q23.df X G HK λ_ _ _ _ _ _=>Ci λ_ _ _=>rfl
 obtain⟨_,D24⟩:=q24.df X G Lp λ_ _ _ _ _ _=>Ci λ_ _ _=>rfl
 obtain⟨_,D25⟩:=q25.df X G Le λ_ _ _ _ _ _=>Ci λ_ _ _=>rfl
 obtain⟨_,D26⟩:=q26.df X G Gy λ_ _ _ _ _ _=>FM λ_ _ _ _=>rfl
 obtain⟨_,D27⟩:=q27.df X G Lc λ_ _ _ _ _ _=>Ci λ_ _ _=>rfl
 obtain⟨_,D28⟩:=q28.df X G Gv λ_ _ _ _ _ _=>Dk λ_ _=>rfl
 obtain⟨_,D29⟩:=q29.df X G Li λ_ _ _ _ _ _=>Ci λ_ _ _=>rfl
 obtain⟨_,D30⟩:=q30.df X G Jo λ_ _ _ _ _ _=>Ci λ_ _ _=>rfl
 obtain⟨_,D31⟩:=q31.df X G Jh λ_ _ _ _ _ _=>Ci λ_ _ _=>rfl
 obtain⟨_,D32⟩:=q32.df X G Jn λ_ _ _ _ _ _=>Ci λ_ _ _=>rfl
 obtain⟨_,D33⟩:=q33.df X G Gu λ_ _ _ _ _ _=>Dk λ_ _=>rfl
 obtain⟨_,D34⟩:=q34.df X G Ll λ_ _ _ _ _ _=>Ci λ_ _ _=>rfl
 obtain⟨_,D35⟩:=q35.df X G K9 λ_ _ _ _ _ _=>Ci λ_ _ _=>rfl
 obtain⟨_,D36⟩:=q36.df X G Lq λ_ _ _ _ _ _=>Dk λ_ _=>rfl
 obtain⟨_,D37⟩:=q37.df X G Ln λ_ _ _ _ _ _=>FM λ_ _ _ _=>rfl
 obtain⟨_,D38⟩:=q38.df X G Lk λ_ _ _ _ _ _=>Ci λ_ _ _=>rfl
 obtain⟨_,D39⟩:=q39.df X G K8 λ_ _ _ _ _ _=>Dk λ_ _=>rfl
 obtain⟨_,D40⟩:=q40.df X G Ld λ_ _ _ _ _ _=>Ci λ_ _ _=>rfl
 obtain⟨_,D41⟩:=q41.df X G ["text"] λ_ _ _ _ _ _=>CV λ_=>rfl
 obtain⟨_,D42⟩:=q42.df X G ["line"] λ_ _ _ _ _ _=>CV λ_=>rfl
 obtain⟨_,D43⟩:=q43.df X G ["lines"] λ_ _ _ _ _ _=>CV λ_=>rfl
 obtain⟨_,D44⟩:=q44.df X G ["rows"] λ_ _ _ _ _ _=>CV λ_=>rfl
 obtain⟨_,D45⟩:=q45.df X G ["rows"] λ_ _ _ _ _ _=>CV λ_=>rfl
 obtain⟨_,D46⟩:=q46.df X G ["places", "shapes"] λ_ _ _ _ _ _=>Dk λ_ _=>rfl
 obtain⟨_,D47⟩:=q47.df X G ["_law_script", "_law_k", "_law_many"] λ_ _ _ _ _ _=>Ci λ_ _ _=>rfl
 obtain⟨_,D48⟩:=q48.df X G ["_law_text"] λ_ _ _ _ _ _=>CV λ_=>rfl
 obtain⟨_,D49⟩:=q49.df X G ["_law_script", "_law_k", "_law_many"] λ_ _ _ _ _ _=>Ci λ_ _ _=>rfl
 obtain⟨_,D50⟩:=q50.df X G ["_law_script", "_law_k", "_law_room_here", "_law_name"] λ_ _ _ _ _ _=>FM λ_ _ _ _=>rfl
 obtain⟨_,D51⟩:=q51.df X G ["_law_script", "_law_places", "_law_things"] λ_ _ _ _ _ _=>Ci λ_ _ _=>rfl
 obtain⟨_,D52⟩:=q52.df X G ["_law_room_here", "_law_place"] λ_ _ _ _ _ _=>Dk λ_ _=>rfl
 obtain⟨_,D53⟩:=q53.df X G ["_law_script", "_law_k", "_law_room_here"] λ_ _ _ _ _ _=>Ci λ_ _ _=>rfl
 obtain⟨_,D54⟩:=q54.df X G HG λ_ _ _ _ _ _=>FM λ_ _ _ _=>rfl
 obtain⟨_,D55⟩:=q55.df X G Lg λ_ _ _ _ _ _=>Ci λ_ _ _=>rfl
 obtain⟨_,D56⟩:=q56.df X G Jl λ_ _ _ _ _ _=>CV λ_=>rfl
 obtain⟨_,D57⟩:=q57.df X G Lf λ_ _ _ _ _ _=>Ci λ_ _ _=>rfl
 obtain⟨_,D58⟩:=q58.df X G Jm λ_ _ _ _ _ _=>lP U
 obtain⟨_,D59⟩:=q59.df X G Lh λ_ _ _ _ _ _=>CV λ_=>rfl
 refine⟨fnOf "law" "law" (Fv Hl) (B9 Hl) (Aq Hl) .none kV60 dc60 pm60 an60 cd60 ct60,λs v=>.of_eq U,λbase _ _=>?_⟩
 have GQ:=eE (P:=l.prog) (w:=w) (base:=base) D47.F T
 have GP:=eF GQ
 have GX:=gH (P:=l.prog) (w:=w) (mg:=mg) (base:=base) D48.F
 have GN:=eQ (P:=l.prog) (w:=w) (base:=base) D49.F D47 D48 T GQ GX
 have GL:=fA (P:=l.prog) (w:=w) (base:=base) D50.F D47 T GP
 have GR:=dG (P:=l.prog) (w:=w) (base:=base) D51.F D47 D49 D50 T GP GN GL
 have GI:=fE (P:=l.prog) (w:=w) (mg:=mg) (base:=base) D52.F
 have GW:=cU (P:=l.prog) (w:=w) (base:=base) D53.F D47 D52 T GP GI
 have Gis:=fU (P:=l.prog) (w:=w) (base:=base) D41.F T M
 have Grl:=dS  D42.F D41 T M Gis
 have Grr:=dJ  D43.F D42 T Grl
 have Gth:=cY (P:=l.prog) (w:=w) (base:=base) D44.F T M
 have Gpl:=eA (P:=l.prog) (w:=w) (base:=base) D45.F T M
 have Gck:=gY (P:=l.prog) (w:=w) (mg:=mg) (base:=base) D46.F
 have Gin:=gB  F61 L D43 D45 D44 D46 Grr Gpl Gth Gck
 have Gps:=eC (P:=l.prog) (w:=w) (base:=base) F62 L T
 have DD:Dd l.prog w K mg aP:=⟨Cb X G gPl,VA lPl sPl vPl hPl Δ⟩
 have DL:Dl l.prog w K mg aL t1 t2 t3 t4:=⟨Cb X G gLi,VA lLi sLi vLi hLi (by show List.Nodup ([Sum.inr "open",Sum.inr "shut",Sum.inr "lock",Sum.inr "unlock"]:List Key);decide +kernel),λH=>.inr ⟨_,iT1,nT1,lT1,U,U,by
   have h1:=(DU wT1).length
   have h2:iT1.toList.length=iT1.size:=by simp
   have h3:([V.str "shut",V.str "open"]:List V).length=2:=rfl
   have hs:sizeLine=16777216:=AF
   lia,DU wT1⟩,λH=>.inr ⟨_,iT2,nT2,lT2,U,U,by
   have h1:=(DU wT2).length
   have h2:iT2.toList.length=iT2.size:=by simp
   have h3:([V.str "open",V.str "shut"]:List V).length=2:=rfl
   have hs:sizeLine=16777216:=AF
   lia,DU wT2⟩,λH=>.inr ⟨_,iT3,nT3,lT3,U,U,by
   have h1:=(DU wT3).length
   have h2:iT3.toList.length=iT3.size:=by simp
   have h3:([V.str "shut",V.str "locked"]:List V).length=2:=rfl
   have hs:sizeLine=16777216:=AF
   lia,DU wT3⟩,λH=>.inr ⟨_,iT4,nT4,lT4,U,U,by
   have h1:=(DU wT4).length
   have h2:iT4.toList.length=iT4.size:=by simp
   have h3:([V.str "locked",V.str "shut"]:List V).length=2:=rfl
   have hs:sizeLine=16777216:=AF
   lia,DU wT4⟩⟩
 have Ghi:=gD  D13.F L b62 ⟨a62,i62,k62⟩ Gps
 have Gln:=fF  D14.F L b62 ⟨a62,i62,k62⟩ Gps
 have Glo:=fG (P:=l.prog) (w:=w) (mg:=mg) (base:=base) F64 L
 have Gld:=fH  F65 L b64 ⟨a64,i64,k64⟩ Glo
 have Gky:=fQ  F66 L b64 ⟨a64,i64,k64⟩ Glo
 have Gif:=fY (P:=l.prog) (w:=w) (mg:=mg) (base:=base) D22.F
 have Gio:=fS  D23.F ⟨D14,Gln⟩
 have Gch:=hE  D26.F L b62 ⟨a62,i62,k62⟩ Gps
 have Grd:=dV  D16.F T L DD b62 ⟨a62,i62,k62⟩ Gps
 have Ghf:=gE  D21.F L D22 Gif b66 ⟨a66,i66,k66⟩ Gky b65 ⟨a65,i65,k65⟩ Gld
 have Gml:=eR  D20.F DL ⟨D14,Gln⟩ ⟨D21,Ghf⟩ ⟨D26,Gch⟩
 have Gcp:=hH  D24.F ⟨D22,Gif⟩ ⟨D23,Gio⟩
 have Gla:=fO  D25.F ⟨D13,Ghi⟩ ⟨D26,Gch⟩
 have Gpu:=dY  D19.F ⟨D24,Gcp⟩ ⟨D25,Gla⟩
 have Gtk:=cZ  D18.F T D13 D22 D23 D26 Ghi Gif Gio Gch
 have Gmt:=eS  D17.F ⟨D18,Gtk⟩ ⟨D19,Gpu⟩
 have Gtu:=cV  D15.F DL ⟨D16,Grd⟩ ⟨D17,Gmt⟩ ⟨D20,Gml⟩
 have Mq:Mc mg:=⟨⟨_,Cb X G gWc⟩,⟨_,Cb X G gSc⟩,⟨_,Cb X G gNc⟩,⟨_,Cb X G gRc⟩⟩
 have LQ:XI K CH:=⟨CCH,nCH_1,nCH_2,nCH_3,nCH_4,nCH_5,nCH_6⟩
 have LT:My K CT:=⟨CCT,nCT_1,nCT_2,nCT_3⟩
 have XD:Xk K mg GE NN "NoDeed" := ⟨Cb X G aE,oE,sE⟩
 have XL:Xk K mg GE X1 "NoLook" := ⟨Cb X G aX1,oX1,sX1⟩
 have XC:Xk K mg GE X2 "NoChart" := ⟨Cb X G aX2,oX2,sX2⟩
 have XT:Xk K mg GE X3 "TooMany" := ⟨Cb X G aX3,oX3,sX3⟩
 have KN:=mJ (K:=K) (mg:=mg) (Cb X G aG) oG XD XL XC XT hKB
 have Gsf:=dE (P:=l.prog) (w:=w) (mg:=mg) (base:=base) F67 L
 have Gil:=fV  D29.F L MW b62 ⟨a62,i62,k62⟩ Gps
 have Grk:=dQ  D28.F T ⟨D29,Gil⟩
 have Gst:=dC  D33.F L b67 ⟨a67,i67,k67⟩ Gsf
 have Gfe:=gI  D30.F T D14 D13 D33 Gln Ghi Gst
 have Gtr:=cW  D31.F L D14 b65 ⟨a65,i65,k65⟩ Gln Gld
 have Ghe:=gC  D32.F T D14 D13 Gln Ghi
 have Glk:=eY  D27.F D28 D33 D30 D31 D32 Grk Gst Gfe Gtr Ghe
 have Gso:=dF (P:=l.prog) (w:=w) (mg:=mg) (base:=base) D1.F
 have Gcm:=gV (P:=l.prog) (w:=w) (mg:=mg) (base:=base) D3.F Mq
 have Gcn:=gU (P:=l.prog) (w:=w) (mg:=mg) (base:=base) D5.F T Mq
 have Gcq:=gS (P:=l.prog) (w:=w) (mg:=mg) (base:=base) D6.F Mq
 have Gct:=gQ (P:=l.prog) (w:=w) (mg:=mg) (base:=base) D7.F T
 have Gce:=gX (P:=l.prog) (w:=w) (mg:=mg) (base:=base) D8.F T
 have Gcs:=gR  D4.F T Mq ⟨D5,Gcn⟩ ⟨D6,Gcq⟩
 have Grks:=dM  D10.F T ⟨D7,Gct⟩
 have Gre:=dU  D9.F T ⟨D7,Gct⟩ ⟨D8,Gce⟩ ⟨D1,Gso⟩
 have Gpa:=eH  D11.F T ⟨D1,Gso⟩
 have Gdo:=gJ  D12.F T ⟨D1,Gso⟩
 have Gic:=gA  F68 LQ T D3 Gcm D4 Gcs D9 Gre D10 Grks D11 Gpa D12 Gdo
 have Gno:=eM (P:=l.prog) (w:=w) (mg:=mg) (base:=base) D39.F T
 have Gdt:=gK  D38.F T ⟨D39,Gno⟩ ⟨D15,Gtu⟩
 have Glt:=eX  D40.F ⟨D27,Glk⟩
 have Gbn:=hO (P:=l.prog) (w:=w) (mg:=mg) (base:=base) D5.F XC T Mq
 have Gbp:=hL (P:=l.prog) (w:=w) (mg:=mg) (base:=base) D6.F XC Mq
 have Gbs:=hJ  D4.F XC T Mq ⟨D5,(FnOk.or (FnOk.up Gcn) Gbn)⟩ ⟨D6,(FnOk.or (FnOk.up Gcq) Gbp)⟩
 have Gmx:=eW (P:=l.prog) (w:=w) (mg:=mg) (base:=base) D3.F XC Mq
 have Gcx:=fZ  F68 ⟨D3,Gmx⟩
 have Gan:=hV (P:=l.prog) (w:=w) (mg:=mg) (base:=base) D36.F T XT ⟨_,Cb X G gWc⟩
 have Gna:=eN  D35.F T ⟨D36,Gan⟩ ⟨D15,Gtu⟩
 have GdT:=dX (P:=l.prog) (w:=w) (mg:=mg) (base:=base) D16.F T DD XD
 have GlT:=dN (P:=l.prog) (w:=w) (mg:=mg) (base:=base) D28.F T XL
 have Gtd:=gM  (ad:=JO [NN,X1,X2,X3]) D34.F ⟨D16,(FnOk.or (FnOk.up Grd) GdT)⟩ ⟨D28,(FnOk.or (FnOk.up Grk) GlT)⟩ ⟨D4,(FnOk.or (FnOk.up Gcs) Gbs)⟩
 have Gco:=gZ  D37.F T ⟨mkCH,m68.at_,m68.fn,kcCH⟩ (Cb X G aCH) b68 (FnOk.or (FnOk.up Gic) (Gcx.mono Ξ)) ⟨D38,Gdt⟩ ⟨D40,Glt⟩
 have Gai:=hR  (ad:=JO [NN,X1,X2,X3]) F69 T LT ⟨D34,Gtd⟩ ⟨D35,Gna⟩ ⟨D37,Gco⟩
 have Gaw:=hQ (P:=l.prog) (w:=w) (mg:=mg) (base:=base) (C:=C) F70 T LT
 have Gct2:=hG  D54.F T KN ⟨mkCT,m69.at_,m69.fn,kcCT⟩ (Cb X G aCT) b69 Gai
 have Gpn:=dZ (P:=l.prog) (w:=w) (mg:=mg) (base:=base) D56.F T
 have Gal:=hU (P:=l.prog) (w:=w) (mg:=mg) (base:=base) D58.F T
 have Gtm:=cX  D57.F T LT ⟨mkCT,m69.at_,m69.fn,kcCT⟩ (Cb X G aCT) b69 Gai b70 m70 Gaw ⟨D47,GP⟩ ⟨D56,Gpn⟩ ⟨D54,Gct2⟩
 have Ggr:=gG  D59.F T ⟨mk,a61,i61,kc⟩ (Cb X G aC) b61 Gin ⟨D47,GP⟩ ⟨D56,Gpn⟩ ⟨D54,Gct2⟩ ⟨D57,Gtm⟩ D58 Gal
 have Gsp:=dB (P:=l.prog) (w:=w) (mg:=mg) (base:=base) D55.F T ⟨D47,GP⟩
 exact fM F60 T LT ⟨mk,a61,i61,kc⟩ (Cb X G aC) b61 Gin ⟨mkCT,m69.at_,m69.fn,kcCT⟩ (Cb X G aCT) b69 Gai b70 m70 Gaw ⟨D47,GP⟩ ⟨D59,Ggr⟩ ⟨D51,GR⟩ ⟨D53,GW⟩ ⟨D55,Gsp⟩ ⟨D54,Gct2⟩
def walk {l:PySem.W.OpenLaw}{q:Program}{loose:List Str}{XP:(Str->Option Value)->Heap->Prop}{YP:World->Heap->Prop}{d:DefRec}{K:Params->W.Frag}(hn:l.most=some 63)(hdf:d.params.defaults=[])
  (hY:∀(w:World) (h:Heap),YP w h->(K w.params).In h)
  (F:∀(w:World) (mg:Str->Option Value) (fa:Addr) (h:Heap),(K w.params).In h->h.Ns mainGlobals mg->mg d.name=some (.ref fa) -> ∃fd:FuncData,(∀(s:Shared) (u:Value),BindsTo s fd ⟨[u],[]⟩ [("_law_script",u)])/\∀base:Heap,(K w.params).In base->base.Ns mainGlobals mg->FnOk l.prog w (K w.params) mg base CX0 15 fa fd ["_law_script"] (MX (K w.params))) :
  PySem.W.WalkO q loose XP YP l.row.toRowW d [] (λf vs=>PySem.call f vs):=
 L2.walk_of (x := "_law_script") hn Ξ hdf ⟨U,Ξ,Ξ⟩ hY F (λ_ _ a ns hl _ hS=>⟨a,ns,U,hS,hl,λ_=>U⟩) λ_ _ _ _ _ z=>z
end K21
namespace PySem.W.Fast
def tw5019208139173483994:=0
def tw15025930281038325583:=0
def tw2614029146138782455:=0
def tw5634773119606667199:=0
def tw2836270304529340511:=0
def tw17443238534001688421:=0
def tw13513658905043539627:=0
def tw12840106063217030094:=0
def tw15354423947843532232:=0
def tw15204227693236366606:=0
def tw5353642550722626692:=0
def tw54623474112102582:=0
def tw1794142392532209866:=0
def tw12046570284567126647:=0
def tw16735490276072384846:=0
def tw1986865819519404478:=0
def tw9294419213578778627:=0
def tw11076468057535624884:=0
def tw9483355981251266861:=0
def tw15536204471232328761:=0
def tw6663576605281553591:=0
def tw7559656905209995024:=0
def tw13620568097891459155:=0
def tw17881968948936444687:=0
def tw344634134383189795:=0
def tw9645916997521895617:=0
def tw10229595805969109401:=0
def tw5082815935948839140:=0
def tw16957004918263648322:=0
def tw9826942005834847309:=0
def tw1039263725820035457:=0
def tw13035069163093697910:=0
def tw7963955975448575880:=0
def tw11208999513373503310:=0
def tw421461232484508588:=0
def tw6535124888329375072:=0
def tw8007913659918955066:=0
def tw11786304431894360192:=0
def tw4093829710914931681:=0
def tw4621698300996928255:=0
def tw17572672694706316158:=0
def tw4956106669966565989:=0
def tw8047960514191489382:=0
def tw12688252070876419728:=0
def tw16424871230430826444:=0
def tw5900056285523699672:=0
def tw10897630986081117670:=0
def tw13648280110160166973:=0
def tw3403637811139529855:=0
def tw17211488636211042680:=0
def tw1517049986509924233:=0
def tw11172460358722033390:=0
def tw16791611549557658477:=0
def tw8482750658871216468:=0
def tw17458884129501669585:=0
def tw5045656554356993264:=0
def tw4745584789192400396:=0
def tw7165909134548350022:=0
def tw6588234385303848563:=0
def tw6975135268815637674:=0
def tw4844248089866253001:=0
def tw14482708981563282432:=0
def tw17516431486363408911:=0
def tw16796908840246412092:=0
def tw13934161613945347992:=0
def tw17134103707608773570:=0
def tw7442009457018880968:=0
def tw11385940150731296168:=0
def tw1984007035968252825:=0
def tw5881863385618353229:=0
def tw17545006916742514688:=0
def tw10455486985298460358:=0
def tw8418550334581293938:=0
def tw13525449762885850972:=0
def tw10372317647456579188:=0
def tw1781398476807812099:=0
def tw11894619306589952076:=0
def tw9488348234958373321:=0
def tw9326320701272211263:=0
def tw11495223973745392632:=0
def tw17319797536521865082:=0
def tw7686510938148564360:=0
def tw14090408267596203404:=0
def tw5874057719189547074:=0
def tw11909814196463310206:=0
def tw16483135828740514151:=0
def tw2487885995502306984:=0
def tw5143148538687134212:=0
def tw6547154876330331709:=0
def tw13862345614360440284:=0
def tw3668209641848803158:=0
def tw8620861857929335607:=0
def tw1532711373864012435:=0
def tw6151635244556538828:=0
def tw6083012093328608667:=0
def tw10287670867858387998:=0
def tw16346934633671256125:=0
def tw10550724647147128318:=0
def tw17835254858853987127:=0
def tw15591880630108720080:=0
def tw11143818776961207020:=0
def tw9049654086623321180:=0
def tw17004016940949915192:=0
def tw3264841275340256370:=0
def tw3128618080535958081:=0
def tw5694067261900494761:=0
def tw4453818609040927902:=0
def tw9046213240098729893:=0
def tw2666263439367589598:=0
def tw3351693767677368472:=0
def tw17374975056541167763:=0
def tw703672873760577265:=0
def tw17636718835151430433:=0
def tw8151272644524169937:=0
def tw7164577146323196272:=0
def tw8814904897039694907:=0
def tw9338003324642971091:=0
def tw7514918479491994842:=0
def tw17814979355153855942:=0
def tw4014476181847706243:=0
def tw15556839150920172036:=0
def tw4590970042092279536:=0
def tw9685072253198016881:=0
def tw12981643391866861280:=0
def tw10440620773328979654:=0
def tw1175624759664858126:=0
def tw810095139288424520:=0
def tw3251809964667031177:=0
def tw10103426202841456736:=0
def tw16079306666000522605:=0
def tw1503236163274457095:=0
def tw17010401765333864521:=0
def tw12885759779546843295:=0
def tw6873827880441940289:=0
def tw10757999334380214974:=0
def tw3053372525476772896:=0
def tw18098758861701529158:=0
def tw12009665129862500212:=0
def tw14396629048674284308:=0
def tw2282084606621520144:=0
def tw15896558049609794024:=0
def tw845459402924015627:=0
def tw16900877928390772818:=0
def tw13773449496158875873:=0
def tw16233284945744452373:=0
def tw1470721090110845943:=0
def tw4971511927091445482:=0
def tw11780716427763815167:=0
def tw6437596333216772361:=0
def tw2257286663791547602:=0
def tw11501811331540131722:=0
def tw6674438064148552132:=0
def tw1405902578390741836:=0
def tw16628490109937404062:=0
def tw605340309129385820:=0
def tw18305780809893623315:=0
def tw12194356627282656271:=0
def tw7217841385993080487:=0
def tw7450336186791707518:=0
def tw10598920370292204556:=0
def tw14726177743085323605:=0
def tw2768493547083353390:=0
def tw8994894323363734668:=0
def tw3769450808612394723:=0
def tw16792860140603462116:=0
def tw11038240698966052733:=0
def tw16981951960703358092:=0
def tw2904657833414023674:=0
def tw15692180115198628759:=0
def tw13539458701890743690:=0
def tw12508082103634784480:=0
def tw13979631603592735160:=0
def tw18183445910271616936:=0
def tw12306317577963778565:=0
def tw1409755063613794803:=0
def tw4966785309631134483:=0
def tw5723845310484185810:=0
def tw5727356018335050437:=0
def tw11107835671531918456:=0
def tw17724570516039575323:=0
def tw2017202516746455708:=0
def tw455574134304824044:=0
def tw13941533805946420381:=0
def tw14020424628931852051:=0
def tw925972328842277126:=0
def tw14615870868008344938:=0
def tw535658118511376886:=0
def tw1055112678213313668:=0
def tw2089513431283791515:=0
def tw11092431900667364559:=0
def tw8715593079901800774:=0
def tw17061304721169331352:=0
def tw4116322000264438999:=0
def tw10318967514955626400:=0
def tw3047884159018015267:=0
def tw17087458959862556830:=0
def tw9760291261216739392:=0
def tw13303662734186098858:=0
def tw7680293113123214483:=0
def tw18424372777829562428:=0
def tw12021320368615410074:=0
def tw12304861231029018983:=0
def tw15594701517329490841:=0
def tw2812035257078444417:=0
def tw17991469068251035167:=0
def tw10802604794312612447:=0
def tw16288271124780604382:=0
def tw1125289138739591261:=0
def tw6234633872920523000:=0
def tw4632936498685212332:=0
def tw10642071391533443056:=0
def tw15396277722271579545:=0
def tw5514502541832167563:=0
def tw15513069263289329176:=0
def tw8434917447802414477:=0
def tw14780273195334372332:=0
def tw11606582891774523374:=0
def tw9461092399566860037:=0
def tw13338476241724972938:=0
def tw1281510360717291645:=0
def tw1879924413068665489:=0
def tw3262021800168121435:=0
def tw16304016879627851223:=0
def tw4732055079125753605:=0
def tw7694170548924265165:=0
def tw2719535207549819703:=0
def tw17174643777264300941:=0
def tw1961598169352205604:=0
def tw3214877842748947968:=0
def tw1405416062868542548:=0
def tw1861872994451503312:=0
def tw5345282128523198013:=0
def tw4024465684212339964:=0
def tw18000828870067909594:=0
def tw12683588984251252292:=0
def tw6823089005323605429:=0
def tw1431715167071536715:=0
def tw10515541644047234398:=0
def tw15132965466174045209:=0
def tw17189035458162794672:=0
def tw2164608660059487708:=0
def tw9430730036884214415:=0
def tw16723225285465599400:=0
def tw18396630686585242506:=0
def tw10656267673289718839:=0
def tw16147512636140257357:=0
def tw4646004534705747555:=0
def tw17768961893587961434:=0
def tw5175126246226403031:=0
def tw1684390930258902537:=0
def tw13943253445134943121:=0
def tw13310511136971419513:=0
def tw12017084445105906698:=0
def tw10978245316746170154:=0
def tw4591046753181431439:=0
def tw891881423305183487:=0
def tw17023722234067872096:=0
def tw17339264824979871155:=0
def tw11041972105240125144:=0
def tw8365641682121176067:=0
def tw13113843318010021875:=0
def tw17002605382316608273:=0
def tw1644656249168700113:=0
def tw2562523353266753614:=0
def tw15305660193400499983:=0
def tw10176160804033787794:=0
def tw4286348444391782357:=0
def tw5375154688801547783:=0
def tw8814249511299629335:=0
def tw12391573286887306946:=0
def tw16152506858232995725:=0
def tw8399105992194354515:=0
def tw7526222193761709744:=0
def tw12515536644581022502:=0
def tw15004543569669698995:=0
def tw18400452393785770749:=0
def tw10463546131565150875:=0
def tw9768993224383606886:=0
def tw11061303961322307226:=0
def tw8599650129026228028:=0
def tw7695849131373973168:=0
def tw13353482960662599970:=0
def tw12769828250928194698:=0
def tw5800273254388940337:=0
def tw3807436031504178763:=0
def tw2842422086174818299:=0
def tw14104366647431135335:=0
def tw11922120395600005429:=0
def tw16011498302557747443:=0
def tw9986962459400290473:=0
def tw8786498634278920270:=0
def tw11757263493305150069:=0
def tw14264288772326829720:=0
def tw7112113830423708031:=0
def tw2906532340836046623:=0
def tw2466235107192563066:=0
def tw11750005876557436371:=0
def tw13598666141290779315:=0
def tw10945084765588808717:=0
def tw4267794503689483123:=0
def tw8349047861521161014:=0
def tw11824434560014220708:=0
def tw3349217403807693693:=0
def tw2738296709230324964:=0
def tw18273473133665906209:=0
def tw10264276797384874699:=0
def tw14425679042255971415:=0
def tw11265729477701669004:=0
def tw10594636726412357655:=0
def tw938204585922757837:=0
def tw9139357599954010265:=0
def tw9428561682106296416:=0
def tw8505873407624729737:=0
def tw2129149061043635705:=0
def tw3730420975497746623:=0
def tw16528357689168411770:=0
def tw2261903441485218724:=0
def tw16832890520163001690:=0
def tw1057002036369871401:=0
def tw9812844351964724091:=0
def tw8884512129518439226:=0
def tw6921129486186351792:=0
def tw16376726576614438134:=0
def tw15495043338538169971:=0
def tw12673323232477647457:=0
def tw11560163941455961282:=0
def tw11032982300872757928:=0
def tw17874700881690932521:=0
def tw1548630021276513045:=0
def tw15600711176306409533:=0
def tw11611720932347582622:=0
def tw10267959489328996156:=0
def tw18282853420845671994:=0
def tw12901122009906349584:=0
def tw5610638683157870302:=0
def tw12175110786723274895:=0
def tw10638886712167402115:=0
def tw6739216139785707146:=0
def tw9676113774398730648:=0
def tw2355815335904655643:=0
def tw17907563137636569225:=0
def tw14975044881383151873:=0
def tw6037267052143781086:=0
def tw398535902675948863:=0
def tw11890851691022176006:=0
def tw1148751193259815964:=0
def tw9026309327128407356:=0
def tw16915150877008912816:=0
def tw1368377931923106137:=0
def tw13045282603555967126:=0
def tw9964688230215244804:=0
def tw9352107772701000099:=0
def tw8665257026115049546:=0
def tw8027393472909738914:=0
def tw7095044753440349370:=0
def tw6713212984969824884:=0
def tw14084403328909069098:=0
def tw12208020394838132375:=0
def tw14084775657473792691:=0
def tw3433884517960416748:=0
def tw12888181246824164845:=0
def tw10948988911797088147:=0
def tw4017365428679718203:=0
def tw6183865558372087649:=0
def tw1728548495902259008:=0
def tw3092233583059700204:=0
def tw12963558730049131902:=0
def tw8057053824230400647:=0
def tw15309829311592820442:=0
def tw15239981824417929987:=0
def tw8642691764801512540:=0
def tw7229878360809336801:=0
def tw4147408203075260324:=0
def tw3055895289874809737:=0
def tw2843515056968069833:=0
def tw17839166931823806132:=0
def tw15591885241372498731:=0
def tw14614434653053496939:=0
def tw13817543412958819819:=0
def tw2833331974118955966:=0
def tw15487719259117678847:=0
def tw10748448524989948920:=0
def tw13775873203758644961:=0
def tw9839616797910678464:=0
def tw9190927611346434696:=0
def tw8708798737080649781:=0
def tw7101910750975086629:=0
def tw5476229582861170689:=0
def tw4951915462038898718:=0
def tw379111370561193038:=0
def tw3584454619371287772:=0
def tw2246031741184050896:=0
def tw18008443304906908847:=0
def tw17946526404036589019:=0
def tw1736263717508011678:=0
def tw1722997417544285434:=0
def tw15773781674818419230:=0
def tw15565641437290799333:=0
def tw12788532030548947167:=0
def tw12361192021450865501:=0
def tw11747002214195068248:=0
def tw10259055057145852220:=0
def tw10095646676292973757:=0
def tw10802806158760099641:=0
def tw9872519891541172803:=0
def tw9493576801060622868:=0
def tw9268053071718808393:=0
def tw8046072209151054692:=0
def tw7928593396948010864:=0
def tw7145240768762456587:=0
def tw7030318688721196661:=0
def tw6153310632922425166:=0
def tw5680511609077479333:=0
def tw5644379262526986773:=0
def tw5515689336258518890:=0
def tw5126837459512567981:=0
def tw4705624500151944552:=0
def tw4032982158904623396:=0
def tw3566873923666894058:=0
def tw3457494761480226578:=0
def tw2683967147179838548:=0
def tw17994298856480621130:=0
def tw17278506646607302222:=0
def tw16133457317219837253:=0
def tw15994676701741883587:=0
def tw15689424726759771125:=0
def tw15194777451109257710:=0
def tw15151120658255999430:=0
def tw14616169718692011265:=0
def tw14394516251497915792:=0
def tw12705110783605833863:=0
def tw12076173703005761265:=0
def tw10617515266348637827:=0
def tw10603093686787455249:=0
def tw10357163778660026699:=0
def tw12673982786862428774:=0
def tw6321327761036383354:=0
def tw9638912182155659072:=0
def tw17029100095765300565:=0
def tw15916711493687072230:=0
def tw7264305811505715246:=0
def tw13123770176241817028:=0
def tw9749411845362835026:=0
def tw16501298611223830590:=0
def tw8172758574002899987:=0
def tw6448866381936983736:=0
def tw2038808116980185564:=0
def tw1702750945468892058:=0
def tw15391565815183629231:=0
def tw11180120304290803172:=0
def tw5479536234760402650:=0
def tw7542066960571701006:=0
def tw5465056150483619726:=0
def tw2790969573936718687:=0
def tw15378191483872372641:=0
def tw13612085039435354403:=0
def tw7467384246186046536:=0
def tw6964348585157460478:=0
def tw539783323076005160:=0
def tw11475276073257379637:=0
def tw12233278703748093122:=0
def tw7082033437017398843:=0
def tw12292995160335044486:=0
def tw11199497117778775794:=0
def tw720713753759592466:=0
def tw2329843576794046010:=0
def tw9084012364581380363:=0
def tw6762102919991183413:=0
def tw6492654931756784534:=0
def tw5632251158305258677:=0
def tw4911545460968570085:=0
def tw3550709451213996613:=0
def tw3140068890348445354:=0
def tw2975291907238851441:=0
def tw18417188496478316101:=0
def tw18153039256128037003:=0
def tw177140836136641396:=0
def tw15502308151702374731:=0
def tw13799320952404946685:=0
def tw13387858972928022465:=0
def tw12950066707503198951:=0
def tw12402740323928070602:=0
def tw12196873938000103893:=0
def tw1097119196074696818:=0
def tw682004604021983172:=0
def tw18411897718900098814:=0
def tw8884868373730172972:=0
def tw8338692614295547374:=0
def tw567514940476781308:=0
def tw5119329738003126303:=0
def tw2999411958350790126:=0
def tw16941324935803387278:=0
def tw14540253754116854287:=0
def tw13353046090926565190:=0
def tw12309975897949905570:=0
def tw12111457677737249651:=0
def tw4799915970763011938:=0
def tw2082800215757431954:=0
def tw13168559796350853504:=0
def tw11920665323075746331:=0
def tw10981261080131283365:=0
def tw10984785293464573203:=0
def tw1657787930533226475:=0
def tw12656207280266211758:=0
def tw15745084607908811200:=0
def tw9856909856925381987:=0
def tw7386955124416747115:=0
def tw5672228706857289153:=0
def tw4214850217081818680:=0
def tw3627949567494719917:=0
def tw3465252768318438630:=0
def tw17643845012868344602:=0
def tw14178482482642093969:=0
def tw9020862524500242488:=0
def tw6514180014472379280:=0
def tw6253228073384189790:=0
def tw5900873429585639317:=0
def tw578984576813811311:=0
def tw4558151430012402426:=0
def tw4548400620243724773:=0
def tw2961999729464959838:=0
def tw2902411792506444556:=0
def tw2844869248068440159:=0
def tw2255136386532683147:=0
def tw18301545495076586143:=0
def tw18236436142717996139:=0
def tw15414740000675884516:=0
def tw15354455837716346555:=0
def tw14556739159105155416:=0
def tw14242748160488413090:=0
def tw10934829436039884389:=0
def tw10392970847783457646:=0
def tw9893699502665294115:=0
def tw7494040867839243661:=0
def tw7155398463765648034:=0
def tw688798941222896812:=0
def tw6804865279305790724:=0
def tw6570846396833925012:=0
def tw5548764058841495245:=0
def tw4125762295023887870:=0
def tw4073426356969792940:=0
def tw3751006883159749880:=0
def tw3212400086778244206:=0
def tw307213541193209666:=0
def tw1991016372093685468:=0
def tw1981336355833866470:=0
def tw18411415532475269421:=0
end PySem.W.Fast
open PySem PySem.W PyProof.Rows
set_option maxRecDepth 100000 in
set_option maxHeartbeats 0 in
theorem PySem.Challenge.cw_grope_k21_no_atlas_holds : PySem.Challenge.rw_grope_k21_no_atlas.Holds := by
 w_on;o_law;k_head;(case hw=>w_witness2)
 k_fill
 refine K21.walk (l:=PySem.Challenge.rw_grope_k21_no_atlas) rfl rfl (λw h Y=>PySem.W.kIn_of Y) ?F
 case F=>
  intro w mg fa h KX G hmg
  apply K21.all_mk KX G hmg
  all_goals (try unfold K21.nA)
  all_goals (try unfold K21.lK)
  all_goals first | k_is | (refine' .mk ?a ?l ?c ?k;case a | l | c | k=>k_is) | (refine' .mk ?a ?i ?l ?c ?k;case a | i | l | c | k=>k_is) | k_exc | rfl | decide +kernel | kernel_rfl | (with_unfolding_all rfl)
