import PyProof.Rows.All
import Wide.All
import OpenK.AllK
import Wide.FinOn
import Lean
import PyProof.EqAt
import PyProof.EqKinds
import PyProof.TupleCall
import PySem.Challenge.RW_grope_k22_refusals_apart
set_option Elab.async false
set_option linter.all false
set_option maxRecDepth 100000
set_option maxHeartbeats 4000000
open Nat (le_of_lt ne_of_gt le_of_eq lt_trans le_of_not_lt lt_of_le_of_lt)
open List (mem_filter mem_filterMap any_eq_false of_mem_zip replicate length_singleton any_cons map_nil nodup_nil length_eq_zero_iff getElem?_eq_none foldl_cons pairwise_map take_zero range_succ)
open Option (isSome_iff_exists map_some isSome_map map_eq_some_iff isSome)
open Bool (not_eq_true')

noncomputable section
def Ae:=@PySem.wpAny_bind
def AK:=@List.getElem?_eq_some_iff
def An:=@PySem.wpAny_pure
def Ar:=@List.length_map
def Ai:=@if_neg
def AA:=@Nat.le_refl
def Bf:=@PySem.Heap.get?_push_of_some
def AR:=@List.mem_cons_of_mem
def AQ:=@decide_eq_true
def Bi:=@List.getElem?_eq_getElem
def AM:=@PySem.sizeLine_eq
def Bg:=@of_decide_eq_true
def As:=@if_pos
def A0:=@PySem.boot_len
def AX:=@List.length_append
def AW:=@List.mem_singleton
def Br:=@Bool.false_ne_true
def A8:=@decide_eq_false
def AD:=@List.mem_cons
def AZ:=@List.mem_cons_self
def A3:=@PySem.Heap.lt_size
def BI:=@PySem.Heap.get?_push_size
def A6:=@List.getElem?_map
def Bx:=@Option.some.inj
def CD:=@List.take_succ_eq_append_getElem
def BE:=@List.mem_of_getElem?
def BH:=@List.size_toArray
def C0:=@List.take_append_drop
def C6:=@PySem.F.slot_str_split
def Bj:=@List.map_cons
def Cf:=@Nat.lt_of_lt_of_le
def Bo:=@Nat.ne_of_lt
def Be:=@Nat.zero_le
def DA:=@PySem.F.plainAttrs_str
def AV:=@PySem.W.mg_of
def CQ:=@List.mem_append_right
def BL:=@PySem.wpAny_mono
def Ec:=@PySem.F.type_str_split
def BB:=@congrArg
def C5:=@PySem.wpAny_newObj_type
def B6:=@List.not_mem_nil
def BU:=@List.nodup_cons
def Ez:=@PySem.F.plainAttrs_list
def Ce:=@Bool.and_eq_true
def Cd:=@List.length_take
def B5:=@List.map_append
def Cp:=@List.length_cons
def Cc:=@List.mem_append
def CZ:=@PySem.wpAny_holding
def Dj:=@PySem.PassesOwn.never
def Co:=@PySem.W.mg_none_of
def EY:=@List.Perm.append_left
def CC:=@PySem.wpAny_of_eq
def EW:=@List.getElem?_append_left
def EV:=@List.mem_map_of_mem
def B4:=@or_false
def Eb:=@PySem.wpAny_specialOf
def Ea:=@List.cons.injEq
def D0:=@Int.toNat_of_nonneg
def Ey:=@PySem.wpAny_call_entry
def CP:=@List.append_nil
def Ex:=@List.length_replicate
def Ew:=@List.cons_append
def Gb:=@List.getElem?_set_self
def B0:=@List.mem_map
def EU:=@PySem.wpAny_truthy_bool
def Ga:=@List.getElem?_append_right
def F9:=@PySem.builtinLookup_eq_fast
def F8:=@List.getD_eq_getElem?_getD
def Fs:=@PySem.F.called_set
def Di:=@Sum.inr.inj
def F7:=@List.getElem?_set_ne
def JH:=@PySem.F.slot_dict_keyiterator_next
def Ho:=@PySem.wpAny_callSpecial?_slot
def Fq:=@decide_eq_true_eq
def Fp:=@List.take_of_length_le
def ET:=@List.length_set
def F6:=@beq_eq_false_iff_ne
def Dz:=@PySem.wpAny_field
def DZ:=@List.append_assoc
def Dy:=@List.getElem_mem
def Dx:=@List.take_length
def DY:=@List.length_drop
def DW:=@List.all_eq_true
def Eu:=@List.nodup_append
def Fo:=@PySem.codeAny_builtin
def Hn:=@PySem.Around.under_plainId
def F5:=@List.flatten_cons
def ES:=@Int.toNat_natCast
def ER:=@PySem.wpAny_attempt
def Lp:=@PySem.wpAny_typeNameOfWhole_keyiter
def JG:=@PySem.F.slot_list_append
def Fn:=@List.filterMap_cons
def Ln:=@PyProof.Rows.slot_tuple_getitem
def JF:=@List.Perm.append_right
def Lm:=@PyProof.Rows.callWith_type1
def Hm:=@PySem.wpAny_Call_Name_kw
def Hl:=@List.mem_replicate
def Og:=@PyProof.Rows.F.plain_set_update_loop
def F4:=@List.mem_append_left
def Gm:=@PySem.wpAny_passesOwn
def Gk:=@List.getElem?_of_mem
def Gj:=@PySem.typeLookup_type
def Fy:=@PySem.Paired.length
def LZ:=@Array.getElem?_eq_getElem
def DB:=@if_false
def HF:=@beq_self_eq_true
def HE:=@List.cons_ne_nil
def LY:=@PySem.wpAny_typeNameOf_keyiter
def LX:=@PySem.F.type_list_append
def JY:=@Array.length_toList
def JX:=@PySem.mem_of_lookup
def LW:=@PySem.F.slot_list_index
def Gi:=@Bool.false_eq_true
def Dm:=@Ne.symm
def Dk:=@List.map_map
def HD:=@Bool.eq_iff_iff
def EC:=@Nat.lt_irrefl
def LV:=@PySem.Heap.get?_update_other
def Fx:=@List.lookup_cons
def Gh:=@PySem.codeAny_mono
def HC:=@PySem.isSubtype_type
def LS:=@PySem.Heap.get?_update_self
def LR:=@Array.getElem?_toList
def HB:=@Int.emod_lt_of_pos
def LQ:=@List.perm_append_comm
def Se:=@PySem.wpAny_callSpecialIfBoundUnlessNone?_slot
def LO:=@PySem.F.slot_NoneType_hash
def JW:=@PySem.wpAny_isInstance
def EB:=@Nat.le_trans
def Fv:=@beq_iff_eq
def Fu:=@True.intro
def JV:=@List.perm_middle
def LN:=@List.mem_of_mem_drop
def HA:=@Nat.lt_succ_of_lt
def Hz:=@List.cons.inj
def OO:=@List.perm_append_singleton
def LM:=@List.getElem?_take_of_lt
def LL:=@List.length_reverse
def LK:=@List.replicate_succ
def JU:=@List.nil_append
def JT:=@List.Perm.trans
def LJ:=@List.getElem?_replicate
def ON:=@PySem.F.args_tuple_add_2
def LH:=@List.getElem?_drop
def Sd:=@PyProof.Rows.F.entry_set_update_loop
def OM:=@PySem.SeqAt.canLay_of_shaped
def LG:=@PySem.Obj.data_mapFields
def Hy:=@List.length_range
def Hx:=@Int.zero_add
def LF:=@List.Sublist.nodup
def OL:=@List.eq_of_mem_replicate
def Hw:=@List.map_set
def Gg:=@PySem.wpAny_rule
def JS:=@PySem.Heap.size_push
def EA:=@if_true
def Gf:=@PySem.call_meets
def Ge:=@List.find?_cons
def Gd:=@List.length_nil
def JR:=@List.drop_zero
def JQ:=@PyProof.Rows.joinParts_cons
def OK:=@PySem.F.entry_tuple_add
def OJ:=@PySem.F.type_list_index
def LD:=@PySem.F.slot_tuple_hash
def LC:=@List.reverse_cons
def LB:=@PySem.wpAny_dictEntries
def LA:=@PySem.PassesOwn.leaving
def Hv:=@List.getElem_inj
def OI:=@PySem.F.slot_tuple_add
def OH:=@PySem.Calls.callWith_builtin
def OG:=@PySem.F.slot_list_insert
def OF:=@PySem.F.excBase_ValueError
def OE:=@Array.getElem?_eq_none
def Hu:=@Int.emod_nonneg
def JP:=@PySem.wpAny_standAt
def JO:=@PySem.plainId_quiet
def Lz:=@Array.toList_inj
def Ly:=@PySem.wpAny_typeOf_ref
def JN:=@PySem.W.hideAll_get
def Gc:=@List.mem_range
def OD:=@PySem.StrLaws.glued_eq_join
def Lx:=@PySem.wpAny_execs_nil
def JM:=@Nat.lt_succ_self
def JL:=@List.take_sublist
def OC:=@PySem.Calls.evalArgs_plain
def OB:=@PySem.codeAny_call_builtin
def Lw:=@List.mem_of_mem_take
def OA:=@PySem.W.plainGet_of
def Oz:=@PySem.wpAny_isSubtype_exc
def Oy:=@List.length_pos_iff
def Ft:=@Nat.le_succ
def Lv:=@List.Perm.cons
def JK:=@List.any_eq_true
def Ox:=@Array.append_assoc
def Ow:=@PySem.Calls.spliced_cons
def Ov:=@PySem.W.callWith_K
def Ht:=@LawfulBEq.eq_of_beq
def EZ:=@Or.inr
def Ou:=@PySem.F.args_str_split_2
def Ot:=@List.contains_cons
def Os:=@PySem.wpAny_setField_rec
def Lu:=@Nat.add_assoc
def Ls:=@List.all_cons
def Sb:=@Array.getElem?_eq_some_iff
def Sa:=@PySem.F.excAttr_ValueError
def Lr:=@List.map_drop
def Oq:=@PySem.wpAny_assign_Name
def Oo:=@PySem.wpAny_pyIter_list
def On:=@PySem.Calls.spliced_nil
def Om:=@PySem.F.entry_str_split
def Ol:=@Array.size_append
def Oj:=@List.reverse_perm
def JJ:=@PySem.wpAny_call
def JI:=@PySem.typeIs_str
def R9:=@PySem.F.slot_dict_getitem
def R8:=@List.getLast?_eq_some_iff
def R7:=@List.drop_eq_getElem_cons
def R6:=@List.getLast?_eq_none_iff
def Lq:=@Nat.sub_zero
def Hr:=@List.map_take
def Oi:=@Bool.or_eq_true
def Oh:=@Nat.min_eq_left
namespace WK
open PySem PyProof.Rows
section
variable {prog:Program}{w:World}{A:Around}{E:Value->Shared->Prop}{s:Shared}
def PH (prog:Program)(w:World)(room:Nat)(h:Heap)(v:Value)(i:Int)(n:Nat):Prop:=∀(A:Around) (E:Value->Shared->Prop) (s:Shared) (Q:Int->Shared->Prop),A.units+room<cLine->s.heap=h->Q i { s with toks:=s.toks+n }->wpAny (model prog w) A (pyHash v) Q E s
inductive HH (prog:Program)(w:World)(room:Nat)(h:Heap):List Value->List Int->Nat->Prop
 | nil:HH prog w room h [] [] 0
 | cons {v:Value}{i:Int}{n:Nat}{vs:List Value}{is:List Int}{m:Nat}:PH prog w room h v i n->HH prog w room h vs is m->HH prog w room h (v::vs) (i::is) (n+m)
def Y2 (hu:A.units+(room+4)<cLine)(ho:s.heap.get? a=some o)(hc:o.cls=.type "tuple")(hd:o.data=.seq items n)(hp:HH prog w room s.heap items.toList is m)
  (h:Q (reduceHash (Builtin.Tuple.tupleHashOf is)) { s with toks:=s.toks+(m+1) }):wpAny (model prog w) A (pyHash (.ref a)) Q E s:=by
 have hT:s.TypeIs (.ref a) "tuple" := ⟨o,ho,hc⟩
 unfold pyHash
 first | unfold pyHashByItsType | skip
 first | refine Ae (wpAny_cRoomFor_or (.inr (by lia)) ?_) | skip
 refine Ae (Eb hT LD.lookup ?_)
 show wpAny _ _ (if (some (Value.builtin "tuple.__hash__") == some Value.none)=true then _ else _) Q E s
 rw[Ai (by rw[beq_builtin_none];exact Br)]
 refine Ae (Eb hT LD.lookup ?_)
 show wpAny _ _ (callSpecialIfBoundUnlessNone? (.ref a) "__hash__" _ >>= _) Q E s
 refine Ae (Se hT LD (Ey LD hT F.entry_tuple_hash ?_ (F.args_tuple_hash_1 _)))
 show wpAny _ _ (Builtin.Tuple.tupleItemsOf (.ref a) >>= _) _ _ s
 refine Ae (wpAny_tupleItemsOf ho hd ?_)
 refine Ae ?_
 rw[<- Array.forIn_toList]
 refine wpAny_forIn_list _
  (λrest (b:Array Int) s'=>∃(done left:List Int) (k l:Nat),is=done++left/\HH prog w room s.heap rest left l/\b.toList=done/\m=k+l/\s'={ s with toks:=s.toks+k })
  _ ?_ ?_ _ _ ⟨[],is,0,m,rfl,hp,rfl,by lia,rfl⟩
 ·rintro x rest b s' ⟨done,left,k,l,rfl,hl,hb,rfl,rfl⟩;cases hl with
  | @cons _ i n' _ is' m' h1 hl'=>
   refine Ae (h1 _ _ _ _ ?_ rfl ?_)
   ·show A.units+1+room<cLine;lia
   first
    | exact An ⟨done++[i],is',k+n',m',by simp,hl',by simp[hb],by lia,by simp[Lu]⟩
    | exact Ae (An (An ⟨done++[i],is',k+n',m',by simp,hl',by simp[hb],by lia,by simp[Lu]⟩))
 rintro b s' ⟨done,left,k,l,rfl,hl,hb,rfl,rfl⟩
 cases hl
 rw[CP]at h
 show wpAny _ _ (retInt (Builtin.Tuple.tupleHashOf b.toList)) _ _ _
 rw[hb]
 refine wpAny_ret_mkInt ?_
 show wpAny _ _ (if (decide (-(2:Int)^63<=Builtin.Tuple.tupleHashOf done) && decide (Builtin.Tuple.tupleHashOf done<2^63))=true then _ else _) Q E _
 unfold reduceHash at h
 by_cases hr:(decide (-(2:Int)^63<=Builtin.Tuple.tupleHashOf done) && decide (Builtin.Tuple.tupleHashOf done<2^63))=true
 ·rw[As hr];rw[As hr]at h;exact An (by simpa [Lu] using h)
 rw[Ai hr]
 rw[Ai hr]at h
 exact Ae (Gg (An (by simpa [Lu] using h)))
def Y3 {t:Tok} :PH prog w room h (.str x t) (hashStr w x) 1:=λA E s Q _ _ q=>wpAny_pyHash_str q
def Y4 :PH prog w room h .none 0xFCA86420 1:=λA E s Q _ _ q=>by
 have hT:s.TypeIs .none "NoneType" := rfl;unfold pyHash;first | unfold pyHashByItsType | skip
 have hv:[Value.none].any Value.onHeap=false:=rfl;refine Ae ?_;rw[cRoomFor,Ai (by rw[hv];exact Br)];refine An ?_;refine Ae (Eb hT LO.lookup ?_);show wpAny _ _ (if (some (Value.builtin "NoneType.__hash__") == some Value.none)=true then _ else _) Q E s;rw[Ai (by rw[beq_builtin_none];exact Br)];refine Ae (Eb hT LO.lookup ?_);show wpAny _ _ (callSpecialIfBoundUnlessNone? .none "__hash__" _ >>= _) Q E s;refine Ae (Se hT LO (Ey LO hT F.entry_NoneType_hash (show wpAny _ _ (retInt 0xFCA86420) _ _ s from ?_) (F.args_NoneType_hash_1 _)));refine wpAny_ret_mkInt ?_;show wpAny _ _ (if (decide (-(2:Int)^63<=0xFCA86420) && decide ((0xFCA86420:Int)<2^63))=true then _ else _) Q E _;rw[As (by decide)];exact An q
def PH.mono (x:PH prog w r h v i n)(l:r<=r'):PH prog w r' h v i n:=λA E s Q hu=>x A E s Q (by lia)
mutual
/-- None,a text,a tuple of such -/
def okT:PyData->Bool
 | .none=>true
 | .str _=>true
 | .tuple l=>okTs l
 | _=>false
def okTs:List PyData->Bool
 | []=>true
 | d::r=>okT d && okTs r
end
mutual
def hD (w:World):PyData->Int
 | .none=>0xFCA86420
 | .str x=>hashStr w x
 | .tuple l=>reduceHash (Builtin.Tuple.tupleHashOf (NO w l))
 | _=>0
def NO (w:World):List PyData->List Int
 | []=>[]
 | d::r=>hD w d::NO w r
end
mutual
def NR:PyData->Nat
 | .tuple l=>NQ l+1
 | _=>1
def NQ:List PyData->Nat
 | []=>0
 | d::r=>NR d+NQ r
end
mutual
def dpD:PyData->Nat
 | .tuple l=>dpDs l+4
 | _=>0
def dpDs:List PyData->Nat
 | []=>0
 | d::r=>max (dpD d) (dpDs r)
end
mutual
theorem Qg :∀(d:PyData) (v:Value) (as:List Addr),okT d=true->Reads h v d as->PH prog w (dpD d) h v (hD w d) (NR d)
 | .none,_,_,_,r=>by cases r;exact Y4
 | .str x,_,_,_,r=>by cases r;exact Y3
 | .tuple l,_,_,ok,r=>by
  cases r with
  | tuple h1 h2 h3 h4=>intro A E s Q hu hs q;have hu':A.units+(dpDs l+4)<cLine:=hu;exact Y2 (room:=dpDs l) hu' (by rw[hs];exact h1) h2 h3 (by rw[hs];exact Qe l _ _ ok h4 (dpDs l) (AA _)) q
 | .bool _,_,_,ok,_=>nomatch ok
 | .int _,_,_,ok,_=>nomatch ok
 | .list _,_,_,ok,_=>nomatch ok
 | .dict _,_,_,ok,_=>nomatch ok
theorem Qe :∀(l:List PyData) (vs:List Value) (as:List Addr),okTs l=true->ReadsAll h vs l as->∀r,dpDs l<=r->HH prog w r h vs (NO w l) (NQ l)
 | [],_,_,_,r,_,_=>by cases r;exact .nil
 | d::l,_,_,ok,r,n,hn=>by
  cases r with
  | cons h1 h2=>
   have ok':okT d=true/\okTs l=true:=by simpa [okTs] using ok
   have hn':max (dpD d) (dpDs l)<=n:=hn;exact .cons ((Qg d _ _ ok'.1 h1).mono (by lia)) (Qe l _ _ ok'.2 h2 n (by lia))
end
mutual
theorem PU (ho:h.get? b=some o)(hd:o.data=.dict es ep)(hs:Heap.SameBut b h h'):∀(d:PyData) (v:Value) (as:List Addr),okT d=true->Reads h v d as->Reads h' v d as
 | .none,_,_,_,r=>by cases r;exact .none
 | .str x,_,_,_,r=>by cases r;exact .str _ _
 | .tuple l,_,_,ok,r=>by
  cases r with
  | @tuple a o' vs n xs as h1 h2 h3 h4=>
   have ne:a≠b:=λz=>by rw[z,ho]at h1;cases h1;rw[hd]at h3;cases h3
   exact .tuple ((hs.2 a ne).trans h1) h2 h3 (PR ho hd hs l _ _ ok h4)
 | .bool _,_,_,ok,_=>nomatch ok
 | .int _,_,_,ok,_=>nomatch ok
 | .list _,_,_,ok,_=>nomatch ok
 | .dict _,_,_,ok,_=>nomatch ok
theorem PR (ho:h.get? b=some o)(hd:o.data=.dict es ep)(hs:Heap.SameBut b h h'):∀(l:List PyData) (vs:List Value) (as:List Addr),okTs l=true->ReadsAll h vs l as->ReadsAll h' vs l as
 | [],_,_,_,r=>by cases r;exact .nil
 | d::l,_,_,ok,r=>by
  cases r with
  | cons h1 h2=>
   have ok':okT d=true/\okTs l=true:=by simpa [okTs] using ok
   exact .cons (PU ho hd hs d _ _ ok'.1 h1) (PR ho hd hs l _ _ ok'.2 h2)
end
mutual
theorem Q6:∀(x y:PyData),okT x=true->okT y=true->(PyData.eqv x y=true↔x=y)
 | .none,y,_,oy=>by cases y <;> simp[PyData.eqv,okT]at oy ⊢
 | .str a,y,_,oy=>by cases y <;> simp[PyData.eqv,okT]at oy ⊢
 | .tuple l,y,ox,oy=>by
  cases y with
  | tuple m=>have:=Q5 l m ox oy;simp only[PyData.eqv,this,PyData.tuple.injEq]
  | _=>simp[PyData.eqv,okT]at oy ⊢
 | .bool _,_,ok,_=>nomatch ok
 | .int _,_,ok,_=>nomatch ok
 | .list _,_,ok,_=>nomatch ok
 | .dict _,_,ok,_=>nomatch ok
theorem Q5:∀(l m:List PyData),okTs l=true->okTs m=true->(PyData.eqvAll l m=true↔l=m)
 | [],m,_,_=>by cases m <;> simp[PyData.eqvAll]
 | x::l,m,ol,om=>by
  cases m with
  | nil=>simp[PyData.eqvAll]
  | cons y m=>
   have ol':okT x=true/\okTs l=true:=by simpa [okTs] using ol
   have om':okT y=true/\okTs m=true:=by simpa [okTs] using om
   simp only[PyData.eqvAll,Ce,Q6 x y ol'.1 om'.1,Q5 l m ol'.2 om'.2,Ea]
end
mutual
theorem Qa :∀(d:PyData) (v:Value) (as:List Addr) (n:Nat),okT d=true->dpD d<4*n->Reads h v d as->∀{A:Around}{E:Value->Shared->Prop}{s:Shared}{Q:Bool->Shared->Prop},s.heap=h->Q true s->wpAny (model prog w) A (eqIsQuiet n v) Q E s
 | .none,_,_,n,_,_,r,A,E,s,Q,_,q=>by cases r;rw[eqIsQuiet_byValue n rfl];exact An q
 | .str x,_,_,n,_,_,r,A,E,s,Q,_,q=>by cases r;rw[eqIsQuiet_byValue n rfl];exact An q
 | .tuple l,_,_,n,ok,hn,r,A,E,s,Q,hs,q=>by
  cases r with
  | @tuple a o' vs n' xs as h1 h2 h3 h4=>
   cases n with
   | zero=>exact absurd hn (by lia)
   | succ n=>
    have hn':dpDs l+4<4*(n+1):=hn;have h1':s.heap.get? a=some o':=by rw[hs];exact h1
    have hT:s.TypeIs (.ref a) "tuple" := ⟨o',h1',h2⟩;have qs:=P9 (h:=h) l vs.toList _ n ok (by lia) h4;unfold eqIsQuiet;refine Ae (Eb hT F.slot_tuple_eq.lookup ?_);show wpAny _ _ (isInstance (.ref a) (.type "tuple") >>= _) _ _ s;refine Ae (JW hT isSubtype_tuple_tuple ?_);simp only[Bool.not_true,Gi,DB];refine Ae (wpAny_seqItems h1' h3 ?_);refine Ae ?_;show wpAny _ _ (forIn vs _ _) _ _ s;rw[<- Array.forIn_toList];refine wpAny_forIn_list _ (λrest r s'=>r.1=none/\s'=s/\∀v∈rest,v∈vs.toList) _ ?_ ?_ _ _ ⟨rfl,rfl,λv hv=>hv⟩
    ·rintro v rest r s' ⟨hr,rfl,hall⟩;refine Ae (qs v (hall v AZ) hs ?_);simp only[Bool.not_true,Gi,DB];exact An ⟨rfl,rfl,λu hu'=>hall u (AR _ hu')⟩
    rintro⟨r1,r2⟩ s' ⟨hr,rfl,_⟩;simp only at hr;subst hr;exact An q
 | .bool _,_,_,_,ok,_,_,_,_,_,_,_,_=>nomatch ok
 | .int _,_,_,_,ok,_,_,_,_,_,_,_,_=>nomatch ok
 | .list _,_,_,_,ok,_,_,_,_,_,_,_,_=>nomatch ok
 | .dict _,_,_,_,ok,_,_,_,_,_,_,_,_=>nomatch ok
theorem P9 :∀(l:List PyData) (vs:List Value) (as:List Addr) (n:Nat),okTs l=true->dpDs l<4*n->ReadsAll h vs l as->∀v∈vs,∀{A:Around}{E:Value->Shared->Prop}{s:Shared}{Q:Bool->Shared->Prop},s.heap=h->Q true s->wpAny (model prog w) A (eqIsQuiet n v) Q E s
 | [],_,_,_,_,_,r,v,hv=>by cases r;cases hv
 | d::l,_,_,n,ok,hn,r,v,hv=>by
  cases r with
  | cons h1 h2=>
   have ok':okT d=true/\okTs l=true:=by simpa [okTs] using ok
   have hn':max (dpD d) (dpDs l)<4*n:=hn;rcases(AD.mp hv)with rfl | hv
   ·exact Qa d _ _ n ok'.1 (by lia) h1
   exact P9 l _ _ n ok'.2 (by lia) h2 v hv
end
instance dD:DecidableEq PyData:=λa b=>Classical.propDecidable (a=b)
def YN (h:Heap)(k:PyData)(a:Addr):Prop:=okT k=true/\k.canLay0=true/\dpD k<=12/\k.depth<=8/\∃as,Reads h (.ref a) k as
def dataKind (prog:Program)(w:World):HeapKind prog w PyData where
 is:=YN
 hash:=hD w
 draws:=NR
 room:=λA=>A.units+16<cLine
 inj:=λhx hy=>by obtain⟨_,c,_,_,_,r⟩:=hx;obtain⟨_,_,_,_,_,r'⟩:=hy;exact SeqAt.Reads.unique _ _ _ _ _ c r r'
 keeps:=λx ho hd hs=>by obtain⟨h1,h2,h3,h4,as,r⟩:=x;exact⟨h1,h2,h3,h4,as,PU ho hd hs _ _ _ h1 r⟩
 pyHash:=λhu hk h=>by obtain⟨h1,h2,h3,h4,as,r⟩:=hk;exact Qg _ _ _ h1 r _ _ _ _ (by lia) rfl h
 eqBool:=@λA E s x y a b Q hu hx hy h=>by
  obtain⟨h1,h2,h3,h4,as,r⟩:=hx;obtain⟨k1,k2,k3,k4,bs,r'⟩:=hy;refine SeqAt.eqBoolOverData _ _ _ _ _ _ _ _ _ _ _ _ r r' h2 k2 (by lia) ?_;have e:PyData.eqv x y=decide (x=y):=by rw[HD,Fq];exact Q6 x y h1 k1
  rw[e];exact h
 quiet:=λhk h=>by obtain⟨h1,h2,h3,h4,as,r⟩:=hk;exact Qa _ _ _ 8 h1 (by lia) r rfl h
def room_in1 (hu:A.units+20<cLine):(dataKind prog w).room A.in1:=by show A.units+1+16<cLine;lia
end
end WK
namespace L2
open PySem PySem.Spec PyProof.Rows
abbrev Ag:=Sum Int Str
def Fi:Ag->Value->Bool
 | .inl k,v=>Value.isInt k v
 | .inr x,v=>Value.isStrOf x v
def Jr (w:World):Ag->Int
 | .inl k=>hashInt k
 | .inr x=>hashStr w x
theorem Eo:∀{k:Ag}{v:Value},Fi k v=true->(∃i t,k=Sum.inl i/\v=Value.int i t)\/(∃x t,k=Sum.inr x/\v=Value.str x t)
 | .inl i,v,h=>by obtain⟨t,e⟩:=Value.isInt_shape (k:=i) (v:=v) h;exact .inl ⟨i,t,rfl,e⟩
 | .inr x,v,h=>by obtain⟨t,e⟩:=Value.isStrOf_shape (x:=x) (v:=v) h;exact .inr ⟨x,t,rfl,e⟩
def QL (i:Int)(t:Tok):Fi (.inl i) (.int i t)=true:=by simp[Fi,Value.isInt]
def QK (x:Str)(t:Tok):Fi (.inr x) (.str x t)=true:=by simp[Fi,Value.isStrOf]
def YF (a b:Int):decide ((Sum.inl a:Ag)=Sum.inl b)=(a == b):=by
 by_cases e:a=b
 ·subst e;simp
 have h:¬(Sum.inl a:Ag)=Sum.inl b:=λq=>e (Sum.inl.inj q);rw[A8 h];exact(F6.mpr e).symm
def YB (a b:Str):decide ((Sum.inr a:Ag)=Sum.inr b)=decide (a=b):=by
 by_cases e:a=b
 ·subst e;simp
 have h:¬(Sum.inr a:Ag)=Sum.inr b:=λq=>e (Di q);rw[A8 h,A8 e]
def YE (a:Int)(b:Str):decide ((Sum.inl a:Ag)=Sum.inr b)=false:=A8 (λq=>nomatch q)
def YC (a:Str)(b:Int):decide ((Sum.inr a:Ag)=Sum.inl b)=false:=A8 (λq=>nomatch q)
def BS (prog:Program)(w:World):PySem.KeyKind prog w Ag where
 is:=Fi
 hash:=Jr w
 inj:=λv a b ha hb=>by
  rcases Eo ha with⟨i,t,rfl,rfl⟩ | ⟨x,t,rfl,rfl⟩
  ·rcases Eo hb with⟨j,u,rfl,e⟩ | ⟨y,u,rfl,e⟩
   ·injection e with e1 _;rw[e1]
   exact nomatch e
  rcases Eo hb with⟨j,u,rfl,e⟩ | ⟨y,u,rfl,e⟩
  ·exact nomatch e
  injection e with e1 _;rw[e1]
 byValue:=λk v h=>by rcases Eo h with⟨i,t,rfl,rfl⟩ | ⟨x,t,rfl,rfl⟩ <;> rfl
 pyHash:=λhv h=>by
  rcases Eo hv with⟨i,t,rfl,rfl⟩ | ⟨x,t,rfl,rfl⟩
  ·exact wpAny_pyHash_int h
  exact wpAny_pyHash_str h
 eqBool:=λhu hv h=>by
  rcases Eo hu with⟨i,t,rfl,rfl⟩ | ⟨x,t,rfl,rfl⟩
  ·rcases Eo hv with⟨j,u,rfl,rfl⟩ | ⟨y,u,rfl,rfl⟩
   ·rw[YF]at h;exact wpAny_eqBool_int h
   rw[YE]at h;exact SeqAt.EqAt.int_str i t y u _ _ _ _ h
  rcases Eo hv with⟨j,u,rfl,rfl⟩ | ⟨y,u,rfl,rfl⟩
  ·rw[YC]at h;exact SeqAt.EqAt.str_int x t j u _ _ _ _ h
  rw[YB]at h;exact wpAny_eqBool_str h
 «strs»:=λk x t v h=>by
  rcases Eo h with⟨i,u,rfl,e⟩ | ⟨y,u,rfl,e⟩
  ·exact nomatch e
  injection e with e1 _;subst e1;cases v <;> rfl
def Ye (prog:Program)(w:World)(i:Int)(t:Tok):(BS prog w).is (.inl i) (.int i t)=true:=QL i t
def Yd (prog:Program)(w:World)(x:Str)(t:Tok):(BS prog w).is (.inr x) (.str x t)=true:=QK x t
inductive V where
 | non | bl (b:Bool) | int (i:Int) | str (x:Str) | byt (b:Array UInt8) | flt (b:UInt64) | ref (a:Addr) | ty (n:String)
 deriving DecidableEq
def RelV:V->Value->Prop
 | .non,u=>u=Value.none
 | .bl b,u=>u=Value.bool b
 | .int i,u=>∃t,u=Value.int i t
 | .str x,u=>∃t,u=Value.str x t
 | .byt b,u=>∃t,u=Value.bytes b t
 | .flt b,u=>∃t,u=Value.float b t
 | .ref a,u=>u=Value.ref a
 | .ty n,u=>u=Value.type n
abbrev Vals:List V->List Value->Prop:=Paired RelV
def Vals.length (r:Vals xs us):xs.length=us.length:=Fy r
theorem Vals.get:∀{xs:List V}{us:List Value}{i:Nat}{x:V},Vals xs us->xs[i]? = some x->∃u,us[i]? = some u/\RelV x u
 | _,_,_,_,.nil,e=>by simp at e
 | _,_,0,_,.cons r _,e=>by simp at e;subst e;exact⟨_,rfl,r⟩
 | _,_,i+1,x,.cons _ t,e=>by obtain⟨u,h1,h2⟩:=Vals.get (i:=i) (x:=x) t (by simpa using e);exact⟨u,by simpa using h1,h2⟩
theorem Vals.append:∀{xs ys:List V}{us ws:List Value},Vals xs us->Vals ys ws->Vals (xs++ys) (us++ws)
 | _,_,_,_,.nil,s=>s
 | _,_,_,_,.cons r t,s=>.cons r (Vals.append t s)
theorem Vals.take:∀{xs:List V}{us:List Value}(n:Nat),Vals xs us->Vals (xs.take n) (us.take n)
 | _,_,0,_=>.nil
 | _,_,_+1,.nil=>.nil
 | _,_,n+1,.cons r t=>.cons r (Vals.take n t)
theorem Vals.drop:∀{xs:List V}{us:List Value}(n:Nat),Vals xs us->Vals (xs.drop n) (us.drop n)
 | _,_,0,r=>r
 | _,_,_+1,.nil=>.nil
 | _,_,n+1,.cons _ t=>Vals.drop n t
def RelO:Option V->Option Value->Prop
 | some v,some u=>RelV v u
 | none,none=>True
 | _,_=>False
def KV {κ:Type}:List (κ×V)->List (κ×Value)->Prop:=Paired λ(p:κ×V) (q:κ×Value)=>p.1=q.1/\RelV p.2 q.2
def kV:Ag->V
 | .inl i=>.int i
 | .inr x=>.str x
inductive HO where
 /-- a list -/
 | lst (xs:List V)
 /-- a tuple (never changes) -/
 | tup (xs:List V)
 /-- a dict whose keys are ints and texts;one whose keys are tuples of ints and texts (the empty one is both) -/
 | dK (kvs:List (Ag×V)) | dT (kvs:List (PyData×V))
 /-- a set of ints: its members,its size -/
 | set (S:Int->Bool) (n:Nat)
 /-- an instance of the class at C,its dict at dx,its attributes -/
 | ins (C dx:Addr) (fs:List (Str×V))
 /-- the dict of the instance at x -/
 | own (x:Addr)
 /-- the dict of an exception -/
 | xd (fs:List (Str×V))
 /-- a bound method,f of x -/
 | met (f x:Addr)
 /-- a range object lo,lo+1,.. below hi -/
 | rng (lo hi:Int)
 /-- a thing that is known to the object (the script;a dict while a loop OZ it): read,never written while it is so -/
 | frz (o:Obj) (u:HO)
 /-- a code object's table -/
 | tbl (ps:Array Value)
 /-- any other thing,by what is true of its one object (a def of one's own: SetO a S n:=HO.ext λh=>..) -/
 | ext (φ:Heap->Prop)
abbrev Hp:=Addr->Option HO
def Ac (H:Hp)(a:Addr)(o:HO):Hp:=λb=>if b=a then some o else H b
def Ak :Ac H a o a=some o:=by unfold Ac;rw[As rfl]
def Aj (h:b≠a):Ac H a o b=H b:=by unfold Ac;rw[Ai h]
def SH :Ac (Ac H a o) a u=Ac H a u:=by funext b;unfold Ac;split <;> rfl
def BJ {H:Hp}{a b:Addr}{o u:HO}(h:H a=some o)(h':H b=some u)(d:o≠u):a≠b:=by intro e;subst e;rw[h]at h';exact d (Bx h')
def AL {H:Hp}{a b:Addr}{o:HO}(h:H a=some o)(h':H b=none):a≠b:=by intro e;subst e;rw[h]at h';cases h'
mutual
inductive RdD (H:Hp):V->PyData->Prop
 | non:RdD H .non .none
 | str (x:Str):RdD H (.str x) (.str x)
 | tup {a:Addr}{xs:List V}{ds:List PyData}:H a=some (.tup xs)->RdDs H xs ds->RdD H (.ref a) (.tuple ds)
inductive RdDs (H:Hp):List V->List PyData->Prop
 | nil:RdDs H [] []
 | cons {x:V}{d:PyData}{xs:List V}{ds:List PyData}:RdD H x d->RdDs H xs ds->RdDs H (x::xs) (d::ds)
end
mutual
theorem RdD.same (k:∀b xs,H b=some (.tup xs)->H' b=some (.tup xs)):∀{x:V}{d:PyData},RdD H x d->RdD H' x d
 | _,_,.non=>.non
 | _,_,.str x=>.str x
 | _,_,.tup e rs=>.tup (k _ _ e) (RdDs.same k rs)
theorem RdDs.same (k:∀b xs,H b=some (.tup xs)->H' b=some (.tup xs)):∀{xs:List V}{ds:List PyData},RdDs H xs ds->RdDs H' xs ds
 | _,_,.nil=>.nil
 | _,_,.cons a b=>.cons (RdD.same k a) (RdDs.same k b)
end
structure RdT (H:Hp)(a:Addr)(d:PyData):Prop where
 rd:RdD H (.ref a) d
 ok:WK.okT d=true
 lay:d.canLay0=true
 dp:WK.dpD d<=12
 de:d.depth<=8
def RdT.same (r:RdT H a d)(k:∀b xs,H b=some (.tup xs)->H' b=some (.tup xs)):RdT H' a d:=⟨r.rd.same k,r.ok,r.lay,r.dp,r.de⟩
section
variable (P:Program) (w:World)
def ObjOk (H:Hp)(h:Heap)(a:Addr):HO->Prop
 | .lst xs=>xs.length<=sizeLine/\∃(its:List Value) (n:Nat),Vals xs its/\h.get? a=some { cls:=.type "list",data:=.seq its.toArray n }
 | .tup xs=>xs.length<=sizeLine/\∃its:List Value,Vals xs its/\IsTup h a its.toArray
 | .dK kvs=>kvs.length<=sizeLine/\(a == sysModules)=false/\∃vs,KV kvs vs/\h.DictOf (BS P w) a vs
 | .dT kvs=>kvs.length<=sizeLine/\(a == sysModules)=false/\∃xs:List (PyData×Addr×Value),
   Paired (λ(p:PyData×V) (q:PyData×Addr×Value)=>p.1=q.1/\RdT H q.2.1 p.1/\RelV p.2 q.2.2) kvs xs /\
   ∃o es ep,h.get? a=some o/\o.ExactDict/\o.data=.dict es ep/\es.toList=xs.map (entryOfKey (WK.dataKind P w))/\(xs.map (·.1)).Nodup
 | .set S n=>h.SetOf (intKind P w) a S n
 | .ins C dx fs=>H dx=some (.own a)/\fs.length<=1000/\dx≠a/\h.get? a=some (PySem.W.instObj C dx) /\
   ∃mA,h.Ns1 dx mA/\(∀f,RelO (fs.lookup f) (mA f))/\PySem.Within mA (fs.map (·.1))
 | .own _=>∃o,h.get? a=some o
 | .xd fs=>∃mA,h.Ns1 a mA/\∀f,RelO (fs.lookup f) (mA f)
 | .rng lo hi=>∃t u v,h.get? a=some { cls:=.type "range",data:=.fields #[.int lo t,.int hi u,.int 1 v] }
 | .frz o u=>h.get? a=some o/\ObjOk H h a u
 | .tbl ps=>h.get? a=some { cls:=.none,data:=.fields ps }
 | .met f x=>h.get? a=some (PySem.W.methodObj (.ref f) (.ref x))
 | .ext φ=>φ h/\(∃o,h.get? a=some o)/\∀h1 h2:Heap,φ h1->(∀o,h1.get? a=some o->h2.get? a=some o)->φ h2
def HOk (H:Hp)(h:Heap):Prop:=∀a o,H a=some o->ObjOk P w H h a o
end
section
variable {P:Program}{w:World}{H H':Hp}{h h':Heap}{a:Addr}{o:HO}
def ObjOk.lt (x:ObjOk P w H h a o):a<h.objs.size:=by
 cases o with
 | lst xs=>obtain⟨_,_,_,_,e⟩:=x;exact A3 e
 | tup xs=>obtain⟨_,_,_,p⟩:=x;exact p.lt
 | dK kvs=>obtain⟨_,_,_,_,o,_,_,e,_⟩:=x;exact A3 e
 | dT kvs=>obtain⟨_,_,_,_,o,_,_,e,_⟩:=x;exact A3 e
 | set S n=>obtain⟨o,_,_,_,e,_⟩:=x;exact A3 e
 | ins C dx fs=>obtain⟨_,_,_,e,_⟩:=x;exact A3 e
 | own y=>obtain⟨_,e⟩:=x;exact A3 e
 | xd fs=>obtain⟨_,⟨_,_,_,e,_⟩,_⟩:=x;exact A3 e
 | rng lo hi=>obtain⟨_,_,_,e⟩:=x;exact A3 e
 | frz ob u=>obtain⟨e,_⟩:=x;exact A3 e
 | tbl ps=>exact A3 (show h.get? a=some _ from x)
 | met f y=>exact A3 (show h.get? a=some _ from x)
 | ext φ=>obtain⟨_,⟨_,e⟩,_⟩:=x;exact A3 e
theorem Paired.mapP {α β:Type}{F G:α->β->Prop}:∀{l₁:List α}{l₂:List β},Paired F l₁ l₂->(∀a b,F a b->G a b)->Paired G l₁ l₂
 | _,_,.nil,_=>.nil
 | _,_,.cons r t,f=>.cons (f _ _ r) (Paired.mapP t f)
def ObjOk.stay (x:ObjOk P w H h a o)(k:∀b u,(b=a\/H b=some (.own a))->h.get? b=some u->h'.get? b=some u)
  (ho:∀b,H b=some (.own a)->H' b=some (.own a))(ht:∀b xs,H b=some (.tup xs)->H' b=some (.tup xs)):ObjOk P w H' h' a o:=by
 induction o with
 | lst xs=>obtain⟨z,its,n,r,e⟩:=x;exact⟨z,its,n,r,k _ _ (.inl rfl) e⟩
 | tup xs=>obtain⟨z,its,r,ob,e,c⟩:=x;exact⟨z,its,r,ob,k _ _ (.inl rfl) e,c⟩
 | dK kvs=>obtain⟨z,y,vs,r,ob,es,ep,e,c⟩:=x;exact⟨z,y,vs,r,ob,es,ep,k _ _ (.inl rfl) e,c⟩
 | dT kvs=>obtain⟨z,y,xs,r,ob,es,ep,e,c⟩:=x;exact⟨z,y,xs,Paired.mapP r λp q z=>⟨z.1,z.2.1.same ht,z.2.2⟩,ob,es,ep,k _ _ (.inl rfl) e,c⟩
 | set S n=>obtain⟨ob,es,ep,t,e,c⟩:=x;exact⟨ob,es,ep,t,k _ _ (.inl rfl) e,c⟩
 | ins C dx fs=>obtain⟨d,z,ne,e,mA,⟨od,es,ep,e2,c⟩,r⟩:=x;exact⟨ho _ d,z,ne,k _ _ (.inl rfl) e,mA,⟨od,es,ep,k _ _ (.inr d) e2,c⟩,r⟩
 | own y=>obtain⟨ob,e⟩:=x;exact⟨ob,k _ _ (.inl rfl) e⟩
 | xd fs=>obtain⟨mA,⟨od,es,ep,e,c⟩,r⟩:=x;exact⟨mA,⟨od,es,ep,k _ _ (.inl rfl) e,c⟩,r⟩
 | rng lo hi=>obtain⟨t,u,v,e⟩:=x;exact⟨t,u,v,k _ _ (.inl rfl) e⟩
 | frz ob u ih=>obtain⟨e,q⟩:=x;exact⟨k _ _ (.inl rfl) e,ih q⟩
 | tbl ps=>have e:h.get? a=some { cls:=.none,data:=.fields ps }:=x;show h'.get? a=some { cls:=.none,data:=.fields ps };exact k a _ (.inl rfl) e
 | met f y=>have e:h.get? a=some (PySem.W.methodObj (.ref f) (.ref y)):=x;show h'.get? a=some (PySem.W.methodObj (.ref f) (.ref y));exact k a _ (.inl rfl) e
 | ext φ=>obtain⟨p,⟨o,e⟩,st⟩:=x;exact⟨st _ _ p λo q=>k _ _ (.inl rfl) q,⟨o,k _ _ (.inl rfl) e⟩,st⟩
def HOk.lt (x:HOk P w H h)(e:H a=some o):a<h.objs.size:=(x a o e).lt
def HOk.fresh (x:HOk P w H h)(e:h.objs.size<=a):H a=none:=by
 cases q:H a with
 | none=>rfl
 | some u=>exact absurd (Cf (x.lt q) e) (EC _)
def HOk.kept (x:HOk P w H h)(k:∀b u,h.get? b=some u->h'.get? b=some u):HOk P w H h':=λa o e=>(x a o e).stay (λb u _ q=>k b u q) (λ_ q=>q) λ_ _ q=>q
def HOk.laid (x:HOk P w H h)(k:∀b u,h.get? b=some u->h'.get? b=some u)(hp:h.objs.size<=a)(new:ObjOk P w (Ac H a o) h' a o):HOk P w (Ac H a o) h':=λb u e=>by
 have hn:=x.fresh hp;by_cases hb:b=a
 ·subst hb;rw[Ak]at e;cases e;exact new
 rw[Aj hb]at e;exact(x b u e).stay (λc v _ q=>k c v q) (λc q=>by rw[Aj (AL q hn)];exact q) λc xs q=>by rw[Aj (AL q hn)];exact q
end
def Rd (H:Hp)(a:Addr)(u:HO):Prop:=H a=some u\/∃o,H a=some (.frz o u)
def Rd.ok (r:Rd H a u)(x:HOk P w H h):ObjOk P w H h a u:=by
 rcases r with r | ⟨o,r⟩
 ·exact x a u r
 obtain⟨_,q⟩:=x a _ r;exact q
def JZ:Option HO->Prop
 | some (.lst _)=>True
 | some (.dK _)=>True
 | some (.dT _)=>True
 | some (.set _ _)=>True
 | some (.ins _ _ _)=>True
 | some (.ext _)=>True
 | _=>False
section
variable {P:Program}{w:World}{H:Hp}{h h':Heap}{x e:Addr}{o':HO}
def HOk.write (ok:HOk P w H h)(mu:JZ (H x))(he:e=x\/H e=some (.own x))(k:∀b u,b≠e->h.get? b=some u->h'.get? b=some u)(heo:∃u,h'.get? e=some u)
  (new:ObjOk P w (Ac H x o') h' x o'):HOk P w (Ac H x o') h':=λb u q=>by
 have nown:∀c y,H c=some (.own y)->c≠x:=λc y r z=>by subst z;rw[r]at mu;exact mu
 have ntup:∀c xs,H c=some (.tup xs)->c≠x:=λc xs r z=>by subst z;rw[r]at mu;exact mu
 by_cases hb:b=x
 ·subst hb;rw[Ak]at q;cases q;exact new
 rw[Aj hb]at q
 by_cases hbe:b=e
 ·have q':H b=some (.own x):=by
   rcases he with z | z
   ·exact absurd (hbe.trans z) hb
   rw[hbe];exact z
  rw[q]at q';cases q';obtain⟨v,hv⟩:=heo;exact⟨v,by rw[hbe];exact hv⟩
 refine(ok b u q).stay (λc v hc r=>k c v ?_ r) (λc r=>by rw[Aj (nown c b r)];exact r) λc xs r=>by rw[Aj (ntup c xs r)];exact r
 rcases hc with rfl | hc
 ·exact hbe
 rintro rfl
 rcases he with z | z
 ·exact nown c b hc z
 rw[hc]at z;cases z;exact hb rfl
end
structure Un (fs ex:List Addr)(H H':Hp)(h h':Heap):Prop where
 keep:∀b o,h.get? b=some o->H b=none->b∉fs->b∉ex->h'.get? b=some o
 slot:∀b o,h.get? b=some o->H b=none->b∈fs->b∉ex->∃sl,h'.get? b=some { o with slots:=sl }
 free:∀b o,h.get? b=some o->H b=none->b∉ex->H' b=none
 there:∀b o,h.get? b=some o->b∉ex->∃o',h'.get? b=some o'
 tups:∀b xs,H b=some (.tup xs)->H' b=some (.tup xs)
 frzs:∀b o u,H b=some (.frz o u)->H' b=some (.frz o u)
 tbls:∀b ps,H b=some (.tbl ps)->∃more,H' b=some (.tbl (ps++more))
section
variable {fs fs' ex ex':List Addr}{H H1 H2:Hp}{h h1 h2 h':Heap}{a x e:Addr}{o:HO}
def Un.any (u:Un fs ex H H1 h h1) (q:h.get? b=some ob)(n:H b=none)(hx:b∉ex):∃sl,h1.get? b=some { ob with slots:=sl }:=by
 by_cases hb:b∈fs
 ·exact u.slot b ob q n hb hx
 exact⟨ob.slots,u.keep b ob q n hb hx⟩
def Un.kept (k:∀b u,h.get? b=some u->h'.get? b=some u):Un fs ex H H h h':=
 ⟨λb ob q _ _ _=>k b ob q,λb ob q _ _ _=>⟨ob.slots,k b ob q⟩,λ_ _ _ n _=>n,λb ob q _=>⟨ob,k b ob q⟩,λ_ _ q=>q,λ_ _ _ q=>q,λ_ ps q=>⟨#[],by rw[q];simp⟩⟩
def Un.refl:Un fs ex H H h h:=Un.kept λ_ _ q=>q
theorem Un.laid (k:∀b u,h.get? b=some u->h'.get? b=some u)(hp:h.objs.size<=a)(hn:H a=none):Un fs ex H (Ac H a o) h h' where
 keep:=λb u q _ _ _=>k b u q
 slot:=λb u q _ _ _=>⟨u.slots,k b u q⟩
 free:=λb u q n _=>by rw[Aj (Bo (Cf (A3 q) hp))];exact n
 there:=λb u q _=>⟨u,k b u q⟩
 tups:=λb xs q=>by rw[Aj (AL q hn)];exact q
 frzs:=λb u xs q=>by rw[Aj (AL q hn)];exact q
 tbls:=λb ps q=>⟨#[],by rw[Aj (AL q hn),q];simp⟩
def Un.write (mu:JZ (H x))(he:e=x\/H e=some (.own x))(k:∀b u,b≠e->h.get? b=some u->h'.get? b=some u)(heo:∃u,h'.get? e=some u):Un fs ex H (Ac H x o) h h':=by
 have hx:∀b,H b=none->b≠x:=λb n z=>by subst z;rw[n]at mu;exact mu
 have hb:∀b,H b=none->b≠e:=λb n z=>by
  subst z;rcases he with r | r
  ·exact hx b n r
  rw[n]at r;cases r
 have hm:∀b u,H b=some u->¬JZ (some u)->b≠x:=λb u q nm z=>by subst z;rw[q]at mu;exact nm mu
 refine⟨λb u q n _ _=>k b u (hb b n) q,λb u q n _ _=>⟨u.slots,k b u (hb b n) q⟩,λb u q n _=>by rw[Aj (hx b n)];exact n,λb u q _=>?_,λb xs q=>by rw[Aj (hm b _ q λz=>z)];exact q,λb u xs q=>by rw[Aj (hm b _ q λz=>z)];exact q,λb ps q=>⟨#[],by rw[Aj (hm b _ q λz=>z),q];simp⟩⟩;by_cases hbe:b=e
 ·subst hbe;exact heo
 exact⟨u,k b u hbe q⟩
end
def J5 (h:Heap)(H:Hp):List Addr:=(List.range h.objs.size).filter λa=>(H a).isSome
def EM (h:Heap)(H:Hp):Heap:=PySem.W.hideAll h (J5 h H)
def YY (h:Heap)(H:Hp):(EM h H).objs.size=h.objs.size:=PySem.W.hideAll_size _ _
def YZ (e:h.get? b=some o)(n:H b=none):(EM h H).get? b=some o:=
 JN _ e λhm=>by have q:(H b).isSome=true:=(mem_filter.mp hm).2;rw[n]at q;simp at q
def WX (e:(EM h H).get? b=some o):h.get? b=some o/\H b=none:=by
 have e':h.get? b=some o:=PySem.W.of_hideAll (J5 h H) e;refine⟨e',?_⟩;cases q:H b with
 | none=>rfl
 | some x=>have hm:b∈J5 h H:=mem_filter.mpr ⟨Gc.mpr (A3 e'),by simp[q]⟩;have z:(EM h H).get? b=none:=PySem.W.hideAll_none (J5 h H) hm;rw[z]at e;cases e
end L2
namespace L2
open PySem PySem.Spec PyProof.Rows
structure Mod (K:W.Frag)(mg:Str->Option Value)(base:Heap):Prop where
 kin:K.In base
 glob:base.Ns mainGlobals mg
 blt:∃mb,base.Ns builtinsNs mb/\∀x:Str,x ≠ "__name__" -> mb x=bootBuiltins x
 nolimit:base.NoLimit
structure Cx where
 prog:Program
 w:World
 K:W.Frag
 mg:Str->Option Value
 base:Heap
 A:Around
 N:List Str
 s₀:Shared
 H₀:Hp
 env:Env
 outer:List Env
 stack:List Env
 ex:List Addr
 fn:Str->Bool
 calm:Bool
 pn:List (Addr×Obj)
 xe:Value->Shared->Prop
def Bn (l:List Env):List Addr:=l.filterMap (·.frame)
abbrev Cx.fs (X:Cx):List Addr:=Bn X.outer
def OP (sc:Scope)(x:Str):Prop:=sc.names.lookup x=some .local\/sc.names.lookup x=some .cell\/sc.names.lookup x=some .free
def HJ (sc:Scope)(x:Str):Prop:=sc.names.lookup x=some .local\/sc.names.lookup x=some .cell
def aH (env:Env)(h:Heap)(m:Str->Option Value)(x:Str)(u:Value):Prop:=
 (env.kindOf x=some .local/\m x=some u)\/((env.kindOf x=some .cell\/env.kindOf x=some .free)/\∃c,env.cells.lookup x=some c/\h.IsCell c (some u))
structure Cx.Ok (X:Cx):Prop where
 mod:Mod X.K X.mg X.base
 kind:X.env.scope.kind=.function
 glob:X.env.globals=mainGlobals
 blt:X.env.builtins=builtinsNs
 above:X.s₀.heap.objs.size<=X.env.locals
 inj:∀x y c,X.env.cells.lookup x=some c->X.env.cells.lookup y=some c->x=y
 has:∀x,(X.env.kindOf x=some .cell\/X.env.kindOf x=some .free)->∃c,X.env.cells.lookup x=some c
 cab:∀x c,X.fn x=true->X.env.cells.lookup x=some c->X.s₀.heap.objs.size<=c
 hd:X.calm=true->X.A.handled=none
 frames:X.A.frames=some X.stack
 stk:X.stack=X.outer\/(X.stack=X.env::X.outer/\X.env.frame=some X.env.locals)
 exf:∀b∈X.ex,b≠X.env.locals/\∀x c,X.env.cells.lookup x=some c->c≠b
 bs:∀b o,X.base.get? b=some o->X.s₀.heap.get? b=some o/\X.H₀ b=none
 bsz:X.base.objs.size<=X.s₀.heap.objs.size
 noex:∀b o,X.base.get? b=some o->b∉X.ex
 exfs:∀b∈X.ex,b∉X.fs
 funs:X.s₀.heap.FunFrames X.base X.outer
 frf:∀b∈X.fs,X.H₀ b=none
structure Inv (X:Cx)(pins:List (Addr×Obj))(σ:List (Option V))(H:Hp)(s:Shared):Prop where
 ok:X.Ok
 os:s.os=X.s₀.os
 bare:AllBare s.gens
 base:Un X.fs X.ex X.H₀ H X.s₀.heap s.heap
 loc:∃m,s.heap.Ns X.env.locals m/\∀(i:Nat) (x:Str) (v:V),X.N[i]? = some x->σ[i]? = some (some v)->OP X.env.scope x->∃u,RelV v u/\aH X.env s.heap m x u
 cell:∀x c,X.env.cells.lookup x=some c->∃v,s.heap.IsCell c v
 free:H X.env.locals=none
 freeC:∀x c,X.env.cells.lookup x=some c->H c=none
 pin:∀p∈X.pn++pins,s.heap.get? p.1=some p.2/\H p.1=none/\p.1≠X.env.locals/\p.1∉X.fs/\∀v,p.2.data≠.cell v
 hok:HOk X.prog X.w H s.heap
 len:σ.length=X.N.length
section
variable {X:Cx}{pins:List (Addr×Obj)}{σ:List (Option V)}{H H':Hp}{s:Shared}{h':Heap}
def Cx.Ok.nofr (ok:X.Ok) (e:X.base.get? b=some o):b∉X.fs:=λhb=>by have:=(ok.funs.mem hb).1;rw[e]at this;cases this
def Inv.bs (I:Inv X pins σ H s):∀b o,X.base.get? b=some o->s.heap.get? b=some o/\H b=none:=λb o e=>⟨I.base.keep b o (I.ok.bs b o e).1 (I.ok.bs b o e).2 (I.ok.nofr e) (I.ok.noex b o e),I.base.free b o (I.ok.bs b o e).1 (I.ok.bs b o e).2 (I.ok.noex b o e)⟩
def Inv.bk (I:Inv X pins σ H s):∀b o,X.base.get? b=some o->s.heap.get? b=some o:=λb o e=>(I.bs b o e).1
def Inv.mod (I:Inv X pins σ H s):Mod X.K X.mg X.base:=I.ok.mod
def Inv.kIn (I:Inv X pins σ H s):X.K.In s.heap:=I.ok.mod.kin.keeps I.bk
def Inv.lt (I:Inv X pins σ H s):X.env.locals<s.heap.objs.size:=let ⟨_,hn,_⟩:=I.loc;hn.lt
def Inv.sz (I:Inv X pins σ H s):X.s₀.heap.objs.size<=s.heap.objs.size:=EB I.ok.above (le_of_lt I.lt)
def Inv.nofs (I:Inv X pins σ H s) (h:s.heap.objs.size<=a):a∉X.fs:=λhb=>by obtain⟨_,o,ho,_⟩:=I.ok.funs.mem hb;exact absurd (Cf (A3 ho) (EB I.sz h)) (EC _)
def Inv.cne (I:Inv X pins σ H s):∀x c,X.env.cells.lookup x=some c->c≠X.env.locals:=λx c e z=>by obtain⟨v,o,ho,hd⟩:=I.cell x c e;obtain⟨m,⟨o',es,ep,ho',hd',_⟩,_⟩:=I.loc;rw[z,ho']at ho;cases ho;rw[hd']at hd;cases hd
def Inv.funs (I:Inv X pins σ H s):s.heap.FunFrames X.base X.outer:=by
 have all:∀(l:List Env),(∀b∈Bn l,b∈X.fs)->X.s₀.heap.FunFrames X.base l->s.heap.FunFrames X.base l:=by
  intro l;induction l with
  | nil=>intro _ _;trivial
  | cons env r ih=>intro hs hl;obtain⟨hk,⟨L,o,hf,hn,ho,hd⟩,hr⟩:=hl;have hL:L∈X.fs:=hs L (by unfold Bn;rw[Fn,hf];exact AZ);obtain⟨sl,e⟩:=I.base.slot L o ho (I.ok.frf L hL) hL λz=>I.ok.exfs L z hL;exact⟨hk,⟨L,_,hf,hn,e,hd⟩,ih (λb hb=>hs b (by unfold Bn;rw[Fn,hf];exact AR _ hb)) hr⟩
 exact all X.outer (λ_ hb=>hb) I.ok.funs
def Inv.stack (I:Inv X pins σ H s):s.heap.FunFrames X.base X.stack:=by
 rcases I.ok.stk with e | ⟨e,hf⟩
 ·rw[e];exact I.funs
 rw[e];obtain⟨m,hn,_⟩:=I.loc;refine .cons (by rw[I.ok.kind];decide) hf hn ?_ I.funs;exact Heap.get?_none_of_le (EB I.ok.bsz I.ok.above)
def Inv.stkSub (I:Inv X pins σ H s):∀b∈Bn X.stack,b∈X.env.locals::X.fs:=λb hb=>by
 rcases I.ok.stk with e | ⟨e,hf⟩
 ·rw[e]at hb;exact AR _ hb
 rw[e]at hb;unfold Bn at hb;rw[Fn,hf]at hb;exact hb
def Inv.stkFree (I:Inv X pins σ H s):∀b∈Bn X.stack,H b=none:=λb hb=>by
 rcases AD.mp (I.stkSub b hb)with e | hb
 ·rw[e];exact I.free
 obtain⟨_,o,ho,_⟩:=I.ok.funs.mem hb;exact I.base.free b o ho (I.ok.frf b hb) λz=>I.ok.exfs b z hb
def Inv.step {g':Array GenState}{t':Nat}{d':Drawn}{ch:List Addr}(I:Inv X pins σ H s)
  (hch:∀b∈ch,(b∈X.ex\/X.s₀.heap.objs.size<=b)/\b≠X.env.locals/\(∀x c,X.env.cells.lookup x=some c->c≠b)/\∀p∈X.pn++pins,p.1≠b)
  (keep:∀b o,b≠X.env.locals->b∉X.fs->b∉ch->s.heap.get? b=some o->H b=none->h'.get? b=some o)
  (slot:∀b o,b≠X.env.locals->b∈X.fs->b∉ch->s.heap.get? b=some o->H b=none->∃sl,h'.get? b=some { o with slots:=sl })(free:∀b o,b∉ch->s.heap.get? b=some o->H b=none->H' b=none)
  (there:∀b o,b∉ch->s.heap.get? b=some o->∃o',h'.get? b=some o')
  (tups:∀b xs,H b=some (.tup xs)->H' b=some (.tup xs))(frzs:∀b o u,H b=some (.frz o u)->H' b=some (.frz o u))(tbls:∀b ps,H b=some (.tbl ps)->∃more,H' b=some (.tbl (ps++more)))
  (ns:∀m,s.heap.Ns X.env.locals m->h'.Ns X.env.locals m)(hok:HOk X.prog X.w H' h')(hg:AllBare g') :
  Inv X pins σ H' { s with heap:=h',gens:=g',drawn:=d',toks:=t' }:=by
 have neL:∀b o,X.s₀.heap.get? b=some o->b≠X.env.locals:=λb o e=>Bo (Cf (A3 e) I.ok.above)
 have neC:∀b o,X.s₀.heap.get? b=some o->b∉X.ex->b∉ch:=λb o e hx hb=>by
  rcases(hch b hb).1 with z | z
  ·exact hx z
  exact absurd (Cf (A3 e) z) (EC _)
 have cellK:∀x c,X.env.cells.lookup x=some c->∀v,s.heap.IsCell c v->h'.IsCell c v:=λx c e v ⟨o,ho,hd⟩=>by
  have nch:c∉ch:=λz=>(hch c z).2.2.1 x c e rfl;by_cases hc:c∈X.fs
  ·obtain⟨sl,q⟩:=slot c o (I.cne x c e) hc nch ho (I.freeC x c e);exact⟨_,q,hd⟩
  exact⟨o,keep c o (I.cne x c e) hc nch ho (I.freeC x c e),hd⟩
 refine⟨I.ok,I.os,hg,⟨λb o e n hb hx=>?_,λb o e n hb hx=>?_,λb o e n hx=>?_,λb o e hx=>?_,λb xs e=>tups b xs (I.base.tups b xs e),λb o xs e=>frzs b o xs (I.base.frzs b o xs e),λb ps e=>?_⟩,?_,λx c e=>?_,?_,λx c e=>?_,λp hp=>?_,hok,I.len⟩
 ·exact keep b o (neL b o e) hb (neC b o e hx) (I.base.keep b o e n hb hx) (I.base.free b o e n hx)
 ·obtain⟨sl,e1⟩:=I.base.slot b o e n hb hx;obtain⟨sl',e2⟩:=slot b _ (neL b o e) hb (neC b o e hx) e1 (I.base.free b o e n hx);exact⟨sl',e2⟩
 ·obtain⟨o',e1⟩:=I.base.there b o e hx;exact free b o' (neC b o e hx) e1 (I.base.free b o e n hx)
 ·obtain⟨o',e1⟩:=I.base.there b o e hx;exact there b o' (neC b o e hx) e1
 ·obtain⟨m1,e1⟩:=I.base.tbls b ps e;obtain⟨m2,e2⟩:=tbls b _ e1;exact⟨m1++m2,by rw[e2,Ox]⟩
 ·obtain⟨m,hn,hl⟩:=I.loc;refine⟨m,ns m hn,λi x v e1 e2 e3=>?_⟩;obtain⟨u,r,l⟩:=hl i x v e1 e2 e3;refine⟨u,r,?_⟩;rcases l with l | ⟨k,c,e,z⟩
  ·exact .inl l
  exact .inr ⟨k,c,e,cellK x c e _ z⟩
 ·obtain⟨v,z⟩:=I.cell x c e;exact⟨v,cellK x c e v z⟩
 ·obtain⟨m,⟨o,_,_,ho,_⟩,_⟩:=I.loc;exact free _ o (λz=>(hch _ z).2.1 rfl) ho I.free
 ·obtain⟨v,o,ho,hd⟩:=I.cell x c e;exact free c o (λz=>(hch c z).2.2.1 x c e rfl) ho (I.freeC x c e)
 obtain⟨e,n,ne,nf,d⟩:=I.pin p hp
 have nch:p.1∉ch:=λz=>(hch p.1 z).2.2.2 p hp rfl
 exact⟨keep p.1 p.2 ne nf nch e n,free p.1 p.2 nch e n,ne,nf,d⟩
def Inv.un (I:Inv X pins σ H s)(u:Un X.fs [] H H' s.heap h')(hok:HOk X.prog X.w H' h'):Inv X pins σ H' { s with heap:=h',toks:=t' }:=by obtain⟨m,⟨o,es,ep,ho,r⟩,_⟩:=id I.loc;obtain⟨sl,hL⟩:=u.any ho I.free (by simp);exact I.step (g':=s.gens) (d':=s.drawn) (ch:=[]) (λ_ z=>nomatch z) (λb o _ hb _ e n=>u.keep b o e n hb (by simp)) (λb o _ hb _ e n=>u.slot b o e n hb (by simp)) (λb o _ e n=>u.free b o e n (by simp)) (λb o _ e=>u.there b o e (by simp)) u.tups u.frzs u.tbls (λm' hm=>by obtain⟨o',es',ep',ho',r'⟩:=hm;rw[ho]at ho';cases ho';exact⟨_,es',ep',hL,r'⟩) hok I.bare
def Inv.call (I:Inv X pins σ H s)(u:Un (Bn X.stack) ch H H' s.heap h')(hok:HOk X.prog X.w H' h')(hg:AllBare g')
  (hch:∀b∈ch,(b∈X.ex\/X.s₀.heap.objs.size<=b)/\b≠X.env.locals/\(∀x c,X.env.cells.lookup x=some c->c≠b)/\∀p∈X.pn++pins,p.1≠b) :
  Inv X pins σ H' { s with heap:=h',gens:=g',drawn:=d',toks:=t' }:=by
 obtain⟨m,⟨o,es,ep,ho,r⟩,_⟩:=id I.loc
 obtain⟨sl,hL⟩:=u.any ho I.free λz=>(hch _ z).2.1 rfl
 exact I.step (ch:=ch) hch (λb o hL hb hc e n=>u.keep b o e n (λz=>(AD.mp (I.stkSub b z)).elim hL hb) hc) (λb o _ _ hc e n=>u.any e n hc) (λb o hc e n=>u.free b o e n hc) (λb o hc e=>u.there b o e hc) u.tups u.frzs u.tbls (λm' hm=>by obtain⟨o',es',ep',ho',r'⟩:=hm;rw[ho]at ho';cases ho';exact⟨_,es',ep',hL,r'⟩) hok hg
def Inv.turned (I:Inv X pins σ H s)(k:∀b o,b≠it->s.heap.get? b=some o->h'.get? b=some o)(hn:H it=none)(hL:it≠X.env.locals)
  (h1:it∈X.ex\/X.s₀.heap.objs.size<=it)(h2:∀x c,X.env.cells.lookup x=some c->c≠it)(h3:∀p∈X.pn++pins,p.1≠it):Inv X pins σ H { s with heap:=h',toks:=t' }:=by
 have nit:∀b u,H b=some u->b≠it:=λb u e z=>by rw[z,hn]at e;cases e
 refine I.step (g':=s.gens) (d':=s.drawn) (ch:=[it]) (λb hb=>?_) (λb o _ _ hc e _=>k b o (λz=>hc (by simp[z])) e) (λb o _ _ hc e _=>⟨o.slots,k b o (λz=>hc (by simp[z])) e⟩) (λ_ _ _ _ n=>n)
  (λb o hc e=>⟨o,k b o (λz=>hc (by simp[z])) e⟩) (λ_ _ e=>e) (λ_ _ _ e=>e) (λb ps e=>⟨#[],by rw[e];simp⟩) (λm hm=>?_) (λb u e=>?_) I.bare
 ·have e:b=it:=by simpa using hb
  subst e;exact⟨h1,hL,h2,h3⟩
 ·obtain⟨o,es,ep,ho,r⟩:=hm;exact⟨o,es,ep,k _ o (Dm hL) ho,r⟩
 refine(I.hok b u e).stay (λc v hc q=>k c v ?_ q) (λ_ q=>q) λ_ _ q=>q
 rcases hc with z | z
 ·rw[z];exact nit b u e
 exact nit c _ z
def Inv.tok (I:Inv X pins σ H s)(t:Nat):Inv X pins σ H { s with toks:=t }:=I.un (h':=s.heap) (t':=t) Un.refl I.hok
def Inv.kept (I:Inv X pins σ H s)(k:∀b u,s.heap.get? b=some u->h'.get? b=some u):Inv X pins σ H { s with heap:=h',toks:=t' }:=I.un (Un.kept k) (I.hok.kept k)
def Inv.laid (I:Inv X pins σ H s)(k:∀b u,s.heap.get? b=some u->h'.get? b=some u)(hp:s.heap.objs.size<=a)(new:ObjOk X.prog X.w (Ac H a o) h' a o) :
  Inv X pins σ (Ac H a o) { s with heap:=h',toks:=t' }:=I.un (Un.laid k hp (I.hok.fresh hp)) (I.hok.laid k hp new)
def Inv.write (I:Inv X pins σ H s)(mu:JZ (H x))(he:e=x\/H e=some (.own x))(k:∀b u,b≠e->s.heap.get? b=some u->h'.get? b=some u)(heo:∃u,h'.get? e=some u)
  (new:ObjOk X.prog X.w (Ac H x o) h' x o):Inv X pins σ (Ac H x o) { s with heap:=h',toks:=t' }:=I.un (Un.write mu he k heo) (I.hok.write mu he k heo new)
def Inv.weak (I:Inv X pins σ H s)(hl:σ'.length=σ.length)(w:∀(i:Nat) v,σ'[i]? = some (some v)->σ[i]? = some (some v)):Inv X pins σ' H s:=
 ⟨I.ok,I.os,I.bare,I.base,let ⟨m,hn,hl'⟩:=I.loc;⟨m,hn,λi x v e1 e2 e3=>hl' i x v e1 (w i v e2) e3⟩,I.cell,I.free,I.freeC,I.pin,I.hok,hl.trans I.len⟩
def Inv.pins_of (I:Inv X pins σ H s)(h:∀p∈pins',s.heap.get? p.1=some p.2/\H p.1=none/\p.1≠X.env.locals/\p.1∉X.fs/\∀v,p.2.data≠.cell v):Inv X pins' σ H s:=
 ⟨I.ok,I.os,I.bare,I.base,I.loc,I.cell,I.free,I.freeC,λp hp=>(Cc.mp hp).elim (λz=>I.pin p (F4 _ z)) (h p),I.hok,I.len⟩
def Ny {N:List Str}(hN:N.Nodup){i j:Nat}{x:Str}(a:N[i]? = some x)(b:N[j]? = some x):i=j:=by obtain⟨h1,e1⟩:=AK.mp a;obtain⟨h2,e2⟩:=AK.mp b;exact(Hv hN).mp (e1.trans e2.symm)
def Mg (I:Inv X pins σ H s)(hN:X.N.Nodup)(hi:X.N[i]? = some x)(hx:HJ X.env.scope x)(r:RelV v u)
  (h:∀s',Inv X pins (σ.set i (some v)) H s'->(∃a,Heap.SameBut a s.heap s'.heap/\(a=X.env.locals\/X.env.cells.lookup x=some a))->Q () s')(hf:X.fn x=true\/X.env.scope.names.lookup x=some .local:=by first | exact .inl rfl | exact .inr rfl | assumption):wpAny M A (storeName X.env x u) Q E s:=by
 obtain⟨m,hn,hl⟩:=id I.loc
 have hcls:(X.env.scope.kind == .class || (X.env.scope.kind == .module && X.env.locals != X.env.globals))=false:=by rw[I.ok.kind];rfl
 have hiσ:i<σ.length:=by rw[I.len];exact(AK.mp hi).1
 have cne:=I.cne
 have tracked:∀{a:Addr}{h':Heap},(∃o,s.heap.get? a=some o/\H a=none)->Heap.SameBut a s.heap h'->HOk X.prog X.w H h':=λ{a h'} ha hs b ob e=>by
  obtain⟨_,_,hfree⟩:=ha;refine(I.hok b ob e).stay (λc w' hc q=>(hs.2 c ?_).trans q) (λ_ q=>q) λ_ _ q=>q;rintro rfl;rcases hc with rfl | hc
  ·rw[hfree]at e;cases e
  rw[hfree]at hc;cases hc
 rcases hx with hk | hk
 ·refine wpAny_storeName_local hk hn (λh' hn' hs=>?_) hcls;obtain⟨oL,_,_,hoL,_⟩:=id hn;refine h _ ⟨I.ok,I.os,I.bare,⟨λb o e n hb hx=>?_,λb o e n hb hx=>?_,I.base.free,λb o e hx=>?_,I.base.tups,I.base.frzs,I.base.tbls⟩,⟨_,hn',λj y v' e1 e2 e3=>?_⟩,λy c e=>?_,I.free,I.freeC,λp hp=>?_,tracked ⟨oL,hoL,I.free⟩ hs,by simpa using I.len⟩ ⟨_,hs,.inl rfl⟩
  ·exact(hs.2 b (Bo (Cf (A3 e) I.ok.above))).trans (I.base.keep b o e n hb hx)
  ·obtain⟨sl,e1⟩:=I.base.slot b o e n hb hx;exact⟨sl,(hs.2 b (Bo (Cf (A3 e) I.ok.above))).trans e1⟩
  ·obtain⟨o',e1⟩:=I.base.there b o e hx;exact⟨o',(hs.2 b (Bo (Cf (A3 e) I.ok.above))).trans e1⟩
  ·by_cases hj:j=i
   ·subst hj;rw[hi]at e1;cases e1;rw[Gb hiσ]at e2;cases e2;exact⟨u,r,.inl ⟨hk,by simp⟩⟩
   rw[F7 (Dm hj)]at e2;obtain⟨u',r',q⟩:=hl j y v' e1 e2 e3;refine⟨u',r',?_⟩;rcases q with⟨k,e⟩ | ⟨k,c,e,z⟩
   ·refine .inl ⟨k,?_⟩;have:y≠x:=λe=>hj (Ny hN e1 (e ▸ hi));simp[this,e]
   exact .inr ⟨k,c,e,z.sameBut hs (cne y c e)⟩
  ·obtain⟨w',z⟩:=I.cell y c e;exact⟨w',z.sameBut hs (cne y c e)⟩
  obtain⟨e,n,ne,nf,d⟩:=I.pin p hp;exact⟨(hs.2 p.1 ne).trans e,n,ne,nf,d⟩
 have hfn:X.fn x=true:=by
  rcases hf with z | z
  ·exact z
  rw[z]at hk;cases hk
 obtain⟨c,hc⟩:=I.ok.has x (.inl hk)
 obtain⟨w',z⟩:=I.cell x c hc
 refine wpAny_storeName_cell I.ok.kind hk hc z (λh' hc' hs=>?_)
 obtain⟨oc,hoc,hocd⟩:=id z
 refine h { s with heap:=h' } ⟨I.ok,I.os,I.bare,⟨λb o e n hb hx=>?_,λb o e n hb hx=>?_,I.base.free,λb o e hx=>?_,I.base.tups,I.base.frzs,I.base.tbls⟩,⟨m,hn.sameBut hs (Dm (cne x c hc)),λj y v' e1 e2 e3=>?_⟩,λy c' e=>?_,I.free,I.freeC,λp hp=>?_,tracked ⟨oc,hoc,I.freeC x c hc⟩ hs,by simpa using I.len⟩ ⟨c,hs,.inr hc⟩
 ·exact(hs.2 b (Bo (Cf (A3 e) (I.ok.cab x c hfn hc)))).trans (I.base.keep b o e n hb hx)
 ·obtain⟨sl,e1⟩:=I.base.slot b o e n hb hx;exact⟨sl,(hs.2 b (Bo (Cf (A3 e) (I.ok.cab x c hfn hc)))).trans e1⟩
 ·obtain⟨o',e1⟩:=I.base.there b o e hx;exact⟨o',(hs.2 b (Bo (Cf (A3 e) (I.ok.cab x c hfn hc)))).trans e1⟩
 ·by_cases hj:j=i
  ·subst hj;rw[hi]at e1;cases e1;rw[Gb hiσ]at e2;cases e2;exact⟨u,r,.inr ⟨.inl hk,c,hc,hc'⟩⟩
  rw[F7 (Dm hj)]at e2;obtain⟨u',r',q⟩:=hl j y v' e1 e2 e3;refine⟨u',r',?_⟩;rcases q with q | ⟨k,c',e,z'⟩
  ·exact .inl q
  refine .inr ⟨k,c',e,z'.sameBut hs ?_⟩;rintro rfl;exact hj (Ny hN e1 (I.ok.inj _ _ _ e hc ▸ hi))
 ·by_cases hcc:c'=c
  ·subst hcc;exact⟨_,hc'⟩
  obtain⟨w2,z2⟩:=I.cell y c' e;exact⟨w2,z2.sameBut hs hcc⟩
 obtain⟨e,n,ne,nf,d⟩:=I.pin p hp
 refine⟨(hs.2 p.1 ?_).trans e,n,ne,nf,d⟩
 intro q
 rw[q,hoc]at e
 have q':oc=p.2:=Bx e
 exact d w' (by rw[<- q'];exact hocd)
def Mh (I:Inv X pins σ H s)(hN:X.N.Nodup)(hi:X.N[i]? = some x)(hx:HJ X.env.scope x)(r:RelV v u)
  (h:∀s',Inv X pins (σ.set i (some v)) H s'->Q () s')(hf:X.fn x=true\/X.env.scope.names.lookup x=some .local:=by first | exact .inl rfl | exact .inr rfl | assumption):wpAny M A (storeName X.env x u) Q E s:=
 Mg I hN hi hx r (λs' I' _=>h s' I') hf
def Inv.call' (I:Inv X pins σ H s)(ho:s'.os=s.os)(u:Un (Bn X.stack) ch H H' s.heap s'.heap)(hok:HOk X.prog X.w H' s'.heap)(hg:AllBare s'.gens)
  (hch:∀b∈ch,(b∈X.ex\/X.s₀.heap.objs.size<=b)/\b≠X.env.locals/\(∀x c,X.env.cells.lookup x=some c->c≠b)/\∀p∈X.pn++pins,p.1≠b):Inv X pins σ H' s':=by
 obtain⟨h',g',d',t',o'⟩:=s'
 have e:o'=s.os:=ho
 subst e
 exact I.call (g':=g') (t':=t') (d':=d') u hok hg hch
end
abbrev XK:=Value->Option Addr->Hp->Prop
abbrev St:=List (Option V)
abbrev VK:=V->Hp->Prop
abbrev TE:=St->Hp->VK->Prop
abbrev TT:=St->Hp->(Bool->Hp->Prop)->Prop
abbrev TA:=St->Hp->(List V->Hp->Prop)->Prop
structure Gq where
 nx:St->Hp->Prop
 rt:VK
 bk:St->Hp->Prop:=λ_ _=>False
 ct:St->Hp->Prop:=λ_ _=>False
abbrev TS:=Gq->St->Hp->Prop
def EP (X:Cx)(pins:List (Addr×Obj))(σ:St)(Q:VK)(u:Value)(s':Shared):Prop:=∃v H',Inv X pins σ H' s'/\RelV v u/\Q v H'
def TP (X:Cx)(pins:List (Addr×Obj))(σ:St)(Q:Bool->Hp->Prop)(b:Bool)(s':Shared):Prop:=∃H',Inv X pins σ H' s'/\Q b H'
def AP (X:Cx)(pins:List (Addr×Obj))(σ:St)(Q:List V->Hp->Prop)(us:List Value)(s':Shared):Prop:=∃vs H',Inv X pins σ H' s'/\Vals vs us/\Q vs H'
def SP (X:Cx)(pins:List (Addr×Obj))(D:Gq)(f:Flow)(s':Shared):Prop:=
 match f with
 | .next=>∃σ' H',Inv X pins σ' H' s'/\D.nx σ' H'
 | .brk=>∃σ' H',Inv X pins σ' H' s'/\D.bk σ' H'
 | .cont=>∃σ' H',Inv X pins σ' H' s'/\D.ct σ' H'
 | .ret u=>∃v σ' H',Inv X pins σ' H' s'/\RelV v u/\D.rt v H'
def PE (X:Cx)(e:Expr)(t:TE):Prop:=
 ∀(pins:List (Addr×Obj)) (s:Shared) (σ:St) (H:Hp) (Q:VK),Inv X pins σ H s->t σ H Q->wpAny (model X.prog X.w) X.A (eval e X.env) (EP X pins σ Q) X.xe s
def PT (X:Cx)(e:Expr)(t:TT):Prop:=
 ∀(pins:List (Addr×Obj)) (s:Shared) (σ:St) (H:Hp) (Q:Bool->Hp->Prop),Inv X pins σ H s->t σ H Q->wpAny (model X.prog X.w) X.A (isTrue e X.env (eval e X.env)) (TP X pins σ Q) X.xe s
def PW (X:Cx)(e:Expr)(t:TT):Prop:=
 ∀(DC:Sem Value) (pins:List (Addr×Obj)) (s:Shared) (σ:St) (H:Hp) (Q:Bool->Hp->Prop),Inv X pins σ H s->t σ H Q->wpAny (model X.prog X.w) X.A (isTrue e X.env DC) (TP X pins σ Q) X.xe s
def PW.pt {t:TT}(h:PW X e t):PT X e t:=h _
def PA (X:Cx)(es:List Expr)(t:TA):Prop:=
 ∀(pos:Pos) (pins:List (Addr×Obj)) (s:Shared) (σ:St) (H:Hp) (Q:List V->Hp->Prop),Inv X pins σ H s->t σ H Q->wpAny (model X.prog X.w) X.A (spliced (backTo pos (starEach es X.env))) (AP X pins σ Q) X.xe s
def PS (X:Cx)(st:Stmt)(t:TS):Prop:=
 ∀(pins:List (Addr×Obj)) (s:Shared) (σ:St) (H:Hp) (D:Gq),Inv X pins σ H s->t D σ H->wpAny (model X.prog X.w) X.A (exec st X.env) (SP X pins D) X.xe s
def PSs (X:Cx)(st:List Stmt)(t:TS):Prop:=
 ∀(pins:List (Addr×Obj)) (s:Shared) (σ:St) (H:Hp) (D:Gq),Inv X pins σ H s->t D σ H->wpAny (model X.prog X.w) X.A (execs st X.env) (SP X pins D) X.xe s
def Ao {α:Type}{t:Sem α}{Q Q':α->Shared->Prop}{M:Model}{A:Around}{E:Value->Shared->Prop}{s:Shared}(h:wpAny M A t Q E s)(hQ:∀a s,Q a s->Q' a s):wpAny M A t Q' E s:=BL h hQ λ_ _ x=>x
section
variable {X:Cx}
inductive L9 (i:Nat)(σ:St)(H:Hp)(Q:VK):Prop
 | mk (v:_) (c0:σ[i]? = some (some v)) (c1:Q v H):L9 i σ H Q
def tC (v:V):TE:=λ_ H Q=>Q v H
def Vn (hN:X.N[i]? = some x)(hv:OP X.env.scope x)(hd:(x == ("__debug__" : Str))=false:=by decide)(hcd:(x == ("__classdict__" : Str))=false:=by decide):PE X (.Name x pos) (L9 i):=by
 intro pins s σ H Q I h;obtain⟨v,e,h⟩:=h;obtain⟨m,hn,hl⟩:=I.loc;obtain⟨u,r,l⟩:=hl i x v hN e hv;have fin:EP X pins σ Q u s:=⟨v,H,I,r,h⟩;rcases l with⟨hk,hm⟩ | ⟨hk,c,hc,hcell⟩
 ·exact wpAny_Name (wpAny_loadName_local I.ok.kind hk hn hm fin) hd
 rcases hk with hk | hk
 ·exact wpAny_Name (wpAny_loadName_cell I.ok.kind hk hc hcell fin) hd
 exact wpAny_Name (wpAny_loadName_free I.ok.kind hk hc hcell fin hcd) hd
def Ah {i j pos}:PE X (.Constant (.int i) j pos) (tC (.int i)):=λ_ _ _ H _ I h=>wpAny_Constant_int ⟨.int i,H,I.tok _,⟨_,rfl⟩,h⟩
def EJ {b j pos}:PE X (.Constant (.bool b) j pos) (tC (.bl b)):=λ_ _ _ H _ I h=>Constant_bool ⟨.bl b,H,I,rfl,h⟩
def Ej {j pos}:PE X (.Constant .none j pos) (tC .non):=λ_ _ _ H _ I h=>Constant_none ⟨.non,H,I,rfl,h⟩
def Av {x j pos}:PE X (.Constant (.str x) j pos) (tC (.str x)):=λ_ _ _ H _ I h=>Calls.Constant_str ⟨.str x,H,I.tok _,⟨_,rfl⟩,h⟩
def Gl (X:Cx)(x:Str):Prop:=X.env.kindOf x=some .globalImplicit
def Hc (I:Inv X pins σ H s)(hg:Gl X x)(hm:X.mg x=some u)(h:Q u s)
  (hd:(x == ("__debug__" : Str))=false:=by decide):wpAny (model X.prog X.w) X.A (eval (.Name x pos) X.env) Q E s:=
 Calls.Name_function_global I.ok.kind hg (Calls.loadGlobal_global (by rw[I.ok.glob];exact I.mod.glob.keeps I.bk) hm h) hd
def Hd {x:Str} (I:Inv X pins σ H s)(hg:Gl X x)(hm:X.mg x=none)(hv:bootBuiltins x=some u)(h:Q u s)
  (hn:x ≠ "__name__" := by decide)(hd:(x == ("__debug__" : Str))=false:=by decide):wpAny (model X.prog X.w) X.A (eval (.Name x pos) X.env) Q E s:=by
 obtain⟨mb,h1,h2⟩:=I.mod.blt
 exact Calls.Name_function_global I.ok.kind hg (Calls.loadGlobal_builtin (by rw[I.ok.glob];exact I.mod.glob.keeps I.bk) hm (by rw[I.ok.blt];exact h1.keeps I.bk) ((h2 x hn).trans hv) h) hd
def A1 (hg:Gl X x)(hm:X.mg x=some u)(r:RelV v u)(hd:(x == ("__debug__" : Str))=false:=by decide):PE X (.Name x pos) (tC v):=
 λ_ _ _ H _ I h=>Hc I hg hm ⟨v,H,I,r,h⟩ hd
def Vu {x:Str} (hg:Gl X x)(hm:X.mg x=none)(hv:bootBuiltins x=some u)(r:RelV v u)(hn:x ≠ "__name__" := by decide)(hd:(x == ("__debug__" : Str))=false:=by decide):PE X (.Name x pos) (tC v):=
 λ_ _ _ H _ I h=>Hd I hg hm hv ⟨v,H,I,r,h⟩ hn hd
variable {a b:Expr}{ta tb:TE}{pos:Pos}
def PC (X:Cx)(op:CmpOp)(a b:Expr)(t:TE):Prop:=
 ∀(pins:List (Addr×Obj)) (s:Shared) (σ:St) (H:Hp) (Q:VK),Inv X pins σ H s->t σ H Q ->
  wpAny (model X.prog X.w) X.A (eval a X.env) (λv s₁=>wpAny (model X.prog X.w) X.A (eval b X.env) (λu s₂=>wpAny (model X.prog X.w) X.A (compareOp op v u) (EP X pins σ Q) X.xe s₂) X.xe s₁) X.xe s
inductive QQ (Q:Bool->Hp->Prop)(x:V)(H1:Hp):Prop
 | mk (c:_) (c0:x=.bl c) (c1:Q c H1):QQ Q x H1
def tB (t:TE):TT:=λσ H Q=>t σ H λx H1=>QQ Q x H1
def FO {t:TE}(h:PC X op a b t)(h1:behindInMarks op b=false:=by first | exact nobehind _ (by decide) (by decide) | rfl):PT X (.Compare a [op] [b] pos) (tB t):=by intro pins s σ H Q I hw;refine wpAny_isTrue_Compare1 (Ao (h pins s σ H _ I hw) λv s1 h1=>Ao h1 λu s2 h2=>Ao h2 λc s3 hp0=>?_) h1;obtain⟨x,H1,I1,r1,q1⟩:=hp0;obtain⟨d,rfl,q⟩:=q1;cases r1;exact EU ⟨H1,I1,q⟩
def Cr {t:TE}(h:PE X e t)(he:∀DC,isTrue e X.env DC=(do let v <- DC;standAt e.pos;holding [v] (truthy v)):=by intro _;rfl):PT X e (tB t):=by intro pins s σ H Q I hw;refine isTrue_plain (Ao (h pins s σ H _ I hw) λv s1 hp0=>?_) (he _);obtain⟨x,H1,I1,r1,q1⟩:=hp0;obtain⟨d,rfl,q⟩:=q1;cases r1;exact EU ⟨H1,I1,q⟩
variable {tA tB':TT}{rest:List Expr}
def TR (t u:TT):TT:=λσ H Q=>t σ H λc H1=>if c=true then u σ H1 Q else Q false H1
def Td (t u:TT):TT:=λσ H Q=>t σ H λc H1=>if c=true then Q true H1 else u σ H1 Q
def Tf (t:TT):TT:=λσ H Q=>t σ H λc H1=>Q (!c) H1
def Ng (ha:PT X a tA):PW X (.BoolOp .And [a] pos) tA:=by
 intro wh pins s σ H Q I h;refine isTrue_and (Ao (ha pins s σ H Q I h) λc s1 e=>?_);cases c with
 | true=>exact isTrue_and_nil e
 | false=>exact e
def DE (ha:PT X a tA):PW X (.BoolOp .Or [a] pos) tA:=by
 intro wh pins s σ H Q I h;refine isTrue_or (Ao (ha pins s σ H Q I h) λc s1 e=>?_);cases c with
 | false=>exact isTrue_or_nil e
 | true=>exact e
def Nh (ha:PT X a tA)(hb:PW X (.BoolOp .And (b::rest) pos) tB'):PW X (.BoolOp .And (a::b::rest) pos) (TR tA tB'):=by
 intro wh pins s σ H Q I h;refine isTrue_and (Ao (ha pins s σ H _ I h) λc s1 hp0=>?_);obtain⟨H1,I1,q1⟩:=hp0;cases c with
 | true=>exact hb wh pins s1 σ H1 Q I1 q1
 | false=>exact⟨H1,I1,q1⟩
def Cy (ha:PT X a tA)(hb:PW X (.BoolOp .Or (b::rest) pos) tB'):PW X (.BoolOp .Or (a::b::rest) pos) (Td tA tB'):=by
 intro wh pins s σ H Q I h;refine isTrue_or (Ao (ha pins s σ H _ I h) λc s1 hp0=>?_);obtain⟨H1,I1,q1⟩:=hp0;cases c with
 | true=>exact⟨H1,I1,q1⟩
 | false=>exact hb wh pins s1 σ H1 Q I1 q1
def CG (ha:PT X a tA):PT X (.UnaryOp .Not a pos) (Tf tA):=by intro pins s σ H Q I h;exact isTrue_not (ha pins s σ H (λc H1=>Q (!c) H1) I h)
def TQ (ta tb:TE):TE:=λσ H Q=>ta σ H λx H1=>∃c,x=.bl c/\if c=true then tb σ H1 Q else Q (.bl false) H1
def Tc (ta tb:TE):TE:=λσ H Q=>ta σ H λx H1=>∃c,x=.bl c/\if c=true then Q (.bl true) H1 else tb σ H1 Q
def Te (ta:TE):TE:=λσ H Q=>ta σ H λx H1=>∃c,x=.bl c/\Q (.bl (!c)) H1
def GH {op}{t:TE}(h:PE X a t):PE X (.BoolOp op [a] pos) t:=λpins s σ H Q I hw=>BoolOp_one (h pins s σ H Q I hw)
def IB (ha:PE X a ta)(hb:PE X (.BoolOp .And (b::rest) pos) tb):PE X (.BoolOp .And (a::b::rest) pos) (TQ ta tb):=by
 intro pins s σ H Q I h;refine BoolOp_and (Ao (ha pins s σ H _ I h) λv s1 hp0=>?_);obtain⟨x,H1,I1,r1,q1⟩:=hp0;obtain⟨c,rfl,q1⟩:=q1;cases r1;refine EU ?_;cases c with
 | true=>exact hb pins s1 σ H1 Q I1 q1
 | false=>exact⟨.bl false,H1,I1,rfl,q1⟩
def Vp (ha:PE X a ta)(hb:PE X (.BoolOp .Or (b::rest) pos) tb):PE X (.BoolOp .Or (a::b::rest) pos) (Tc ta tb):=by
 intro pins s σ H Q I h;refine BoolOp_or (Ao (ha pins s σ H _ I h) λv s1 hp0=>?_);obtain⟨x,H1,I1,r1,q1⟩:=hp0;obtain⟨c,rfl,q1⟩:=q1;cases r1;refine EU ?_;cases c with
 | false=>exact hb pins s1 σ H1 Q I1 q1
 | true=>exact⟨.bl true,H1,I1,rfl,q1⟩
def Nl (ha:PE X a ta):PE X (.UnaryOp .Not a pos) (Te ta):=by intro pins s σ H Q I h;refine UnaryOp_ (Ao (ha pins s σ H _ I h) λv s1 hp0=>?_);obtain⟨x,H1,I1,r1,q1⟩:=hp0;obtain⟨c,rfl,q1⟩:=q1;cases r1;exact not_of (EU ⟨.bl (!c),H1,I1,rfl,q1⟩)
def Ts (t:TT)(ta tb:TE):TE:=λσ H Q=>t σ H λc H1=>if c=true then ta σ H1 Q else tb σ H1 Q
def K0 (hc:PT X c tA)(ha:PE X a ta)(hb:PE X b tb):PE X (.IfExp c a b pos) (Ts tA ta tb):=by
 intro pins s σ H Q I h;refine wpAny_IfExp (Ao (hc pins s σ H _ I h) λd s1 hp0=>?_);obtain⟨H1,I1,q1⟩:=hp0;cases d with
 | true=>exact ha pins s1 σ H1 Q I1 q1
 | false=>exact hb pins s1 σ H1 Q I1 q1
end
def SqL (K:W.Frag)(H:Hp)(a:Addr)(xs:List V):Prop:=
 Rd H a (.lst xs) \/
  ∃(o:Obj) (its:Array Value) (n:Nat),K.lookup a=some o/\o.cls=.type "list" /\ o.dict=none/\o.data=.seq its n/\its.size<=sizeLine/\Vals xs its.toList
def SqT (K:W.Frag)(H:Hp)(a:Addr)(xs:List V):Prop:=
 Rd H a (.tup xs) \/
  ∃(o:Obj) (its:Array Value) (n:Nat),K.lookup a=some o/\o.cls=.type "tuple" /\ o.data=.seq its n/\its.size<=sizeLine/\Vals xs its.toList
def CY:Value->Option V
 | .none=>some .non
 | .bool b=>some (.bl b)
 | .int i _=>some (.int i)
 | .str x _=>some (.str x)
 | .bytes b _=>some (.byt b)
 | .float b _=>some (.flt b)
 | .ref a=>some (.ref a)
 | .type n=>some (.ty n)
 | _=>none
def RelV.abs (r:RelV x u):CY u=some x:=by
 cases x with
 | non=>cases r;rfl
 | bl _=>cases r;rfl
 | int _=>obtain⟨t,rfl⟩:=r;rfl
 | str _=>obtain⟨t,rfl⟩:=r;rfl
 | byt _=>obtain⟨t,rfl⟩:=r;rfl
 | flt _=>obtain⟨t,rfl⟩:=r;rfl
 | ref _=>cases r;rfl
 | ty _=>cases r;rfl
def RelV.inj (r:RelV x u)(q:RelV y u):x=y:=Bx (r.abs.symm.trans q.abs)
theorem Vals.inj:∀{xs ys:List V}{us:List Value},Vals xs us->Vals ys us->xs=ys
 | _,_,_,.nil,.nil=>rfl
 | _,_,_,.cons r t,.cons r' t'=>by rw[r.inj r',Vals.inj t t']
section
variable {X:Cx}{pins:List (Addr×Obj)}{σ:St}{H:Hp}{s:Shared}{a:Addr}{xs ys:List V}
def SqL.of {K:W.Frag}(h:H a=some (.lst xs)):SqL K H a xs:=.inl (.inl h)
def SqT.of {K:W.Frag}(h:H a=some (.tup xs)):SqT K H a xs:=.inl (.inl h)
def Inv.list (I:Inv X pins σ H s)(h:SqL X.K H a xs):∃its:List Value,Vals xs its/\PlainL s.heap a its.toArray/\xs.length<=sizeLine:=by
 rcases h with h | ⟨o,its,n,hk,hc,hd,hs,hz,r⟩
 ·obtain⟨z,its,n,r,e⟩:=h.ok I.hok;exact⟨its,r,⟨_,n,e,rfl,rfl,rfl⟩,z⟩
 refine⟨its.toList,r,⟨o,n,I.kIn a o hk,hc,hd,by simpa using hs⟩,?_⟩;have e:=r.length;simp only[JY]at e;lia
def Inv.tuple (I:Inv X pins σ H s)(h:SqT X.K H a xs):∃its:List Value,Vals xs its/\IsTup s.heap a its.toArray/\xs.length<=sizeLine:=by
 rcases h with h | ⟨o,its,n,hk,hc,hs,hz,r⟩
 ·obtain⟨z,its,r,p⟩:=h.ok I.hok;exact⟨its,r,p,z⟩
 refine⟨its.toList,r,⟨o,I.kIn a o hk,hc,n,by simpa using hs⟩,?_⟩;have e:=r.length;simp only[JY]at e;lia
def Inv.list_inj (I:Inv X pins σ H s)(h:SqL X.K H a xs)(h':SqL X.K H a ys):xs=ys:=by
 obtain⟨its,r,⟨o,n,e,_,_,d⟩,_⟩:=I.list h;obtain⟨its',r',⟨o',n',e',_,_,d'⟩,_⟩:=I.list h';rw[e]at e';cases e';rw[d]at d';injection d' with d1 _;have:its=its':=by simpa using BB Array.toList d1
 subst this;exact r.inj r'
end
abbrev Cx.wish (X:Cx)(E:Value->Shared->Prop):Cx:={ X with xe:=E }
abbrev Cx.nox (X:Cx):Cx:=X.wish λ_ _=>False
def Cx.Ok.wish {X:Cx}(ok:X.Ok)(E:Value->Shared->Prop):(X.wish E).Ok:=
 ⟨ok.mod,ok.kind,ok.glob,ok.blt,ok.above,ok.inj,ok.has,ok.cab,ok.hd,ok.frames,ok.stk,ok.exf,ok.bs,ok.bsz,ok.noex,ok.exfs,ok.funs,ok.frf⟩
def Cx.Ok.unwish {X:Cx}{E:Value->Shared->Prop}(ok:(X.wish E).Ok):X.Ok:=
 ⟨ok.mod,ok.kind,ok.glob,ok.blt,ok.above,ok.inj,ok.has,ok.cab,ok.hd,ok.frames,ok.stk,ok.exf,ok.bs,ok.bsz,ok.noex,ok.exfs,ok.funs,ok.frf⟩
section
variable {X:Cx}{pins:List (Addr×Obj)}{σ:St}{H:Hp}{s:Shared}{E:Value->Shared->Prop}
def Inv.wish (I:Inv X pins σ H s)(E:Value->Shared->Prop):Inv (X.wish E) pins σ H s:=⟨I.ok.wish E,I.os,I.bare,I.base,I.loc,I.cell,I.free,I.freeC,I.pin,I.hok,I.len⟩
def Inv.unwish (I:Inv (X.wish E) pins σ H s):Inv X pins σ H s:=⟨I.ok.unwish,I.os,I.bare,I.base,I.loc,I.cell,I.free,I.freeC,I.pin,I.hok,I.len⟩
def SP.unwish (h:SP (X.wish E) pins D f s'):SP X pins D f s':=by
 cases f with
 | next=>obtain⟨σ',H',I,q⟩:=h;exact⟨σ',H',I.unwish,q⟩
 | brk=>obtain⟨σ',H',I,q⟩:=h;exact⟨σ',H',I.unwish,q⟩
 | cont=>obtain⟨σ',H',I,q⟩:=h;exact⟨σ',H',I.unwish,q⟩
 | ret u=>obtain⟨v,σ',H',I,r,q⟩:=h;exact⟨v,σ',H',I.unwish,r,q⟩
def PSs.nox {st:List Stmt}{t:TS}(h:PSs X.nox st t):PSs X st t:=λpins s σ H D I hw=>BL (h pins s σ H D (I.wish _) hw) (λ_ _ q=>q.unwish) λ_ _ z=>False.elim z
end
section
variable {X:Cx}{st:Stmt}{rest:List Stmt}{t u:TS}{e:Expr}{te:TE}{pos:Pos}
def Th:TS:=λD σ H=>D.nx σ H
def Pd (t u:TS):TS:=λD σ H=>t { D with nx:=u D } σ H
def AG:PSs X [] Th:=λ_ _ σ H _ I h=>Lx ⟨σ,H,I,h⟩
def Af (h1:PS X st t)(h2:PSs X rest u):PSs X (st::rest) (Pd t u):=by
 intro pins s σ H D I h;refine wpAny_execs_cons (Ao (h1 pins s σ H { D with nx:=u D } I h) λf s1 q=>?_);cases f with
 | next=>obtain⟨σ',H',I',q⟩:=q;exact h2 pins s1 σ' H' D I' q
 | ret v=>exact q
 | brk=>exact q
 | cont=>exact q
def Am (h1:PS X st t):PSs X [st] t:=by
 intro pins s σ H D I h;refine wpAny_execs_cons (Ao (h1 pins s σ H D I h) λf s1 q=>?_);cases f with
 | next=>exact Lx q
 | ret v=>exact q
 | brk=>exact q
 | cont=>exact q
def Inv.quiet (I:Inv X pins σ H s):interactive X.env=false:=by simp[interactive,I.ok.kind]
def Tv (te:TE):TS:=λD σ H=>te σ H λ_ H1=>D.nx σ H1
def Cs (he:PE X e te)(hs:swapsWith e none pos.line X.env=pure false:=by rfl):PS X (.Expr e pos) (Tv te):=by intro pins s σ H D I h;exact wpAny_Expr_any (Ao (he pins s σ H _ I h) λv s1 hp0=>by obtain⟨x,H1,I1,r1,q1⟩:=hp0;exact⟨σ,H1,I1,q1⟩) I.quiet hs
def S9 (te:TE):TS:=λD σ H=>te σ H D.rt
def AC (he:PE X e te):PS X (.Return (some e) pos) (S9 te):=by intro pins s σ H D I h;exact wpAny_Return_some (Ao (he pins s σ H _ I h) λv s1 hp0=>by obtain⟨x,H1,I1,r1,q1⟩:=hp0;exact⟨x,σ,H1,I1,r1,q1⟩)
def Tr (c:TT)(t u:TS):TS:=λD σ H=>c σ H λb H1=>if b=true then t D σ H1 else u D σ H1
def AH (hc:PT X c tc)(ha:PSs X a t)(hb:PSs X b u):PS X (.If c a b pos) (Tr tc t u):=by
 intro pins s σ H D I h;refine wpAny_If (Ao (hc pins s σ H _ I h) λd s1 hp0=>?_);obtain⟨H1,I1,q1⟩:=hp0;cases d with
 | true=>exact ha pins s1 σ H1 D I1 q1
 | false=>exact hb pins s1 σ H1 D I1 q1
def Ti:TS:=λ_ _ _=>False
def Bu :PSs X sts Ti:=λ_ _ _ _ _ _ h=>h.elim
end
abbrev TG:=V->St->Hp->(St->Hp->Prop)->Prop
def PG (X:Cx)(target:Expr)(t:TG):Prop:=
 ∀(pins:List (Addr×Obj)) (s:Shared) (σ:St) (H:Hp) (v:V) (u:Value) (Q:St->Hp->Prop),Inv X pins σ H s->RelV v u->t v σ H Q ->
  wpAny (model X.prog X.w) X.A (assign target X.env u) (λ_ s'=>∃σ' H',Inv X pins σ' H' s'/\Q σ' H') X.xe s
section
variable {X:Cx}{pos:Pos}
def Ju (i:Nat):TG:=λv σ H Q=>Q (σ.set i (some v)) H
def Qh (hN:X.N.Nodup)(hi:X.N[i]? = some x)(hx:HJ X.env.scope x)(hf:X.fn x=true\/X.env.scope.names.lookup x=some .local:=by first | exact .inl rfl | exact .inr rfl | assumption):PG X (.Name x pos) (Ju i):=by intro pins s σ H v u Q I r h;exact Oq (Mh I hN hi hx r (λs' I'=>⟨_,H,I',h⟩) hf)
def Ph (te:TE)(g:TG):TS:=λD σ H=>te σ H λx H1=>g x σ H1 D.nx
def GC (hN:X.N.Nodup)(hi:X.N[i]? = some x)(hx:HJ X.env.scope x)(he:PE X e te)(hs:swapsWith e (some (.Name x pos')) pos.line X.env=pure false:=by rfl)(hf:X.fn x=true\/X.env.scope.names.lookup x=some .local:=by first | exact .inl rfl | exact .inr rfl | assumption) :
  PS X (.Assign [.Name x pos'] e pos) (Ph te (Ju i)):=by
 intro pins s σ H D I h
 refine wpAny_Assign_Name (Ao (he pins s σ H _ I h) λv s1 hp0=>?_) hs
 obtain⟨y,H1,I1,r1,q1⟩:=hp0
 exact Mh I1 hN hi hx r1 (λs2 I2=>⟨_,H1,I2,q1⟩) hf
end
section
variable {X:Cx}{pos:Pos}
def SZ (c:TT)(tb:TS):TS:=λD σ H=>∃W:Nat->St->Hp->Prop,(∃m,W m σ H)/\∀m σ H,W m σ H ->
 c σ H λb H1=>if b=true then ∃N:St->Hp->Prop,(∀σ' H',N σ' H'->∃m',m'<m/\W m' σ' H')/\tb { D with nx:=N,ct:=N,bk:=D.nx } σ H1 else D.nx σ H1
def Vb (hp:PassesOwn (model X.prog X.w) X.A X.env X.xe)(hc:PT X c tc)(hb:PSs X body tb):PS X (.While c body [] pos) (SZ tc tb):=by
 intro pins s σ H D I h;obtain⟨W,⟨m0,w0⟩,turn⟩:=h;refine wpAny_While (codeAny_whileLoop (λn s'=>∃σ' H',Inv X pins σ' H' s'/\W n σ' H') ?_ m0 ⟨σ,H,I,w0⟩);rintro n s1 ⟨σ1,H1,I1,w1⟩;refine Gm hp (Ao (hc pins s1 σ1 H1 _ I1 (turn n σ1 H1 w1)) λb s2 hp0=>?_);obtain⟨H2,I2,q2⟩:=hp0;cases b with
 | true=>
  obtain⟨N,hN,q2⟩:=q2;rw[As rfl];refine Gm hp (Ao (hb pins s2 σ1 H2 _ I2 q2) λf s3 q3=>?_);cases f with
  | next=>obtain⟨σ3,H3,I3,n3⟩:=q3;obtain⟨m',hm,w3⟩:=hN σ3 H3 n3;exact⟨m',hm,σ3,H3,I3,w3⟩
  | cont=>obtain⟨σ3,H3,I3,n3⟩:=q3;obtain⟨m',hm,w3⟩:=hN σ3 H3 n3;exact⟨m',hm,σ3,H3,I3,w3⟩
  | brk=>exact q3
  | ret v=>exact q3
 | false=>rw[Ai Br];exact Lx ⟨σ1,H2,I2,q2⟩
end
structure It where
 go:Nat->Hp->Prop
 yld:Nat->Hp->V->Hp->Prop
 stop:Nat->Hp->Prop
def CS (X:Cx)(pins:List (Addr×Obj))(H:Hp)(b:Addr):Prop:=
 H b=none/\b≠X.env.locals/\b∉X.fs/\(b∈X.ex\/X.s₀.heap.objs.size<=b)/\(∀x c,X.env.cells.lookup x=some c->c≠b)/\∀p∈X.pn++pins,p.1≠b
def Inv.fpOk (I:Inv X pins σ H s)(hb:s.heap.objs.size<=b)(hn:H' b=none):CS X pins H' b:=by
 refine⟨hn,ne_of_gt (Cf I.lt hb),I.nofs hb,.inr (EB I.sz hb),λx c e z=>?_,λp hp z=>?_⟩
 ·obtain⟨v,q⟩:=I.cell x c e;exact absurd (Cf q.lt (by rw[z];exact hb)) (EC _)
 exact absurd (Cf (A3 (I.pin p hp).1) (by rw[z];exact hb)) (EC _)
structure Gn (P:Program)(w:World)(K:W.Frag)(tg:Expr)(J:It)(fp:List Addr)(it:Addr)(tn:Nat->Heap->Prop):Prop where
 mem:it∈fp
 obj:∀i h,tn i h->∀b∈fp,∃o,h.get? b=some o/\∀v,o.data≠.cell v
 keep:∀i h h',tn i h->(∀b∈fp,∀o,h.get? b=some o->h'.get? b=some o)->tn i h'
 item:∀(X:Cx),X.prog=P->X.w=w->X.K=K->X.calm=true->∀(i:Nat) (pins:List (Addr×Obj)) (s:Shared) (σ:St) (H:Hp) (E:Value->Shared->Prop),Inv X pins σ H s->(∀b∈fp,CS X pins H b)->tn i s.heap->J.go i H ->
  wpAny (model P w) X.A (pyNext (.ref it)) (λr s1=>∃u,r=some u /\
   wpAny (model P w) X.A (letOwnedTupleGo tg (.ref it) u) (λ_ s2=>∃x H',Inv X pins σ H' s2/\RelV x u/\J.yld i H x H'/\tn (i+1) s2.heap/\∀b∈fp,H' b=none) E s1) E s
 done:∀(X:Cx),X.prog=P->X.w=w->X.K=K->X.calm=true->∀(i:Nat) (pins:List (Addr×Obj)) (s:Shared) (σ:St) (H:Hp) (E:Value->Shared->Prop),Inv X pins σ H s->(∀b∈fp,CS X pins H b)->tn i s.heap->J.stop i H ->
  wpAny (model P w) X.A (pyNext (.ref it)) (λr s1=>r=none/\Inv X pins σ H s1) E s
 self:∀(A:Around) (i:Nat) (s:Shared) (Q:Value->Shared->Prop) (E:Value->Shared->Prop),tn i s.heap->Q (.ref it) s->wpAny (model P w) A (pyIter (.ref it)) Q E s
abbrev TI:=St->Hp->(It->Hp->Prop)->Prop
def Si (X:Cx)(pins:List (Addr×Obj))(σ:St)(tg:Expr)(R:It->Hp->Prop)(itv:Value)(s2:Shared):Prop:=
 ∃(it:Addr) (fp:List Addr) (tn:Nat->Heap->Prop) (J:It) (H':Hp),itv=.ref it/\Inv X pins σ H' s2/\Gn X.prog X.w X.K tg J fp it tn/\tn 0 s2.heap/\(∀b∈fp,CS X pins H' b)/\R J H'
def PI (X:Cx)(tg iter:Expr)(wi:TI):Prop:=
 ∀(pins:List (Addr×Obj)) (s:Shared) (σ:St) (H:Hp) (R:It->Hp->Prop),Inv X pins σ H s->wi σ H R ->
  wpAny (model X.prog X.w) X.A (eval iter X.env) (λv s1=>wpAny (model X.prog X.w) X.A (pyIter v) (Si X pins σ tg R) X.xe s1) X.xe s
def Lc (ho:s.heap.get? it=some o)(hc:o.cls=.type n)(hd:o.data=.fields vs)
  (hn:["enumerate", "zip", "dict_itemiterator", "dict_reverseitemiterator", "odict_iterator", "itertools.zip_longest", "itertools.pairwise"].contains n=false)(hQ:Q () s):wpAny M A (letOwnedTupleGo tg (.ref it) u) Q E s:=by
 unfold letOwnedTupleGo
 cases tg <;> first
  | exact An hQ
  | (cases u <;> first
    | exact An hQ
    | (refine Ae (wpAny_load ho ?_)
       rw[hc,hd]
       show wpAny M A (if (["enumerate", "zip", "dict_itemiterator", "dict_reverseitemiterator", "odict_iterator", "itertools.zip_longest", "itertools.pairwise"].contains n && vs[0]? == some (rawInt _))=true then _ else _) Q E s
       rw[Ai (by intro h;rw[hn,Bool.false_and]at h;cases h)]
       exact An hQ))
def J1 (K:W.Frag)(a:Addr):It:=
 ⟨λi H=>∃xs x,SqL K H a xs/\xs[i]? = some x,λi H x H'=>H'=H/\∀xs,SqL K H a xs->xs[i]? = some x,λi H=>∃xs,SqL K H a xs/\xs.length<=i⟩
def HL (lo:Int)(n:Nat):It:=⟨λi _=>i<n,λi H x H'=>H'=H/\x=.int (lo+i),λi _=>n<=i⟩
theorem SR {P:Program}{w:World}{K:W.Frag}{tg:Expr}(a it:Addr):Gn P w K tg (J1 K a) [it] it (λi h=>h.IsListIter it a i) where
 mem:=by simp
 obj:=λi h st b hb=>by
  have e:b=it:=by simpa using hb
  subst e;obtain⟨o,e,c,d⟩:=st;exact⟨o,e,λv z=>by rw[d]at z;cases z⟩
 keep:=λi h h' st k=>st.at λo e=>k it (by simp) o e
 item:=by intro X hP hw hK hc i pins s σ H E I hf st hg;subst hP hw hK;obtain⟨xs,x,hq,hx⟩:=hg;obtain⟨its,rv,p,hz⟩:=I.list hq;obtain⟨u,hu,ru⟩:=rv.get hx;obtain⟨f0,f1,f2,f3,f4,f5⟩:=hf it (by simp);refine wpAny_pyNext_list_item st p.isList (x:=u) (by simpa using hu) λh' st' sb=>?_;have I1:Inv X pins σ H { s with heap:=h' }:=I.turned (t':=s.toks) (λb o hb e=>(sb.2 b hb).trans e) f0 f1 f3 f4 f5;obtain⟨o,e,c,d⟩:=id st';exact⟨u,rfl,Lc (s:={ s with heap:=h' }) e c d (by decide) ⟨x,H,I1,ru,⟨rfl,λys hy=>by rw[I.list_inj hy hq];exact hx⟩,st',λb hb=>(hf b hb).1⟩⟩
 done:=by intro X hP hw hK hc i pins s σ H E I hf st hg;subst hP hw hK;obtain⟨xs,hq,hx⟩:=hg;obtain⟨its,rv,p,hz⟩:=I.list hq;obtain⟨f0,f1,f2,f3,f4,f5⟩:=hf it (by simp);have hl:=rv.length;exact wpAny_pyNext_list_end (I.ok.hd hc) st p.isList (by simp;lia) λh' eb=>⟨rfl,I.turned (t':=s.toks) (λb o hb e=>eb b o hb e) f0 f1 f3 f4 f5⟩
 self:=λ_ _ _ _ _ st h=>wpAny_pyIter_listiter st h
theorem SQ {P:Program}{w:World}{K:W.Frag}{tg:Expr}(it:Addr)(lo:Int)(n:Nat):Gn P w K tg (HL lo n) [it] it (λi h=>IsRangeIter h it (lo+(i:Nat)*1) ((n:Int)-(i:Nat)) 1) where
 mem:=by simp
 obj:=λi h st b hb=>by
  have e:b=it:=by simpa using hb
  subst e;exact⟨_,st,λv z=>by have z':Data.fields _=Data.cell v:=z;cases z'⟩
 keep:=λi h h' st k=>k it (by simp) _ st
 item:=by intro X hP hw hK hc i pins s σ H E I hf st hg;subst hP hw hK;obtain⟨f0,f1,f2,f3,f4,f5⟩:=hf it (by simp);have W:=Walks.range (prog:=X.prog) (w:=X.w) (I.ok.hd hc) it lo 1 n;refine W.item i s _ _ hg st λv h' tk hv st' kk=>?_;obtain⟨t,rfl⟩:=hv;have I1:Inv X pins σ H { s with heap:=h',toks:=tk }:=I.turned (λb o hb e=>kk b o (by simpa using hb) e) f0 f1 f3 f4 f5;refine⟨_,rfl,Lc (s:={ s with heap:=h',toks:=tk }) (n := "range_iterator") st' rfl rfl (by decide) ⟨.int (lo+i),H,I1,⟨t,?_⟩,⟨rfl,rfl⟩,st',λb hb=>(hf b hb).1⟩⟩;rw[Int.mul_one]
 done:=by intro X hP hw hK hc i pins s σ H E I hf st hg;subst hP hw hK;obtain⟨f0,f1,f2,f3,f4,f5⟩:=hf it (by simp);exact wpAny_pyNext_range_end (I.ok.hd hc) st (by have:n<=i:=hg;lia) λh' eb=>⟨rfl,I.turned (t':=s.toks) (λb o hb e=>eb b o hb e) f0 f1 f3 f4 f5⟩
 self:=λ_ _ _ _ _ st h=>wpAny_pyIter_rangeiter st h
section
variable {X:Cx}{tg:Expr}
def YW (K:W.Frag)(tl:TE):TI:=λσ H R=>tl σ H λx H1=>∃a,x=.ref a/\(∃xs,SqL K H1 a xs)/\R (J1 K a) H1
def BQ (hl:PE X l tl):PI X tg l (YW X.K tl):=by
 intro pins s σ H R I h;refine Ao (hl pins s σ H _ I h) λv s1 hp0=>?_;obtain⟨x,H1,I1,r1,q1⟩:=hp0;obtain⟨a,e,⟨xs,hq⟩,q⟩:=q1;subst e;cases r1;obtain⟨its,rv,p,hz⟩:=I1.list hq;refine Oo p.isList ?_;refine⟨s1.heap.objs.size,[s1.heap.objs.size],_,_,H1,rfl,I1.kept (t':=s1.toks) λb o e=>Bf _ e,SR a _,⟨_,BI _ rfl,rfl,rfl⟩,λb hb=>?_,q⟩;have e:b=s1.heap.objs.size:=by simpa using hb
 subst e;exact I1.fpOk (AA _) (I1.hok.fresh (AA _))
def UZ {lo:Int}{t:Tok} (I:Inv X pins σ H s)(h1:-(2^62)<=lo)(h2:lo<2^62)(h3:-(2^62)<=hi)(h4:hi<2^62)
  (q:R (HL lo (hi-lo).toNat) H):wpAny (model X.prog X.w) X.A (pyIter (.ref s.heap.objs.size)) (Si X pins σ tg R) E { s with heap:=s.heap.push { cls:=.type "range",data:=.fields #[.int lo t,.int hi u,.int 1 v] },toks:=tk }:=by
 refine wpAny_pyIter_range (IsRange.new ..) (small_one h1 h2 h3 h4) ?_
 have I1:Inv X pins σ H { s with heap:=s.heap.push { cls:=.type "range",data:=.fields #[.int lo t,.int hi u,.int 1 v] },toks:=tk }:=I.kept λb o e=>Bf _ e
 refine⟨(s.heap.push { cls:=.type "range",data:=.fields #[.int lo t,.int hi u,.int 1 v] }).objs.size,[(s.heap.push { cls:=.type "range",data:=.fields #[.int lo t,.int hi u,.int 1 v] }).objs.size],_,_,H,rfl,I1.kept (t':=tk) λb o e=>Bf _ e,SQ _ lo (hi-lo).toNat,?_,λb hb=>?_,q⟩
 ·have e1:lo+((0:Nat):Int)*1=lo:=by simp
  have e2:(((hi-lo).toNat:Nat):Int)-((0:Nat):Int)=Builtin.Range.rangeSize lo hi 1:=by rw[rangeSize_one];split <;> lia
  show IsRangeIter _ _ (lo+((0:Nat):Int)*1) ((((hi-lo).toNat:Nat):Int)-((0:Nat):Int)) 1;rw[e1,e2];exact BI _ rfl
 have e:b=(s.heap.push { cls:=.type "range",data:=.fields #[.int lo t,.int hi u,.int 1 v] }).objs.size:=by simpa using hb
 subst e
 exact I1.fpOk (AA _) (I1.hok.fresh (AA _))
def YV (ta:TA):TI:=λσ H R=>ta σ H λvs H1=>∃j:Int,vs=[.int j]/\-(2^62)<=j/\j<2^62/\R (HL 0 j.toNat) H1
def Ei (hg:Gl X "range")(hm:X.mg "range" = none)(ha:PA X [a] ta)(hs:starEach [a] X.env=[(false,eval a X.env)]:=by rfl):PI X tg (.Call (.Name "range" p) [a] [] pos) (YV ta):=by
 intro pins s σ H R I h;refine Call_ (Hd I hg hm boot_range (Lm (Ao (ha pos pins s σ H _ I h) λus s1 hp0=>?_) hs rfl));obtain⟨vs,H1,I1,r1,q1⟩:=hp0;obtain⟨j,e,q1,q2,q⟩:=q1;subst e;cases r1 with
 | cons r rr=>cases rr;obtain⟨t,rfl⟩:=r;exact call_range_1 (UZ I1 (by lia) (by lia) q1 q2 (by simpa using q))
def Tt (wi:TI)(g:TG)(tb:TS):TS:=λD σ H=>wi σ H λJ H1=>∃W:Nat->Nat->St->Hp->Prop,(∃m,W 0 m σ H1)/\∀i m σ H,W i m σ H ->
 (J.stop i H/\D.nx σ H)\/(J.go i H/\∃N:St->Hp->Prop,(∀σ' H',N σ' H'->∃m',m'<m/\W (i+1) m' σ' H')/\∀x H',J.yld i H x H'->g x σ H' λσ2 H2=>tb { D with nx:=N,ct:=N,bk:=D.nx } σ2 H2)
def GG (fp:List Addr)(h:Heap):List (Addr×Obj):=fp.filterMap λb=>(h.get? b).map λo=>(b,o)
def G8 (hb:b∈fp)(e:h.get? b=some o):(b,o)∈GG fp h:=mem_filterMap.mpr ⟨b,hb,by rw[e];rfl⟩
def WW (hp:p∈GG fp h):p.1∈fp/\h.get? p.1=some p.2:=by
 obtain⟨b,hb,e⟩:=mem_filterMap.mp hp;cases q:h.get? b with
 | none=>rw[q]at e;cases e
 | some o=>rw[q]at e;have e':(b,o)=p:=Bx e;subst e';exact⟨hb,q⟩
def Inv.pinned (I:Inv X pins σ H s)(hf:∀b∈fp,CS X pins H b)(ho:∀b∈fp,∃o,s.heap.get? b=some o/\∀v,o.data≠.cell v):Inv X (pins++GG fp s.heap) σ H s:=
 I.pins_of λp hp=>(Cc.mp hp).elim (λz=>I.pin p (CQ _ z)) λz=>by obtain⟨hb,e⟩:=WW z;obtain⟨f0,f1,f2,_⟩:=hf p.1 hb;obtain⟨o,e',d⟩:=ho p.1 hb;rw[e]at e';cases e';exact⟨e,f0,f1,f2,d⟩
def Inv.unpinned {pl:List (Addr×Obj)} (I:Inv X (pins++pl) σ H s):Inv X pins σ H s:=I.pins_of λp hp=>I.pin p (CQ _ (F4 _ hp))
def CI (hp:PassesOwn (model X.prog X.w) X.A X.env X.xe)(hc:X.calm=true)(hi:PI X tg iter wi)(hg:PG X tg g)(hb:PSs X body tb)
  (hs:∀x,foldedSetIterable iter X.env x=pure x:=by intro _;rfl):PS X (.For tg iter body [] pos) (Tt wi g tb):=by
 intro pins s σ H D I h
 refine wpAny_For (Ao (hi pins s σ H _ I h) λv s1 h1=>Ao h1 λitv s2 h2=>?_) hs
 obtain⟨it,fp,tn,J,H2,e,I2,T,st2,f2,W,⟨m0,w0⟩,turn⟩:=h2
 subst e
 have stat:∀{H':Hp},(∀b∈fp,H' b=none)->∀b∈fp,CS X pins H' b:=λhn b hb=>⟨hn b hb,(f2 b hb).2⟩
 refine codeAny_forLoop_any (λn s'=>∃i σ' H',Inv X pins σ' H' s'/\tn i s'.heap/\(∀b∈fp,H' b=none)/\W i n σ' H') ?_ m0 ⟨0,σ,H2,I2,st2,λb hb=>(f2 b hb).1,w0⟩
 rintro n s3 ⟨i,σ3,H3,I3,st3,fr3,w3⟩
 rcases turn i n σ3 H3 w3 with⟨stop,qn⟩ | ⟨go,N,hN,step⟩
 ·refine Gm hp (Ao (T.done X rfl rfl rfl hc i pins s3 σ3 H3 X.xe I3 (stat fr3) st3 stop) λr s4 hp0=>?_);obtain⟨hr,I4⟩:=hp0;subst hr;exact Lx ⟨σ3,H3,I4,qn⟩
 refine Gm hp (Ao (T.item X rfl rfl rfl hc i pins s3 σ3 H3 X.xe I3 (stat fr3) st3 go) λr s4 hp0=>?_)
 obtain⟨u,hr,h4⟩:=hp0
 subst hr
 refine Gm hp (Ao h4 λ_ s5 hp0=>?_)
 obtain⟨x,H5,I5,r5,y5,st5,fr5⟩:=hp0
 have I5':=I5.pinned (stat fr5) (T.obj _ _ st5)
 refine Gm hp (Ao (hg _ s5 σ3 H5 x u _ I5' r5 (step x H5 y5)) λ_ s6 hp0=>?_)
 obtain⟨σ6,H6,I6,q6⟩:=hp0
 refine Gm hp (Ao (hb _ s6 σ6 H6 _ I6 q6) λf s7 q7=>?_)
 have again:∀{σ7:St}{H7:Hp},Inv X (pins++GG fp s5.heap) σ7 H7 s7->N σ7 H7->∃m,m<n/\∃i σ' H',Inv X pins σ' H' s7/\tn i s7.heap/\(∀b∈fp,H' b=none)/\W i m σ' H':=λ{σ7 H7} I7 n7=>by obtain⟨m',hm,w7⟩:=hN σ7 H7 n7;refine⟨m',hm,i+1,σ7,H7,I7.unpinned,T.keep _ _ _ st5 λb hb o e=>(I7.pin (b,o) (CQ _ (CQ _ (G8 hb e)))).1,λb hb=>?_,w7⟩;obtain⟨o,e,d⟩:=T.obj _ _ st5 b hb;exact(I7.pin (b,o) (CQ _ (CQ _ (G8 hb e)))).2.1
 cases f with
 | next=>obtain⟨σ7,H7,I7,n7⟩:=q7;exact again I7 n7
 | cont=>obtain⟨σ7,H7,I7,n7⟩:=q7;exact again I7 n7
 | brk=>obtain⟨σ7,H7,I7,q7⟩:=q7;exact⟨σ7,H7,I7.unpinned,q7⟩
 | ret v=>obtain⟨x7,σ7,H7,I7,r7,q7⟩:=q7;exact⟨x7,σ7,H7,I7.unpinned,r7,q7⟩
end
def EO {K:W.Frag}{a:Addr}{xs:List V}{g:TG}{tb:TS}{D:Gq}{σ:St}{H:Hp}(Pv:Nat->St->Hp->Prop)(h0:Pv 0 σ H)(hl:∀i σ H,i<=xs.length->Pv i σ H->SqL K H a xs)
  (hs:∀i x σ H,xs[i]? = some x->Pv i σ H->g x σ H λσ2 H2=>tb { D with nx:=Pv (i+1),ct:=Pv (i+1),bk:=D.nx } σ2 H2)(hd:∀σ H,Pv xs.length σ H->D.nx σ H) :
  ∃W:Nat->Nat->St->Hp->Prop,(∃m,W 0 m σ H)/\∀i m σ H,W i m σ H ->
   ((J1 K a).stop i H/\D.nx σ H)\/((J1 K a).go i H/\∃N:St->Hp->Prop,(∀σ' H',N σ' H'->∃m',m'<m/\W (i+1) m' σ' H')/\∀x H',(J1 K a).yld i H x H'->g x σ H' λσ2 H2=>tb { D with nx:=N,ct:=N,bk:=D.nx } σ2 H2):=by
 refine⟨λi m σ H=>m=xs.length-i/\i<=xs.length/\Pv i σ H,⟨xs.length,by simp,Be _,h0⟩,?_⟩
 rintro i m σ H ⟨rfl,hi,p⟩
 have q:=hl i σ H hi p
 by_cases hlt:i<xs.length
 ·refine .inr ⟨⟨xs,xs[i],q,by simp[hlt]⟩,Pv (i+1),λσ' H' p'=>⟨xs.length-(i+1),by lia,rfl,hlt,p'⟩,λx H' y=>?_⟩;obtain⟨e,y⟩:=y;subst e;exact hs i x σ _ (y xs q) p
 have e:i=xs.length:=by lia
 subst e
 exact .inl ⟨⟨xs,q,AA _⟩,hd σ H p⟩
def Hh {lo:Int}{n:Nat}{g:TG}{tb:TS}{D:Gq}{σ:St}{H:Hp}(Pv:Nat->St->Hp->Prop)(h0:Pv 0 σ H)
  (hs:∀i σ H,i<n->Pv i σ H->g (.int (lo+i)) σ H λσ2 H2=>tb { D with nx:=Pv (i+1),ct:=Pv (i+1),bk:=D.nx } σ2 H2)(hd:∀σ H,Pv n σ H->D.nx σ H) :
  ∃W:Nat->Nat->St->Hp->Prop,(∃m,W 0 m σ H)/\∀i m σ H,W i m σ H ->
   ((HL lo n).stop i H/\D.nx σ H)\/((HL lo n).go i H/\∃N:St->Hp->Prop,(∀σ' H',N σ' H'->∃m',m'<m/\W (i+1) m' σ' H')/\∀x H',(HL lo n).yld i H x H'->g x σ H' λσ2 H2=>tb { D with nx:=N,ct:=N,bk:=D.nx } σ2 H2):=by
 refine⟨λi m σ H=>m=n-i/\i<=n/\Pv i σ H,⟨n,by simp,Be _,h0⟩,?_⟩
 rintro i m σ H ⟨rfl,hi,p⟩
 by_cases hlt:i<n
 ·refine .inr ⟨hlt,Pv (i+1),λσ' H' p'=>⟨n-(i+1),by lia,rfl,hlt,p'⟩,λx H' y=>?_⟩;obtain⟨e,y⟩:=y;subst e y;exact hs i σ _ hlt p
 have e:i=n:=by lia
 subst e
 exact .inl ⟨AA _,hd σ H p⟩
abbrev R2:=V->V->Hp->VK->Prop
def By (X:Cx)(f:Value->Value->Sem Value)(r:R2):Prop:=
 ∀(pins:List (Addr×Obj)) (s:Shared) (σ:St) (H:Hp) (x y:V) (v u:Value) (Q:VK),Inv X pins σ H s->RelV x v->RelV y u->r x y H Q ->
  wpAny (model X.prog X.w) X.A (f v u) (EP X pins σ Q) X.xe s
def OQ (X:Cx)(f:Value->Sem Value)(r:V->Hp->VK->Prop):Prop:=
 ∀(pins:List (Addr×Obj)) (s:Shared) (σ:St) (H:Hp) (x:V) (v:Value) (Q:VK),Inv X pins σ H s->RelV x v->r x H Q ->
  wpAny (model X.prog X.w) X.A (f v) (EP X pins σ Q) X.xe s
def Cw (X:Cx)(f:Value)(r:List V->Hp->VK->Prop):Prop:=
 ∀(pins:List (Addr×Obj)) (s:Shared) (σ:St) (H:Hp) (xs:List V) (us:List Value) (Q:VK),Inv X pins σ H s->Vals xs us->r xs H Q ->
  wpAny (model X.prog X.w) X.A (call f us) (EP X pins σ Q) X.xe s
def J7 (r:R2)(ta tb:TE):TE:=λσ H Q=>ta σ H λx H1=>tb σ H1 λy H2=>r x y H2 Q
def S0 (r:V->Hp->VK->Prop)(ta:TE):TE:=λσ H Q=>ta σ H λx H1=>r x H1 Q
inductive rI (C:Int->Int->Prop)(g:Int->Int->V)(x:V)(y:V)(H:Hp)(Q:VK):Prop
 | mk (i:_) (j:_) (c0:x=.int i) (c1:y=.int j) (c2:C i j) (c3:Q (g i j) H):rI C g x y H Q
inductive FM (g:Int->Int->V)(x:V)(y:V)(H:Hp)(Q:VK):Prop
 | mk (i:_) (j:_) (c0:x=.int i) (c1:y=.int j) (c2:Q (g i j) H):FM g x y H Q
def rU (g:Int->V):V->Hp->VK->Prop:=λx H Q=>∃i,x=.int i/\Q (g i) H
section
variable {X:Cx}{a b c:Expr}{ta tb tc:TE}{pos:Pos}
def Oa (ha:PE X a ta)(hb:PE X b tb){pins:List (Addr×Obj)}{s:Shared}{σ:St}{H:Hp}{R:V->V->Hp->Prop}(I:Inv X pins σ H s)
  (h:ta σ H λx H1=>tb σ H1 λy H2=>R x y H2){Q:Value->Shared->Prop}{f:Value->Value->Sem Value}
  (hf:∀v u s2 x y H2,Inv X pins σ H2 s2->RelV x v->RelV y u->R x y H2->wpAny (model X.prog X.w) X.A (f v u) Q X.xe s2) :
  wpAny (model X.prog X.w) X.A (eval a X.env) (λv s₁=>wpAny (model X.prog X.w) X.A (eval b X.env) (λu s₂=>wpAny (model X.prog X.w) X.A (f v u) Q X.xe s₂) X.xe s₁) X.xe s:=by
 refine Ao (ha pins s σ H _ I h) λv s1 hp0=>?_
 obtain⟨x,H1,I1,r1,q1⟩:=hp0
 refine Ao (hb pins s1 σ H1 _ I1 q1) λu s2 hp0=>?_
 obtain⟨y,H2,I2,r2,q2⟩:=hp0
 exact hf v u s2 x y H2 I2 r1 r2 q2
def Ax (ho:By X (binaryOp op) r)(ha:PE X a ta)(hb:PE X b tb):PE X (.BinOp a op b pos) (J7 r ta tb):=by intro pins s σ H Q I h;exact wpAny_BinOp (Oa ha hb I h λv u s2 x y H2 I2 rx ry q=>ho pins s2 σ H2 x y v u Q I2 rx ry q)
def Iv (ho:OQ X (unaryOp op) r)(ha:PE X a ta):PE X (.UnaryOp op a pos) (S0 r ta):=by intro pins s σ H Q I h;exact UnaryOp_ (Ao (ha pins s σ H _ I h) λv s1 hp0=>by obtain⟨x,H1,I1,r1,q1⟩:=hp0;exact ho pins s1 σ H1 x v Q I1 r1 q1)
def K5 {f:Value->Value->Sem Value}{C:Int->Int->Prop}{g:Int->Int->Int}
  (rule:∀(i j:Int) (t u:Tok) (s:Shared) (Q:Value->Shared->Prop) (E:Value->Shared->Prop),C i j->Q (.int (g i j) s.toks) { s with toks:=s.toks+1 }->wpAny (model X.prog X.w) X.A (f (.int i t) (.int j u)) Q E s) :
  By X f (rI C λi j=>.int (g i j)):=by
 intro pins s σ H x y v u Q I rx ry h
 obtain⟨i,j,rfl,rfl,hc,q⟩:=h
 obtain⟨t,rfl⟩:=rx
 obtain⟨t',rfl⟩:=ry
 exact rule i j t t' s _ _ hc ⟨.int (g i j),H,I.tok _,⟨_,rfl⟩,q⟩
def VE {f:Value->Value->Sem Value}{g:Int->Int->Int}
  (rule:∀(i j:Int) (t u:Tok) (s:Shared) (Q:Value->Shared->Prop) (E:Value->Shared->Prop),Q (.int (g i j) s.toks) { s with toks:=s.toks+1 }->wpAny (model X.prog X.w) X.A (f (.int i t) (.int j u)) Q E s) :
  By X f (FM λi j=>.int (g i j)):=by
 intro pins s σ H x y v u Q I rx ry h
 obtain⟨i,j,rfl,rfl,q⟩:=h
 obtain⟨t,rfl⟩:=rx
 obtain⟨t',rfl⟩:=ry
 exact rule i j t t' s _ _ ⟨.int (g i j),H,I.tok _,⟨_,rfl⟩,q⟩
def Nu {f:Value->Value->Sem Value}{g:Int->Int->Bool}
  (rule:∀(i j:Int) (t u:Tok) (s:Shared) (Q:Value->Shared->Prop) (E:Value->Shared->Prop),Q (.bool (g i j)) s->wpAny (model X.prog X.w) X.A (f (.int i t) (.int j u)) Q E s) :
  By X f (FM λi j=>.bl (g i j)):=by
 intro pins s σ H x y v u Q I rx ry h
 obtain⟨i,j,rfl,rfl,q⟩:=h
 obtain⟨t,rfl⟩:=rx
 obtain⟨t',rfl⟩:=ry
 exact rule i j t t' s _ _ ⟨.bl (g i j),H,I,rfl,q⟩
def aM (i j:Int):Prop:=0<j/\j<1073741824
def aK (i j:Int):Prop:=0<=j/\j<=1000000/\i.natAbs<2^64
def CMul (i j:Int):Prop:=(-(2^64)<i/\i<2^64)\/(-(2^64)<j/\j<2^64)
def CMul.ok (h:CMul i j):IntMulOk i j:=by
 rcases h with⟨h1,h2⟩ | ⟨h1,h2⟩
 ·exact .of_left (intBits_le_64 h1 h2)
 exact .of_right (intBits_le_64 h1 h2)
def Bv:By X (binaryOp .Add) (FM λi j=>.int (i+j)):=VE λ_ _ _ _ _ _ _ q=>add_int q
def G0:By X (binaryOp .Mult) (rI CMul λi j=>.int (i*j)):=K5 λ_ _ _ _ _ _ _ hc q=>mul_int q hc.ok
def Qu:By X (binaryOp .FloorDiv) (rI aM λi j=>.int (i / j)):=K5 λi j _ _ _ _ _ hc q=>by have h1:(0:Int)<j:=hc.1;have h2:j<1073741824:=hc.2;exact floordiv_int (by lia) (by rw[Int.fdiv_eq_ediv_of_nonneg i (by lia)];exact q) (.inl (PyProof.noPylong_small (by lia)))
def Ek:By X (binaryOp .Mod) (rI (λ_ j=>0<j) λi j=>.int (i % j)):=K5 λi j _ _ _ _ _ hc q=>by have h1:(0:Int)<j:=hc;exact mod_int' (by lia) (by rw[Int.fmod_eq_emod_of_nonneg i (by lia)];exact q)
def Vx:By X (binaryOp .Pow) (rI aK λi j=>.int (i^j.toNat)):=K5 λ_ _ _ _ _ _ _ hc q=>pow_int_small hc.1 hc.2.1 hc.2.2 q
def SJ {f:Value->Sem Value}{g:Int->Int}
  (rule:∀(i:Int) (t:Tok) (s:Shared) (Q:Value->Shared->Prop) (E:Value->Shared->Prop),Q (.int (g i) s.toks) { s with toks:=s.toks+1 }->wpAny (model X.prog X.w) X.A (f (.int i t)) Q E s) :
  OQ X f (rU λi=>.int (g i)):=by
 intro pins s σ H x v Q I rx h
 obtain⟨i,rfl,q⟩:=h
 obtain⟨t,rfl⟩:=rx
 exact rule i t s _ _ ⟨.int (g i),H,I.tok _,⟨_,rfl⟩,q⟩
def HP:OQ X (unaryOp .USub) (rU λi=>.int (-i)):=SJ λ_ _ _ _ _ q=>neg_int q
end
def Ki:V->V->Bool
 | .non,.non=>true | .non,.int _=>true | .int _,.non=>true | .non,.bl _=>true | .bl _,.non=>true | .non,.str _=>true | .str _,.non=>true
 | .int _,.int _=>true | .bl _,.bl _=>true | .str _,.str _=>true | .byt _,.byt _=>true
 | .int _,.str _=>true | .str _,.int _=>true | .bl _,.str _=>true | .str _,.bl _=>true
 | _,_=>false
def U7:R2:=λx y H Q=>Ki x y=true/\Q (.bl (decide (x=y))) H
def U4:R2:=λx y H Q=>Ki x y=true/\Q (.bl (!decide (x=y))) H
def Rg :decide (V.int i=V.int j)=(i == j):=by rw[HD];simp
def Ri :decide (V.bl i=V.bl j)=(i == j):=by rw[HD];simp
def Rf :decide (V.str i=V.str j)=(i == j):=by rw[HD];simp
def Rh :decide (V.byt i=V.byt j)=(i.toList == j.toList):=by rw[HD];cases i;cases j;simp
section
variable {X:Cx}{a b c:Expr}{ta tb tc:TE}{pos:Pos}
def Bp {k:Bool}(I:Inv X pins σ H s)(q:Q (.bl k) H)(e:k=k'):EP X pins σ Q (.bool k') s:=by subst e;exact⟨.bl k,H,I,rfl,q⟩
def A9:By X (compareOp .Eq) U7:=by
 intro pins s σ H x y v u Q I rx ry h;obtain⟨hs,q⟩:=h;cases x with
 | non=>
  cases rx;cases y with
  | non=>cases ry;exact PySem.EqNone.eq_none_none (Bp I q (by simp))
  | bl j=>cases ry;exact PySem.EqNone.eq_none_bool (Bp I q (by simp))
  | int j=>obtain⟨t',rfl⟩:=ry;exact PySem.EqNone.eq_none_int (Bp I q (by simp))
  | str j=>obtain⟨t',rfl⟩:=ry;exact PySem.EqNone.eq_none_str (Bp I q (by simp))
  | _=>exact absurd (show false=true from hs) Br
 | bl i=>
  cases rx;cases y with
  | non=>cases ry;exact PySem.EqNone.eq_bool_none (Bp I q (by simp))
  | bl j=>cases ry;exact eq_bool (Bp I q Ri)
  | str j=>obtain⟨t',rfl⟩:=ry;exact PySem.EqMixed.eq_bool_str (Bp I q (by simp))
  | _=>exact absurd (show false=true from hs) Br
 | int i=>
  obtain⟨t,rfl⟩:=rx;cases y with
  | non=>cases ry;exact PySem.EqNone.eq_int_none (Bp I q (by simp))
  | int j=>obtain⟨t',rfl⟩:=ry;exact eq_int (Bp I q Rg)
  | str j=>obtain⟨t',rfl⟩:=ry;exact PySem.EqMixed.eq_int_str (Bp I q (by simp))
  | _=>exact absurd (show false=true from hs) Br
 | str i=>
  obtain⟨t,rfl⟩:=rx;cases y with
  | non=>cases ry;exact PySem.EqNone.eq_str_none (Bp I q (by simp))
  | bl j=>cases ry;exact PySem.EqMixed.eq_str_bool (Bp I q (by simp))
  | int j=>obtain⟨t',rfl⟩:=ry;exact PySem.EqMixed.eq_str_int (Bp I q (by simp))
  | str j=>obtain⟨t',rfl⟩:=ry;exact eq_str (Bp I q Rf)
  | _=>exact absurd (show false=true from hs) Br
 | byt i=>
  obtain⟨t,rfl⟩:=rx;cases y with
  | byt j=>obtain⟨t',rfl⟩:=ry;exact PySem.W.eq_bytes (Bp I q Rh)
  | _=>exact absurd (show false=true from hs) Br
 | _=>cases y <;> exact absurd (show false=true from hs) Br
def GZ:By X (compareOp .NotEq) U4:=by
 intro pins s σ H x y v u Q I rx ry h;obtain⟨hs,q⟩:=h;cases x with
 | non=>
  cases rx;cases y with
  | non=>cases ry;exact PySem.EqNone.ne_none_none (Bp I q (by simp))
  | bl j=>cases ry;exact PySem.EqNone.ne_none_bool (Bp I q (by simp))
  | int j=>obtain⟨t',rfl⟩:=ry;exact PySem.EqNone.ne_none_int (Bp I q (by simp))
  | str j=>obtain⟨t',rfl⟩:=ry;exact PySem.EqNone.ne_none_str (Bp I q (by simp))
  | _=>exact absurd (show false=true from hs) Br
 | bl i=>
  cases rx;cases y with
  | non=>cases ry;exact PySem.EqNone.ne_bool_none (Bp I q (by simp))
  | bl j=>cases ry;exact ne_bool (Bp I q (BB not Ri))
  | str j=>obtain⟨t',rfl⟩:=ry;exact PySem.EqMixed.ne_bool_str (Bp I q (by simp))
  | _=>exact absurd (show false=true from hs) Br
 | int i=>
  obtain⟨t,rfl⟩:=rx;cases y with
  | non=>cases ry;exact PySem.EqNone.ne_int_none (Bp I q (by simp))
  | int j=>obtain⟨t',rfl⟩:=ry;exact ne_int (Bp I q (BB not Rg))
  | str j=>obtain⟨t',rfl⟩:=ry;exact PySem.EqMixed.ne_int_str (Bp I q (by simp))
  | _=>exact absurd (show false=true from hs) Br
 | str i=>
  obtain⟨t,rfl⟩:=rx;cases y with
  | non=>cases ry;exact PySem.EqNone.ne_str_none (Bp I q (by simp))
  | bl j=>cases ry;exact PySem.EqMixed.ne_str_bool (Bp I q (by simp))
  | int j=>obtain⟨t',rfl⟩:=ry;exact PySem.EqMixed.ne_str_int (Bp I q (by simp))
  | str j=>obtain⟨t',rfl⟩:=ry;exact ne_str (Bp I q (BB not Rf))
  | _=>exact absurd (show false=true from hs) Br
 | byt i=>
  obtain⟨t,rfl⟩:=rx;cases y with
  | byt j=>obtain⟨t',rfl⟩:=ry;exact PySem.W.ne_bytes (Bp I q (BB not Rh))
  | _=>exact absurd (show false=true from hs) Br
 | _=>cases y <;> exact absurd (show false=true from hs) Br
def Je:By X (compareOp .Lt) (FM λi j=>.bl (decide (i<j))):=Nu λ_ _ _ _ _ _ _ q=>lt_int q
def G1:By X (compareOp .LtE) (FM λi j=>.bl (decide (i<=j))):=Nu λ_ _ _ _ _ _ _ q=>le_int q
def Fg:By X (compareOp .Gt) (FM λi j=>.bl (decide (j<i))):=Nu λ_ _ _ _ _ _ _ q=>gt_int q
def VA:By X (compareOp .In) (λx y H Q=>∃i j,x=.str i/\y=.str j/\Q (.bl (!(Builtin.Str.occurrences j i 0 j.length 1).isEmpty)) H):=by intro pins s σ H x y v u Q I rx ry h;obtain⟨i,j,rfl,rfl,q⟩:=h;obtain⟨t,rfl⟩:=rx;obtain⟨t',rfl⟩:=ry;exact in_str (Bp I q rfl)
def Qt:By X (compareOp .Is) (λx y H Q=>y=.non/\Q (.bl (decide (x=.non))) H):=by
 intro pins s σ H x y v u Q I rx ry h;obtain⟨rfl,q⟩:=h;cases ry;refine is_none_gen (Bp I q ?_)
 cases x <;> first
  | (cases rx;rfl)
  | (obtain⟨t,rfl⟩:=rx;rfl)
def Vy:By X (compareOp .IsNot) (λx y H Q=>y=.non/\Q (.bl (!decide (x=.non))) H):=by
 intro pins s σ H x y v u Q I rx ry h;obtain⟨rfl,q⟩:=h;cases ry;refine isnot_none_gen (Bp I q ?_)
 cases x <;> first
  | (cases rx;rfl)
  | (obtain⟨t,rfl⟩:=rx;rfl)
def AJ (b:Expr) (h:op≠.In:=by decide)(h2:op≠.NotIn:=by decide):behindInMarks op b=false:=by
 have e1:(op == CmpOp.In)=false:=by cases op <;> first | rfl | exact absurd rfl h
 have e2:(op == CmpOp.NotIn)=false:=by cases op <;> first | rfl | exact absurd rfl h2
 cases b <;> simp[behindInMarks,e1,e2]
def CV (ho:By X (compareOp op) r)(ha:PE X a ta)(hb:PE X b tb)(hm:behindInMarks op b=false):PE X (.Compare a [op] [b] pos) (J7 r ta tb):=by intro pins s σ H Q I h;exact wpAny_Compare1 (Oa ha hb I h λv u s2 x y H2 I2 rx ry q=>ho pins s2 σ H2 x y v u Q I2 rx ry q) hm
inductive QR (Q:Bool->Hp->Prop)(x:V)(H':Hp):Prop
 | mk (k:_) (c0:x=.bl k) (c1:Q k H'):QR Q x H'
def Pc (t:TE):TT:=λσ H Q=>t σ H λx H'=>QR Q x H'
def AI (ho:By X (compareOp op) r)(ha:PE X a ta)(hb:PE X b tb)(hm:behindInMarks op b=false):PT X (.Compare a [op] [b] pos) (Pc (J7 r ta tb)):=by intro pins s σ H Q I h;refine wpAny_isTrue_Compare1 (Ao (ha pins s σ H _ I h) λv s1 ⟨x,H1,I1,r1,q1⟩=>Ao (hb pins s1 σ H1 _ I1 q1) λu s2 ⟨y,H2,I2,r2,q2⟩=>Ao (ho pins s2 σ H2 x y v u _ I2 r1 r2 q2) λc s3 ⟨z,H3,I3,r3,k,e,q3⟩=>?_) hm;subst e;cases r3;exact EU ⟨H3,I3,q3⟩
def TM (r r':R2)(ta tb tc:TE):TE:=λσ H Q=>ta σ H λx H1=>tb σ H1 λy H2=>r x y H2 λz H3=>∃k,z=.bl k /\
 (if k=true then tc σ H3 λw' H4=>r' y w' H4 Q else Q (.bl false) H3)
def Ni (ho:By X (compareOp op) r)(ho':By X (compareOp op') r')(ha:PE X a ta)(hb:PE X b tb)(hc:PE X c tc)
  (hm:lastMarks [op,op'] [b,c]=false:=by with_unfolding_all rfl):PT X (.Compare a [op,op'] [b,c] pos) (Pc (TM r r' ta tb tc)):=by
 intro pins s σ H Q I h
 refine isTrue_chain (Ao (ha pins s σ H _ I h) λv s1 ⟨x,H1,I1,r1,q1⟩=>test_link (Ao (hb pins s1 σ H1 _ I1 q1) λu s2 ⟨y,H2,I2,r2,q2⟩=>Ao (ho pins s2 σ H2 x y v u _ I2 r1 r2 q2) λd s3 ⟨z,H3,I3,r3,k,e,q3⟩=>?_)) hm
 subst e
 cases r3
 refine EU ?_
 cases k with
 | false=>obtain⟨k',e',q'⟩:=q3;cases e';exact ite_ff ⟨H3,I3,q'⟩
 | true=>refine ite_tt (test_last (Ao (hc pins s3 σ H3 _ I3 q3) λw' s4 hp0=>?_));obtain⟨z',H4,I4,r4,q4⟩:=hp0;refine Ao (ho' pins s4 σ H4 y z' u w' _ I4 r2 r4 q4) λd' s5 hp1=>?_;obtain⟨z2,H5,I5,r5,k2,e2,q5⟩:=hp1;subst e2;cases r5;exact EU ⟨H5,I5,q5⟩
def Jk:(sizeLine:Nat)<2^63:=by rw[AM];decide
inductive P8 (x y:V)(H:Hp)(Q:VK):Prop
 | mk (i:_) (j:_) (c0:x=.str i) (c1:y=.str j) (c2:i.length+j.length<=sizeLine) (c3:Q (.str (i++j)) H):P8 x y H Q
def CW:By X (binaryOp .Add) P8:=by intro pins s σ H x y v u Q I rx ry h;obtain⟨i,j,rfl,rfl,hz,q⟩:=h;obtain⟨t,rfl⟩:=rx;obtain⟨t',rfl⟩:=ry;exact add_str (λt' tk=>⟨.str (i++j),H,I.tok _,⟨_,rfl⟩,q⟩) hz
def Da (r:Vals [x] us):∃u,us=[u]/\RelV x u:=by
 cases r with
 | cons r1 r2=>cases r2;exact⟨_,rfl,r1⟩
def J3 (r:Vals [x,y] us):∃u w',us=[u,w']/\RelV x u/\RelV y w':=by
 cases r with
 | cons r1 r2=>
  cases r2 with
  | cons r3 r4=>cases r4;exact⟨_,_,rfl,r1,r3⟩
def aJ (K:W.Frag)(x:V)(H:Hp)(n:Nat):Prop:=
 match x with
 | .str y=>y.length<=sizeLine/\n=y.length
 | .byt y=>y.size<=sizeLine/\n=y.size
 | .ref p=>(∃xs,SqL K H p xs/\n=xs.length)\/∃xs,SqT K H p xs/\n=xs.length
 | _=>False
inductive P6 (K:W.Frag)(xs:List V)(H:Hp)(Q:VK):Prop
 | mk (x:_) (n:_) (c0:xs=[x]) (c1:aJ K x H n) (c2:Q (.int n) H):P6 K xs H Q
def Bq:Cw X (.builtin "len") (P6 X.K):=by
 intro pins s σ H xs us Q I r h;obtain⟨x,n,rfl,e,q⟩:=h;obtain⟨u,rfl,rx⟩:=Da r;have hl:=Jk;have hs:sizeLine=16777216:=AM;cases x with
 | str y=>obtain⟨t,rfl⟩:=rx;obtain⟨hy,e'⟩:y.length<=sizeLine/\n=y.length:=e;subst e';exact len_str (by lia) ⟨.int _,H,I.tok _,⟨_,rfl⟩,q⟩
 | byt y=>obtain⟨t,rfl⟩:=rx;obtain⟨hy,e'⟩:y.size<=sizeLine/\n=y.size:=e;subst e';exact PySem.W.len_bytes (by lia) ⟨.int _,H,I.tok _,⟨_,rfl⟩,q⟩
 | ref p=>
  cases rx;have e':(∃xs,SqL X.K H p xs/\n=xs.length)\/∃xs,SqT X.K H p xs/\n=xs.length:=e;rcases e' with⟨xs,hx,e'⟩ | ⟨xs,hx,e'⟩
  ·subst e';obtain⟨its,r',pl,hz⟩:=I.list hx;have hlen:=r'.length;exact Calls.call_len_list pl.isList (by simp only[BH];lia) ⟨.int xs.length,H,I.tok _,⟨_,by simp only[BH];rw[hlen]⟩,q⟩
  subst e';obtain⟨its,r',pl,hz⟩:=I.tuple hx;have hlen:=r'.length;exact len_tuple pl (by simp only[BH];lia) ⟨.int xs.length,H,I.tok _,⟨_,by simp only[BH];rw[hlen]⟩,q⟩
 | _=>exact(show False from e).elim
end
structure ObjM (h:Heap)(x dx C:Addr)(mA:Str->Option Value):Prop where
 obj:h.get? x=some (PySem.W.instObj C dx)
 ns:h.Ns1 dx mA
 ne:dx≠x
def Yk {h:Heap}{dx:Addr}{mA:Str->Option Value}(n:h.Ns1 dx mA):∃od,h.get? dx=some od/\∀name,PySem.W.lookIn name od=some (mA name):=by
 obtain⟨o,es,ep,ho,hd,hk,_,hm⟩:=n;refine⟨o,ho,λname=>?_⟩;have e:=hm name;unfold nsFind findBy at e;rw[<- Array.find?_toList]at e;unfold PySem.W.lookIn;rw[hd];dsimp only;split
 ·rename_i y q;rw[q]at e;exact BB some e
 rename_i q;rw[q]at e;have a:es.toList.any (·.refKey)=false:=by rw[any_eq_false];intro y hy;obtain⟨z,t,hkey⟩:=hk y (Array.mem_toList_iff.mp hy);simp[DictEntry.refKey,hkey]
 have a':¬es.toList.any (·.refKey)=true:=by rw[a];exact Br
 rw[Ai a'];exact BB some e
def ObjM.look (I:ObjM h x dx C mA):∃od,PySem.W.InstAt h x (PySem.W.instObj C dx) C (some od)/\∀name,PySem.W.lookIn name od=some (mA name):=
 let ⟨od,ho,hl⟩:=Yk I.ns
 ⟨od,⟨I.obj,rfl,rfl,ho⟩,hl⟩
section
variable {prog:Program}{w:World}{A:Around}{E:Value->Shared->Prop}{s:Shared}{K:W.Frag}{x dx C f:Addr}{mA:Str->Option Value}{name:Str}{v:Value}
def Za (X:K.In s.heap)(I:ObjM s.heap x dx C mA)(hg:PySem.W.plainGet K C name=true)(hh:PySem.W.hasDictIn K C=true)
  (ha:PySem.W.findIn K (.ref C) name=some none)(hv:mA name=some v)(hv':PySem.W.handedIn v=true)(h:Q v { s with toks:=s.toks+1 }) :
  wpAny (model prog w) A (getAttr (.ref x) name expr) Q E s:=by
 obtain⟨od,J,hl⟩:=I.look
 exact PySem.W.get_value X J (OA hg).1 (PySem.W.findObj_own hh ha rfl (by rw[hl,hv])) hv' h
def Y9 {pl:Sem Bool} (X:K.In s.heap)(I:ObjM s.heap x dx C mA)(hg:PySem.W.plainGet K C name=true)
  (hf:PySem.W.findIn K (.ref C) name=some (some (.ref f)))(ht:PySem.W.isFn K (.ref f)=true)(hv:mA name=none)(h:Q (.ref f,[.ref x]) s) :
  wpAny (model prog w) A (getMethod (.ref x) name pl) Q E s:=by
 obtain⟨od,J,hl⟩:=I.look
 exact PySem.W.method_fn X J (OA hg).1 (OA hg).2 hf (Fv.mp ht) (by show(PySem.W.lookIn name od).map (·.isSome)=some false;rw[hl,hv];rfl) h
def Ud (X:K.In s.heap)(I:ObjM s.heap x dx C mA)
  (hs:PySem.W.findIn K (.ref C) "__setattr__" = some (some (.builtin "object.__setattr__")))(hp:PySem.W.plainOver K C=true)(ht:PySem.W.takerIn K C name=some none)(hh:PySem.W.hasDictIn K C=true)
  (hw:PySem.Within mA ns)(hsz:ns.length<=sizeLine)
  (h:∀h',ObjM h' x dx C (λy=>if y=name then some v else mA y)->Heap.SameBut dx s.heap h'->Q () { s with heap:=h',toks:=s.toks+2 }) :
  wpAny (model prog w) A (setAttr (.ref x) name v) Q E s:=by
 obtain⟨od,J,hl⟩:=I.look
 refine PySem.W.set_plain X J hs (PySem.W.osa_open (s:={ s with toks:=s.toks+1 }) (r:=none) X J hp ht λb=>?_)
 obtain⟨cd,hc,hd'⟩:=PySem.W.any_some hh
 have hx:s.heap.get? x=some ⟨.ref C,some dx,.plain,#[]⟩:=I.obj
 refine Ae (An (Ae (Ae (wpAny_loadPart hx (Ae (PySem.W.Looks.here (s:={ s with toks:=s.toks+1 }) (PySem.W.looks_clsIn X hc) ?_))))))
 rw[hd']
 refine An (a:=some dx) (Ae (An (Ae ?_)))
 refine wpAny_nsSet1 (s:={ s with toks:=s.toks+1 }) I.ns λh' hn2 hs2=>?_
 obtain⟨oD,esD,epD,hoD,hdD,hcD⟩:=hn2.count (PySem.Within.cons name v hw)
 refine Ae (wpAny_lookBehind hoD (by rw[hdD];exact pastItsLine_dict (EB hcD (by rw[Cp];lia))) ?_)
 exact An (h _ ⟨(hs2.2 _ (Dm I.ne)).trans I.obj,hn2,I.ne⟩ hs2)
def Yi (X:K.In s.heap)(hm:PySem.W.makesIn K C=true)
  (hi:PySem.W.findIn K (.ref C) "__init__" = some (some (.ref f)))(hf:PySem.W.typeIn K (.ref f)=some (.type "function"))
  (h:codeAny (model prog w) (A.under (.builtin "type.__call__" ⟨.ref C::vs,kw⟩)) (.call (.ref f) ⟨.ref (s.heap.objs.size+1)::vs,kw⟩) (PySem.W.InitBack (s.heap.objs.size+1) R) { s with heap:=(s.heap.push PySem.W.emptyDict).push (PySem.W.instObj C s.heap.objs.size) }) :
  codeAny (model prog w) A (.call (.ref C) ⟨vs,kw⟩) R s:=by
 obtain⟨hh,g,d,t,os⟩:=s
 exact PySem.W.make_core (PySem.W.makes_of X hm) (PySem.W.looks_findIn X hi) (λself=>PySem.W.bind_fn X self hf) (.inl rfl) h
end
def putF (f:Str)(v:V):List (Str×V)->List (Str×V)
 | []=>[(f,v)]
 | (g,x)::r=>if g=f then(g,v)::r else(g,x)::putF f v r
theorem FU (f g:Str)(v:V):∀fs:List (Str×V),(putF f v fs).lookup g=if g=f then some v else fs.lookup g
 | []=>by
  show List.lookup g [(f,v)]=_;by_cases h:g=f
  ·have hb:(g == f)=true:=Fv.mpr h;simp only[List.lookup,hb,As h]
  have hb:(g == f)=false:=F6.mpr h;simp only[List.lookup,hb,Ai h]
 | (k,x)::r=>by
  have ih:=FU f g v r;rw[show putF f v ((k,x)::r)=(if k=f then(k,v)::r else(k,x)::putF f v r) from rfl];by_cases hk:k=f
  ·rw[As hk];by_cases h:g=k
   ·have hb:(g == k)=true:=Fv.mpr h;simp only[List.lookup,hb,As (h.trans hk)]
   have hb:(g == k)=false:=F6.mpr h;simp only[List.lookup,hb,Ai (λe:g=f=>h (e.trans hk.symm))]
  rw[Ai hk];by_cases h:g=k
  ·have hb:(g == k)=true:=Fv.mpr h;simp only[List.lookup,hb,Ai (λe:g=f=>hk (h.symm.trans e))]
  have hb:(g == k)=false:=F6.mpr h;simp only[List.lookup,hb];exact ih
theorem NK (f:Str)(v:V):∀fs:List (Str×V),f∈(putF f v fs).map (·.1)/\∀g,g∈fs.map (·.1)->g∈(putF f v fs).map (·.1)
 | []=>⟨by simp[putF],λg h=>by simp at h⟩
 | (k,x)::r=>by
  obtain⟨i1,i2⟩:=NK f v r;rw[show putF f v ((k,x)::r)=(if k=f then(k,v)::r else(k,x)::putF f v r) from rfl];by_cases hk:k=f
  ·rw[As hk];subst hk;exact⟨by simp,λg h=>by simpa using h⟩
  rw[Ai hk];refine⟨?_,λg h=>?_⟩
  ·rw[Bj];exact AR _ i1
  rw[Bj]at h ⊢;rcases(AD.mp h)with e | e
  ·exact AD.mpr (.inl e)
  exact AR _ (i2 g e)
theorem QD (f:Str)(v:V):∀fs:List (Str×V),(putF f v fs).length<=fs.length+1
 | []=>by simp[putF]
 | (k,x)::r=>by
  have ih:=QD f v r;rw[show putF f v ((k,x)::r)=(if k=f then(k,v)::r else(k,x)::putF f v r) from rfl];by_cases hk:k=f
  ·rw[As hk,Cp,Cp];lia
  rw[Ai hk,Cp,Cp];lia
def RelO.some_of (r:RelO (some v) o):∃u,o=some u/\RelV v u:=by
 cases o with
 | none=>exact(show False from r).elim
 | some u=>exact⟨u,rfl,r⟩
def RelO.none_of (r:RelO none o):o=none:=by
 cases o with
 | none=>rfl
 | some u=>exact(show False from r).elim
def Y5 (r:RelV v u):PySem.W.handedIn u=true:=by
 cases v with
 | non=>cases (show u=Value.none from r);rfl
 | bl b=>cases (show u=Value.bool b from r);rfl
 | int i=>obtain⟨t,e⟩:=(show ∃t,u=Value.int i t from r);cases e;rfl
 | str x=>obtain⟨t,e⟩:=(show ∃t,u=Value.str x t from r);cases e;rfl
 | byt b=>obtain⟨t,e⟩:=(show ∃t,u=Value.bytes b t from r);cases e;rfl
 | flt b=>obtain⟨t,e⟩:=(show ∃t,u=Value.float b t from r);cases e;rfl
 | ref a=>cases (show u=Value.ref a from r);rfl
 | ty n=>cases (show u=Value.type n from r);rfl
section
variable {P:Program}{w:World}{H H':Hp}{h h':Heap}{a C dx:Addr}{fs fs':List (Str×V)}
def NL (hok:HOk P w H h)(e:H a=some (.ins C dx fs)):∃mA,ObjM h a dx C mA/\(∀f,RelO (fs.lookup f) (mA f))/\PySem.Within mA (fs.map (·.1))/\fs.length<=1000/\H dx=some (.own a):=by obtain⟨d,z,ne,ob,mA,n,r,q⟩:=(show ObjOk P w H h a (.ins C dx fs) from hok a _ e);exact⟨mA,⟨ob,n,ne⟩,r,q,z,d⟩
end
structure Cls (K:W.Frag)(C:Addr):Prop where
 pg:PySem.W.plainGet K C Str.empty=true
 hd:PySem.W.hasDictIn K C=true
 po:PySem.W.plainOver K C=true
 sa:PySem.W.findIn K (.ref C) "__setattr__" = some (some (.builtin "object.__setattr__"))
def Cls.get {K:W.Frag}{C:Addr}(c:Cls K C)(f:Str):PySem.W.plainGet K C f=true:=c.pg
def NoAttr (K:W.Frag)(C:Addr)(f:Str):Prop:=PySem.W.findIn K (.ref C) f=some none
def NoAttr.taker {K:W.Frag}{C:Addr}{f:Str}(n:NoAttr K C f):PySem.W.takerIn K C f=some none:=by unfold PySem.W.takerIn;rw[show PySem.W.findIn K (.ref C) f=some none from n];rfl
structure B7 (K:W.Frag)(C:Addr)(m:Str)(f:Addr):Prop where
 at_:PySem.W.findIn K (.ref C) m=some (some (.ref f))
 fn:PySem.W.isFn K (.ref f)=true
 kp:PySem.W.keepIn K (.ref f)=true
section
variable {X:Cx}{pins:List (Addr×Obj)}{σ:St}{H:Hp}{s:Shared}{a C dx:Addr}{fs:List (Str×V)}{f:Str}{v:V}{A:Around}{E:Value->Shared->Prop}
def Y8 (I:Inv X pins σ H s)(e:H a=some (.ins C dx fs))(c:Cls X.K C)(n:NoAttr X.K C f)(l:fs.lookup f=some v)
  (h:∀u s',Inv X pins σ H s'->RelV v u->Q u s'):wpAny (model X.prog X.w) A (getAttr (.ref a) f b) Q E s:=by
 obtain⟨mA,O,r,_,_,_⟩:=NL I.hok e
 obtain⟨u,hu,ru⟩:=RelO.some_of (v:=v) (o:=mA f) (by rw[<- l];exact r f)
 exact Za I.kIn O (c.get f) c.hd n hu (Y5 ru) (h u _ (I.tok _) ru)
def QX {pl:Sem Bool} (I:Inv X pins σ H s)(e:H a=some (.ins C dx fs))(c:Cls X.K C)(k:B7 X.K C m g)(l:fs.lookup m=none)
  (h:Q (.ref g,[.ref a]) s):wpAny (model X.prog X.w) A (getMethod (.ref a) m pl) Q E s:=by
 obtain⟨mA,O,r,_,_,_⟩:=NL I.hok e
 have hn:mA m=none:=RelO.none_of (by rw[<- l];exact r m)
 exact Y9 I.kIn O (c.get m) k.at_ k.fn hn h
def Uc (I:Inv X pins σ H s)(e:H a=some (.ins C dx fs))(c:Cls X.K C)(n:NoAttr X.K C f)(hl:fs.length<1000)(ry:RelV y u)
  (h:∀s',Inv X pins σ (Ac H a (.ins C dx (putF f y fs))) s'->Q () s'):wpAny (model X.prog X.w) A (setAttr (.ref a) f u) Q E s:=by
 obtain⟨mA,O,r,wi,_,ho⟩:=NL I.hok e
 have hz:(fs.map (·.1)).length<=sizeLine:=by rw[Ar,AM];lia
 refine Ud I.kIn O c.sa c.po n.taker c.hd wi hz λh' O' sb=>h _ ?_
 have hd:∃o,h'.get? dx=some o:=let ⟨o,_,_,e',_⟩:=O'.ns;⟨o,e'⟩
 refine I.write (x:=a) (e:=dx) (by rw[e];exact Fu) (.inr ho) (λb q hb z=>(sb.2 b hb).trans z) hd ?_
 refine⟨by rw[Aj O.ne];exact ho,?_,O.ne,O'.obj,_,O'.ns,λg=>?_,λg hg=>?_⟩
 ·have:=QD f y fs;lia
 ·show RelO ((putF f y fs).lookup g) (if g=f then some u else mA g);rw[FU];by_cases q:g=f
  ·rw[As q,As q];exact ry
  rw[Ai q,Ai q];exact r g
 by_cases q:g=f
 ·rw[q];exact(NK f y fs).1
 refine(NK f y fs).2 g (wi g λz=>hg ?_)
 show(if g=f then some u else mA g)=none
 rw[Ai q];exact z
def Inv.made (I:Inv X pins σ H s):Inv X pins σ (Ac (Ac H s.heap.objs.size (.own (s.heap.objs.size+1))) (s.heap.objs.size+1) (.ins C s.heap.objs.size []))
  { s with heap:=(s.heap.push PySem.W.emptyDict).push (PySem.W.instObj C s.heap.objs.size) }:=by
 have e1:(s.heap.push PySem.W.emptyDict).get? s.heap.objs.size=some PySem.W.emptyDict:=BI s.heap rfl
 have e2:((s.heap.push PySem.W.emptyDict).push (PySem.W.instObj C s.heap.objs.size)).get? (s.heap.objs.size+1)=some (PySem.W.instObj C s.heap.objs.size):=by have:=BI (s.heap.push PySem.W.emptyDict) (o:=PySem.W.instObj C s.heap.objs.size) rfl;rwa [JS]at this
 have e3:(s.heap.push PySem.W.emptyDict).Ns s.heap.objs.size (λ_=>none):=⟨PySem.W.emptyDict,#[],_,e1,rfl,(λe he=>absurd he (by simp)),λ_=>rfl⟩
 have I1:=I.laid (a:=s.heap.objs.size) (o:=.own (s.heap.objs.size+1)) (h':=s.heap.push PySem.W.emptyDict) (t':=s.toks) (λb u q=>Bf _ q) (AA _) ⟨_,e1⟩
 refine I1.laid (a:=s.heap.objs.size+1) (o:=.ins C s.heap.objs.size []) (t':=s.toks) (λb u q=>Bf _ q) (le_of_eq (JS _ _)) ?_
 have ne:s.heap.objs.size≠s.heap.objs.size+1:=Bo (JM _)
 refine⟨by rw[Aj ne,Ak],Be _,ne,e2,λ_=>none,(Heap.Ns1.of_empty e3).at λo q=>Bf _ q,λ_=>Fu,λy hy=>absurd rfl hy⟩
def Z3 (hb:attributeBase e f env (eval e env)=eval e env)
  (h:wpAny (model prog w) A (eval e env) (λo s₁=>wpAny (model prog w) A (getAttr o f true) Q E s₁) E s):wpAny (model prog w) A (eval (.Attribute e f pos) env) Q E s:=
 Attribute_any_ h (by rw[arm_eval_Attribute,hb])
end
inductive QT (K:W.Frag)(f:Str)(Q:VK)(x:V)(H1:Hp):Prop
 | mk (a:_) (C:_) (dx:_) (fs:_) (v:_) (c0:x=.ref a) (c1:H1 a=some (.ins C dx fs)) (c2:Cls K C) (c3:NoAttr K C f) (c4:fs.lookup f=some v) (c5:Q v H1):QT K f Q x H1
def Tu (K:W.Frag)(ta:TE)(f:Str):TE:=λσ H Q=>ta σ H λx H1=>QT K f Q x H1
def UG (K:W.Frag)(ta tv:TE)(f:Str):TS:=λD σ H=>tv σ H λy H1=>ta σ H1 λx H2=>∃a C dx fs,x=.ref a/\H2 a=some (.ins C dx fs)/\Cls K C/\NoAttr K C f/\fs.length<1000 /\
 D.nx σ (Ac H2 a (.ins C dx (putF f y fs)))
section
variable {X:Cx}{o e value:Expr}{f:Str}{pos pos' tpos:Pos}{ta tv:TE}
def Iz (he:PE X e ta)(hb:attributeBase e f X.env (eval e X.env)=eval e X.env):PE X (.Attribute e f pos) (Tu X.K ta f):=by intro pins s σ H Q I h;refine Z3 hb (Ao (he pins s σ H _ I h) λu s1 hp0=>?_);obtain⟨x,H1,I1,rx,a,C,dx,fs,v,ex,ea,c,n,l,q⟩:=hp0;subst ex;obtain rfl:u=Value.ref a:=rx;exact Y8 I1 ea c n l λu' s2 I2 ru=>⟨v,H1,I2,ru,q⟩
def KZ (ha:PE X o ta)(hv:PE X value tv)(hs:swapsWith value (some (.Attribute o f pos')) pos.line X.env=pure false):PS X (.Assign [.Attribute o f pos'] value pos) (UG X.K ta tv f):=by intro pins s σ H D I h;refine plainObj_wpAny_Assign_Attribute (Ao (hv pins s σ H _ I h) λu s1 hp0=>?_) hs;obtain⟨y,H1,I1,ry,q⟩:=hp0;refine Ao (ha pins s1 σ H1 _ I1 q) λov s2 hp1=>?_;obtain⟨x,H2,I2,rx,a,C,dx,fs,ex,ea,c,n,l,q2⟩:=hp1;subst ex;obtain rfl:ov=Value.ref a:=rx;exact Uc I2 ea c n l ry λs3 I3=>⟨σ,_,I3,q2⟩
end
structure Room (k:Nat)(A:Around):Prop where
 hd:A.handled=none
 dp:A.depth+3*k+5<recursionLimit
 un:A.units+16*k+200<cLine
def Room.mono {k:Nat} (r:Room k A)(h:j<=k):Room j A:=⟨r.hd,by have:=r.dp;lia,by have:=r.un;lia⟩
def Room.deeper {k:Nat} (r:Room (k+1) A)(env:Env):Room k (A.deeper env):=
 ⟨r.hd,by have:=r.dp;show A.depth+1+3*k+5<_;lia,by have:=r.un;show A.units+3+16*k+200<_;lia⟩
def Yj {A:Around}{C:Addr}{us:List Value}{kw:List (Str×Value)}:(A.under (.builtin "type.__call__" ⟨.ref C::us,kw⟩)).depth=A.depth+1:=by first | rfl | simp[Around.under,Code.weight,Code.isCreation,Code.isGuard,Code.isCaller,Code.frames,Code.isFrame,guardIds]
def Yh {A:Around}{C:Addr}{us:List Value}{kw:List (Str×Value)}:(A.under (.builtin "type.__call__" ⟨.ref C::us,kw⟩)).units=A.units+1:=by first | rfl | simp[Around.under,Code.cUnits,Code.frames,Code.isFrame]
def Room.make {k:Nat} (r:Room (k+1) A)(C:Addr)(us:List Value)(kw:List (Str×Value)):Room k (A.under (.builtin "type.__call__" ⟨.ref C::us,kw⟩)):=
 ⟨r.hd,by have:=r.dp;rw[Yj];lia,by have:=r.un;rw[Yh];lia⟩
def Room.depth {k:Nat} (r:Room k A):A.depth<recursionLimit:=by have:=r.dp;lia
def Room.units {k:Nat} (r:Room k A):A.units+64<cLine:=by have:=r.un;lia
def Mb:TA:=λ_ H Q=>Q [] H
def TK (ta:TE)(tr:TA):TA:=λσ H Q=>ta σ H λx H1=>tr σ H1 λxs H2=>Q (x::xs) H2
section
variable {X:Cx}{e:Expr}{es:List Expr}{te:TE}{t:TA}{pos:Pos}
def Ab:PA X [] Mb:=λ_ _ _ _ H Q I h=>On ⟨[],H,I,.nil,h⟩
def Aa (ha:PE X e te)(hr:PA X es t)(hs:starEach (e::es) X.env=(false,eval e X.env)::starEach es X.env:=by rfl):PA X (e::es) (TK te t):=by intro pos pins s σ H Q I h;rw[hs];show wpAny _ _ (spliced ((false,eval e X.env)::backTo pos (starEach es X.env))) _ _ s;refine Ow (Ao (ha pins s σ H _ I h) λu s1 hp0=>?_);obtain⟨x,H1,I1,r1,q1⟩:=hp0;exact Ao (hr pos pins s1 σ H1 _ I1 q1) λus s2 hp0=>by obtain⟨xs,H2,I2,r2,q2⟩:=hp0;exact⟨x::xs,H2,I2,.cons r1 r2,q2⟩
def S1 (t:TA):TE:=λσ H Q=>t σ H λxs H1=>xs.length<=sizeLine/\∀p,H1 p=none->Q (.ref p) (Ac H1 p (.tup xs))
def Tn (t:TA):TE:=λσ H Q=>t σ H λxs H1=>xs.length<=sizeLine/\∀p,H1 p=none->Q (.ref p) (Ac H1 p (.lst xs))
def BR {x1}(h:PA X es t):PE X (.Tuple es x1 pos) (S1 t):=by intro pins s σ H Q I hq;refine wpAny_Tuple_spliced (Ao (h pos pins s σ H _ I hq) λus s1 hp0=>?_);obtain⟨xs,H1,I1,r,z,q⟩:=hp0;refine⟨by rw[<- r.length];exact z,?_⟩;have hf:H1 s1.heap.objs.size=none:=I1.hok.fresh (AA _);refine⟨.ref s1.heap.objs.size,Ac H1 s1.heap.objs.size (.tup xs),I1.laid (t':=s1.toks) (λb u e=>Bf _ e) (AA _) ?_,rfl,q _ hf⟩;exact⟨z,us,r,⟨_,BI _ rfl,rfl,_,rfl⟩⟩
def Bh (h:PA X es t):PE X (.List es pos) (Tn t):=by intro pins s σ H Q I hq;refine wpAny_List_spliced (Ao (h pos pins s σ H _ I hq) λus s1 hp0=>?_);obtain⟨xs,H1,I1,r,z,q⟩:=hp0;refine⟨by rw[<- r.length];exact z,?_⟩;have hf:H1 s1.heap.objs.size=none:=I1.hok.fresh (AA _);refine⟨.ref s1.heap.objs.size,Ac H1 s1.heap.objs.size (.lst xs),I1.laid (t':=s1.toks) (λb u e=>Bf _ e) (AA _) ?_,rfl,q _ hf⟩;exact⟨z,us,0,r,BI _ rfl⟩
end
abbrev Sp:=List V->Hp->VK->XK->Prop
abbrev C9:=List Env->Hp->Shared->XK->Value->Shared->Prop
structure Env0 (P:Program)(w:World)(K:W.Frag)(mg:Str->Option Value)(base:Heap)(A:Around)(outer:List Env)(s:Shared)(H:Hp):Prop where
 frames:A.frames=some outer
 mod:Mod K mg base
 bs:∀b o,base.get? b=some o->s.heap.get? b=some o/\H b=none
 bsz:base.objs.size<=s.heap.objs.size
 funs:s.heap.FunFrames base outer
 frf:∀b∈Bn outer,H b=none
 hok:HOk P w H s.heap
 bare:AllBare s.gens
def CE (outer:List Env)(P:Program)(w:World)(H:Hp)(s:Shared)(Q:VK)(u:Value)(s':Shared):Prop:=
 ∃v H',s'.os=s.os/\AllBare s'.gens/\Un (Bn outer) [] H H' s.heap s'.heap/\HOk P w H' s'.heap/\RelV v u/\Q v H'
def CR (CX:C9)(outer:List Env)(P:Program)(w:World)(H:Hp)(s:Shared)(Q:VK)(E:XK)(r:Result)(s':Shared):Prop:=
 match r with
 | .ok (.ret u)=>CE outer P w H s Q u s'
 | .ok _=>False
 | .error e=>CX outer H s E e s'
structure FnOk (P:Program)(w:World)(K:W.Frag)(mg:Str->Option Value)(base:Heap)(CX:C9)(k:Nat)(f:Addr)(fd:FuncData)(ps:List Str)(sp:Sp):Prop where
 len:∀vs H Q E,sp vs H Q E->vs.length=ps.length
 run:∀(A:Around) (outer:List Env) (s:Shared) (H:Hp) (args:Args) (us:List Value) (vs:List V) (Q:VK) (E:XK),Room k A->Env0 P w K mg base A outer s H->BindsTo s fd args (ps.zip us)->Vals vs us->sp vs H Q E ->
  codeAny (model P w) A (.call (.ref f) args) (CR CX outer P w H s Q E) s
def FnOk.imp {P:Program}{w:World}{K:W.Frag}{mg:Str->Option Value}{base:Heap}{CX:C9}{k:Nat}{f:Addr}{fd:FuncData}{ps:List Str}{sp sp':Sp}(F:FnOk P w K mg base CX k f fd ps sp)
  (h:∀vs H Q E,sp' vs H Q E->sp vs H Q E):FnOk P w K mg base CX k f fd ps sp':=
 ⟨λvs H Q E q=>F.len vs H Q E (h _ _ _ _ q),λA outer s H args us vs Q E hr he hb hv hs=>F.run A outer s H args us vs Q E hr he hb hv (h _ _ _ _ hs)⟩
def Env0.make {P:Program}{w:World}{K:W.Frag}{mg:Str->Option Value}{base:Heap}{A:Around}{outer:List Env}{s:Shared}{H:Hp}(e:Env0 P w K mg base A outer s H)(C:Addr)(us:List Value)(kw:List (Str×Value)) :
  Env0 P w K mg base (A.under (.builtin "type.__call__" ⟨.ref C::us,kw⟩)) outer s H:=⟨by first | exact e.frames | (simpa [Around.under,Code.envs,Code.isFrame,pushEnvs] using e.frames),e.mod,e.bs,e.bsz,e.funs,e.frf,e.hok,e.bare⟩
section
variable {X:Cx}{pins:List (Addr×Obj)}{σ:St}{H:Hp}{s s':Shared}
def Inv.env0 (I:Inv X pins σ H s):Env0 X.prog X.w X.K X.mg X.base X.A X.stack s H:=
 ⟨I.ok.frames,I.ok.mod,I.bs,EB I.ok.bsz I.sz,I.stack,I.stkFree,I.hok,I.bare⟩
def Inv.after (I:Inv X pins σ H s)(h:CE X.stack X.prog X.w H s Q u s'):EP X pins σ Q u s':=by obtain⟨v,H',os,bare,un,hok,r,q⟩:=h;obtain⟨hh,g,d,t,os'⟩:=s';obtain rfl:os'=s.os:=os;exact⟨v,H',I.call (h':=hh) (g':=g) (d':=d) (t':=t) (ch:=[]) un hok bare (λb z=>absurd z (by simp)),r,q⟩
end
def Me (sp:Sp)(dvs:List V)(E:XK)(t:TA):TE:=λσ H Q=>t σ H λvs H1=>sp (vs++dvs) H1 Q E
inductive QP (C:Addr)(m:Str)(x:V)(H1:Hp)(R:Prop):Prop
 | mk (a:_) (dx:_) (fs:_) (c0:x=.ref a) (c1:H1 a=some (.ins C dx fs)) (c2:fs.lookup m=none) (c3:R):QP C m x H1 R
def Pe (C:Addr)(m:Str)(sp:Sp)(dvs:List V)(E:XK)(ta:TE)(t:TA):TE:=λσ H Q=>ta σ H λx H1=>QP C m x H1 (t σ H1 λvs H2=>sp (x::(vs++dvs)) H2 Q E)
def Tj (C:Addr)(sp:Sp)(dvs:List V)(E:XK)(t:TA):TE:=λσ H Q=>t σ H λvs H1=>∀x dx,H1 x=none->H1 dx=none->dx≠x ->
 sp (.ref x::(vs++dvs)) (Ac (Ac H1 dx (.own x)) x (.ins C dx [])) (λv H2=>v=.non/\Q (.ref x) H2) E
def Binds (K:W.Frag)(fd:FuncData)(ps:List Str)(ds:List Value):Prop:=
 ∀(s:Shared) (us:List Value),K.In s.heap->(us++ds).length=ps.length->BindsTo s fd ⟨us,[]⟩ (ps.zip (us++ds))
def Binds.all {K:W.Frag}{fd:FuncData}{ps:List Str}(h:∀us:List Value,us.length=ps.length->bindArgs fd ⟨us,[]⟩=pure (ps.zip us)):Binds K fd ps []:=λs us _ hl=>by rw[CP]at hl ⊢;exact .of_eq (h us hl)
def C1 (CX:C9)(X:Cx)(E:XK):Prop:=∀(pins:List (Addr×Obj)) (σ:St) (H:Hp) (s:Shared) (e:Value) (s':Shared),Inv X pins σ H s->CX X.stack H s E e s'->X.xe e s'
section
variable {X:Cx}{CX:C9}{k:Nat}{f C:Addr}{fd:FuncData}{ps:List Str}{sp:Sp}{dvs:List V}{ds:List Value}{E:XK}{x m:Str}{p pos apos:Pos}{e o:Expr}{es:List Expr}{ta:TE}{t:TA}
def KU (F:FnOk X.prog X.w X.K X.mg X.base CX k f fd ps sp)(hr:Room k X.A)(hb:Binds X.K fd ps ds)(hd:Vals dvs ds)(hx:C1 CX X E)
  (I:Inv X pins σ H s)(r:Vals vs us)(h:sp (vs++dvs) H Q E):wpAny (model X.prog X.w) X.A (call (.ref f) us) (EP X pins σ Q) X.xe s:=by
 have r2:Vals (vs++dvs) (us++ds):=r.append hd
 have hl:(us++ds).length=ps.length:=by rw[<- r2.length];exact F.len _ _ _ _ h
 refine JJ (Gh (F.run X.A X.stack s H ⟨us,[]⟩ (us++ds) (vs++dvs) Q E hr I.env0 (hb s us I.kIn hl) r2 h) λr s' hq=>?_)
 cases r with
 | error e=>exact hx pins σ H s e s' I hq
 | ok fl=>
  cases fl with
  | ret u=>exact I.after hq
  | next=>exact False.elim hq
  | brk=>exact False.elim hq
  | cont=>exact False.elim hq
def AU (F:FnOk X.prog X.w X.K X.mg X.base CX k f fd ps sp)(hr:Room k X.A)(hg:Gl X x)(hm:X.mg x=some (.ref f))(hk:PySem.W.keepIn X.K (.ref f)=true)(hb:Binds X.K fd ps ds)(hd:Vals dvs ds)(hx:C1 CX X E)
  (ha:PA X (e::es) t)(hdb:(x == ("__debug__" : Str))=false:=by decide)(he:starEach (e::es) X.env=(false,eval e X.env)::starEach es X.env:=by rfl)(hpl:(backTo pos (starEach es X.env)).any (·.1)=false:=by rfl) :
  PE X (.Call (.Name x p) (e::es) [] pos) (Me sp dvs E t):=by
 intro pins s σ H Q I h
 refine Hm (Hc I hg hm ?_ hdb)
 refine Ov (h₀:=X.base) I.ok.mod.kin hk (Ao (ha pos pins s σ H _ I h) λus s1 hp0=>?_) he hpl
 obtain⟨vs,H1,I1,r,q⟩:=hp0
 refine⟨I1.kIn,?_⟩
 exact KU F hr hb hd hx I1 r q
def Vt (F:FnOk X.prog X.w X.K X.mg X.base CX k f fd ps sp)(hr:Room k X.A)(hg:Gl X x)(hm:X.mg x=some (.ref f))(hk:PySem.W.keepIn X.K (.ref f)=true)(hb:Binds X.K fd ps ds)(hd:Vals dvs ds)(hx:C1 CX X E)
  (hdb:(x == ("__debug__" : Str))=false:=by decide):PE X (.Call (.Name x p) [] [] pos) (Me sp dvs E Mb):=by
 intro pins s σ H Q I h
 refine Hm (Hc I hg hm ?_ hdb)
 exact PySem.W.callWith_K0 I.kIn hk (KU (us:=[]) F hr hb hd hx I .nil h)
def GJ {pl:Sem Bool}(he:PE X o ta)(c:Cls X.K C)(hm:B7 X.K C m f)(F:FnOk X.prog X.w X.K X.mg X.base CX k f fd ps sp)(hr:Room k X.A)(hb:Binds X.K fd ps ds)(hd:Vals dvs ds)(hx:C1 CX X E)(ha:PA X (e::es) t)
  (hst:starEach (e::es) X.env=(false,eval e X.env)::starEach es X.env:=by rfl)(hpl:(backTo pos (starEach es X.env)).any (·.1)=false:=by rfl)
  (ht:eval (.Call (.Attribute o m apos) (e::es) [] pos) X.env=(do
   let ov <- eval o X.env;standAt apos.atName;let (f,first) <- holding [ov] (getMethod ov m pl);callWith pos f first (backTo pos (starEach (e::es) X.env)) (backToKw pos (keywordEach [] X.env))):=by rfl) :
  PE X (.Call (.Attribute o m apos) (e::es) [] pos) (Pe C m sp dvs E ta t):=by
 intro pins s σ H Q I h
 refine PySem.W.methodCall_KW (pl:=pl) (Ao (he pins s σ H _ I h) λu s1 hp0=>?_) ht
 obtain⟨x,H1,I1,rx,a,dx,fs,ex,ea,l,q⟩:=hp0
 subst ex
 obtain rfl:u=Value.ref a:=rx
 refine QX I1 ea c hm l ?_
 refine Ov (first:=[.ref a]) (h₀:=X.base) I.ok.mod.kin hm.kp (Ao (ha pos pins s1 σ H1 _ I1 q) λus s2 hp0=>?_) hst hpl
 obtain⟨vs,H2,I2,r,q2⟩:=hp0
 refine⟨I2.kIn,?_⟩
 exact KU (us:=.ref a::us) (vs:=.ref a::vs) F hr hb hd hx I2 (.cons rfl r) q2
def DJ {pl:Sem Bool}(he:PE X o ta)(c:Cls X.K C)(hm:B7 X.K C m f)(F:FnOk X.prog X.w X.K X.mg X.base CX k f fd ps sp)(hr:Room k X.A)(hb:Binds X.K fd ps ds)(hd:Vals dvs ds)(hx:C1 CX X E)
  (ht:eval (.Call (.Attribute o m apos) [] [] pos) X.env=(do
   let ov <- eval o X.env;standAt apos.atName;let (f,first) <- holding [ov] (getMethod ov m pl);callWith pos f first (backTo pos (starEach [] X.env)) (backToKw pos (keywordEach [] X.env))):=by rfl) :
  PE X (.Call (.Attribute o m apos) [] [] pos) (Pe C m sp dvs E ta Mb):=by
 intro pins s σ H Q I h
 refine PySem.W.methodCall_KW (pl:=pl) (Ao (he pins s σ H _ I h) λu s1 hp0=>?_) ht
 obtain⟨x,H1,I1,rx,a,dx,fs,ex,ea,l,q⟩:=hp0
 subst ex
 obtain rfl:u=Value.ref a:=rx
 refine QX I1 ea c hm l ?_
 exact PySem.W.callWith_K0 (first:=[.ref a]) I1.kIn hm.kp (KU (us:=[.ref a]) (vs:=[.ref a]) F hr hb hd hx I1 (.cons rfl .nil) q)
structure Mk (K:W.Frag)(C f:Addr):Prop where
 makes:PySem.W.makesIn K C=true
 init:PySem.W.findIn K (.ref C) "__init__" = some (some (.ref f))
 fn:PySem.W.isFn K (.ref f)=true
 kp:PySem.W.keepIn K (.ref C)=true
def UJ (M:Mk X.K C f)(F:FnOk X.prog X.w X.K X.mg X.base CX k f fd ps sp)(hr:Room (k+1) X.A)(hb:Binds X.K fd ps ds)(hd:Vals dvs ds)
  (hx:C1 CX X E)(I:Inv X pins σ H s)(r:Vals vs us)
  (h:∀x dx,H x=none->H dx=none->dx≠x->sp (.ref x::(vs++dvs)) (Ac (Ac H dx (.own x)) x (.ins C dx [])) (λv H2=>v=.non/\Q (.ref x) H2) E) :
  wpAny (model X.prog X.w) X.A (call (.ref C) us) (EP X pins σ Q) X.xe s:=by
 have hq:=h (s.heap.objs.size+1) s.heap.objs.size (I.hok.fresh (Ft _)) (I.hok.fresh (AA _)) (Bo (JM _))
 have I2:=Inv.made (C:=C) I
 have r2:Vals (V.ref (s.heap.objs.size+1)::(vs++dvs)) (Value.ref (s.heap.objs.size+1)::(us++ds)):=.cons rfl (r.append hd)
 have hl:(Value.ref (s.heap.objs.size+1)::us++ds).length=ps.length:=by have e:=r2.length;rw[F.len _ _ _ _ hq]at e;exact e.symm
 refine JJ (Yi (f:=f) I.kIn M.makes M.init (Fv.mp M.fn) (Gh (F.run _ X.stack _ _ ⟨Value.ref (s.heap.objs.size+1)::us,[]⟩ (Value.ref (s.heap.objs.size+1)::(us++ds)) _ _ E (hr.make C us []) (I2.env0.make C us []) (hb _ (Value.ref (s.heap.objs.size+1)::us) I2.kIn hl) r2 hq) λr s' hq'=>?_))
 cases r with
 | error e=>exact hx pins σ _ _ e s' I2 hq'
 | ok fl=>
  cases fl with
  | ret u=>obtain⟨v,H',I3,rv,ev,q3⟩:=I2.after hq';subst ev;exact⟨rv,⟨V.ref (s.heap.objs.size+1),H',I3,rfl,q3⟩⟩
  | next=>exact False.elim hq'
  | brk=>exact False.elim hq'
  | cont=>exact False.elim hq'
def Iw (M:Mk X.K C f)(F:FnOk X.prog X.w X.K X.mg X.base CX k f fd ps sp)(hr:Room (k+1) X.A)(hg:Gl X x)(hm:X.mg x=some (.ref C))(hb:Binds X.K fd ps ds)(hd:Vals dvs ds)(hx:C1 CX X E)
  (ha:PA X (e::es) t)(hdb:(x == ("__debug__" : Str))=false:=by decide)(he:starEach (e::es) X.env=(false,eval e X.env)::starEach es X.env:=by rfl)(hpl:(backTo pos (starEach es X.env)).any (·.1)=false:=by rfl) :
  PE X (.Call (.Name x p) (e::es) [] pos) (Tj C sp dvs E t):=by
 intro pins s σ H Q I h
 refine Hm (Hc I hg hm ?_ hdb)
 refine Ov (h₀:=X.base) I.ok.mod.kin M.kp (Ao (ha pos pins s σ H _ I h) λus s1 hp0=>?_) he hpl
 obtain⟨vs,H1,I1,r,q⟩:=hp0
 refine⟨I1.kIn,?_⟩
 exact UJ M F hr hb hd hx I1 r q
end
structure AF (N P:List Str)(sc:Scope):Prop where
 kind:sc.kind=.function
 co:sc.isCoroutine=false
 gen:sc.isGenerator=false
 nd:N.Nodup
 pre:N.take P.length=P
 par:∀x∈P,sc.names.lookup x=some .local\/sc.names.lookup x=some .cell
 nofree:∀y∈sc.names,y.2≠.free
theorem RO {kindOf:Str->Option NameKind}{x:Str}:∀{binds:List (Str×Value)}{m:Str->Option Value},(∀v,(x,v)∉binds)->bindL kindOf binds m x=m x
 | [],_,_=>rfl
 | (n,v)::r,m,h=>by
  unfold bindL;rw[RO λw hw=>h w (AR _ hw)];split
  ·have:x≠n:=by rintro rfl;exact h v AZ
   simp[this]
  rfl
theorem RQ {kindOf:Str->Option NameKind}{x:Str}:∀{binds:List (Str×Value)}{m:Str->Option Value},(∀v,(x,v)∉binds)->bindC kindOf binds m x=m x
 | [],_,_=>rfl
 | (n,v)::r,m,h=>by
  unfold bindC;rw[RQ λw hw=>h w (AR _ hw)];split
  ·rfl
  have:x≠n:=by rintro rfl;exact h v AZ
  simp[this]
theorem RP {kindOf:Str->Option NameKind}{x:Str}{v:Value}:∀{P:List Str}{vs:List Value}{i:Nat}{m:Str->Option Value},P.Nodup->P[i]? = some x->vs[i]? = some v->kindOf x=some .local ->
  bindL kindOf (P.zip vs) m x=some v
 | [],_,_,_,_,h,_,_=>by simp at h
 | _::_,[],_,_,_,_,h,_=>by simp at h
 | p::P,w::vs,0,m,nd,h1,h2,hk=>by simp at h1 h2;subst h1;subst h2;show bindL kindOf ((p,w)::P.zip vs) m p=_;unfold bindL;rw[RO λv hv=>(BU.mp nd).1 (of_mem_zip hv).1,As hk];simp
 | p::P,w::vs,i+1,m,nd,h1,h2,hk=>by show bindL kindOf ((p,w)::P.zip vs) m x=_;unfold bindL;exact RP (i:=i) (BU.mp nd).2 (by simpa using h1) (by simpa using h2) hk
theorem RS {kindOf:Str->Option NameKind}{x:Str}{v:Value}:∀{P:List Str}{vs:List Value}{i:Nat}{m:Str->Option Value},P.Nodup->P[i]? = some x->vs[i]? = some v->kindOf x≠some .local ->
  bindC kindOf (P.zip vs) m x=some v
 | [],_,_,_,_,h,_,_=>by simp at h
 | _::_,[],_,_,_,_,h,_=>by simp at h
 | p::P,w::vs,0,m,nd,h1,h2,hk=>by simp at h1 h2;subst h1;subst h2;show bindC kindOf ((p,w)::P.zip vs) m p=_;unfold bindC;rw[RQ λv hv=>(BU.mp nd).1 (of_mem_zip hv).1,Ai hk];simp
 | p::P,w::vs,i+1,m,nd,h1,h2,hk=>by show bindC kindOf ((p,w)::P.zip vs) m x=_;unfold bindC;exact RS (i:=i) (BU.mp nd).2 (by simpa using h1) (by simpa using h2) hk
def start (N:List Str)(vs:List V):St:=vs.map some++replicate (N.length-vs.length) none
def Cn (CX:C9)(P:Program)(w:World)(K:W.Frag)(mg:Str->Option Value)(base:Heap)(N:List Str)(qual:Str)(scope:Scope)(f:Addr)(cd:Value)(A:Around)(outer:List Env)(s:Shared)(H:Hp)(E:XK):Cx where
 prog:=P
 w:=w
 K:=K
 mg:=mg
 base:=base
 A:=A.deeper (envOfC qual scope s.heap.objs.size f cd)
 N:=N
 s₀:=s
 H₀:=H
 env:=envOfC qual scope s.heap.objs.size f cd
 outer:=outer
 stack:=envOfC qual scope s.heap.objs.size f cd::outer
 ex:=[]
 calm:=true
 fn:=λ_=>true
 pn:=[]
 xe:=λe s'=>wpAny (model P w) (A.deeper (envOfC qual scope s.heap.objs.size f cd)) (leaving (envOfC qual scope s.heap.objs.size f cd) e) (λ_ s''=>CX outer H s E e s'') (λe' s''=>CX outer H s E e' s'') s'
def RG {sc:Scope}{n:Nat}{x:Str}(h:sc.names.lookup x=some .cell):∃c,(cellsFrom n sc.names []).lookup x=some c:=by have q:=PySem.W.cellsFrom_some sc.names n [] (.inl h);exact isSome_iff_exists.mp q
def YO {CX:C9}{P:Program}{w:World}{K:W.Frag}{mg:Str->Option Value}{base:Heap}{N ps:List Str}{qual:Str}{scope:Scope}{f:Addr}{cd:Value}{A:Around}{outer:List Env}{s s1:Shared}{H:Hp}{E:XK}{us:List Value}{vs:List V}
  (S:AF N ps scope)(hd:A.handled=none)(e0:Env0 P w K mg base A outer s H)(hl:vs.length=ps.length)(r:Vals vs us)
  (x:InCallC s s.heap.objs.size (bindL (envOfC qual scope s.heap.objs.size f cd).kindOf (ps.zip us) λ_=>none) (cellsFrom (s.heap.objs.size+1) scope.names []) (bindC (envOfC qual scope s.heap.objs.size f cd).kindOf (ps.zip us) λ_=>none) s1) :
  Inv (Cn CX P w K mg base N qual scope f cd A outer s H E) [] (start N vs) H s1:=by
 have hpl:ps.length<=N.length:=by have:=BB List.length S.pre;rw[Cd]at this;lia
 obtain⟨h1,tk,rfl,hk⟩:=x.done
 have noA:∀b:Addr,b∉(Cn CX P w K mg base N qual scope f cd A outer s H E).ex:=λb z=>absurd (show b∈([]:List Addr) from z) (by simp)
 refine⟨⟨e0.mod,S.kind,rfl,rfl,AA _,λy z c h1 h2=>?_,λy hy=>?_,λy c _ h=>?_,λ_=>hd,Around.frames_deeper e0.frames,.inr ⟨rfl,rfl⟩,λb z=>absurd z (noA b),e0.bs,e0.bsz,λb _ _=>noA b,λb z=>absurd z (noA b),e0.funs,e0.frf⟩,rfl,e0.bare,Un.kept hk,⟨_,x.toInCall.ns,λi y v h1 h2 h3=>?_⟩,λy c h=>⟨_,x.cell y c h⟩,e0.hok.fresh (AA _),λy c h=>?_,λp hp=>absurd (show p∈([]:List (Addr×Obj)) from hp) (by simp),e0.hok.kept hk,?_⟩
 ·exact name_of_addr x.apart (JX h1) (JX h2)
 ·have hy:scope.names.lookup y=some .cell\/scope.names.lookup y=some .free:=hy;rcases hy with hy | hy
  ·exact RG hy
  exact absurd rfl (S.nofree _ (JX hy))
 ·exact le_of_lt (x.above y c (JX h))
 ·have hi:i<vs.length:=by
   unfold start at h2;by_cases hi:i<vs.length
   ·exact hi
   rw[Ga (by simpa using hi)]at h2;rw[LJ]at h2;split at h2 <;> cases h2
  have ha:vs[i]? = some v:=by
   unfold start at h2;rw[EW (by simpa using hi),A6]at h2;cases e:vs[i]? with
   | none=>rw[e]at h2;cases h2
   | some a=>rw[e]at h2;cases h2;rfl
  obtain⟨u,hu,rv⟩:=r.get ha;have hp:ps[i]? = some y:=by rw[<- S.pre,LM (by lia)];exact h1
  have ndP:ps.Nodup:=by rw[<- S.pre];exact S.nd.sublist (JL _ _)
  refine⟨u,rv,?_⟩;rcases S.par y (BE hp)with k | k
  ·exact .inl ⟨k,RP ndP hp hu k⟩
  obtain⟨c,e⟩:=RG (n:=s.heap.objs.size+1) k;refine .inr ⟨.inl k,c,e,?_⟩;have q:=x.cell y c e;rw[RS ndP hp hu (by show scope.names.lookup y≠_;rw[k];decide)]at q;exact q
 ·exact e0.hok.fresh (le_of_lt (x.above y c (JX h)))
 unfold start
 show _=N.length
 rw[AX,Ar,Ex]
 lia
def Q0 {CX:C9}{P:Program}{w:World}{K:W.Frag}{mg:Str->Option Value}{base:Heap}{k:Nat}{f:Addr}{name qual:Str}{params:Arguments}{body:List Stmt}{scope:Scope}{dV kV doc pm cdv ct oc:Value}{an od:Option Addr}
  {osl:Array (Option Value)}{N ps:List Str}{sp:Sp}(lk:K.lookup f=some ⟨oc,od,.func (PySem.W.fnOf name qual params body scope dV kV doc pm an cdv ct),osl⟩)(hcd:PySem.W.codeIn K cdv qual=true)(S:AF N ps scope)
  (len:∀vs H Q E,sp vs H Q E->vs.length=ps.length)
  (hbody:∀(A:Around) (outer:List Env) (s:Shared) (H:Hp) (vs:List V) (Q:VK) (E:XK),Room k (A.deeper (envOfC qual scope s.heap.objs.size f cdv))->sp vs H Q E -> ∃t,PSs (Cn CX P w K mg base N qual scope f cdv A outer s H E) body t/\t { nx:=λ_ H'=>Q .non H',rt:=Q } (start N vs) H) :
  FnOk P w K mg base CX (k+1) f (PySem.W.fnOf name qual params body scope dV kV doc pm an cdv ct) ps sp:=by
 refine⟨len,λA outer s H args us vs Q E hr e0 hb r hsp=>?_⟩
 have hl:=len _ _ _ _ hsp
 have KX:K.In s.heap:=e0.mod.kin.keeps λb o e=>(e0.bs b o e).1
 have lim:s.heap.NoLimit:=e0.mod.nolimit.keeps λb o e=>(e0.bs b o e).1
 have hkind:∀y∈ps.zip us,scope.names.lookup y.1=some .local\/(scope.names.lookup y.1=some .cell/\((cellsFrom (s.heap.objs.size+1) scope.names []).lookup y.1).isSome=true):=λ⟨n,v⟩ hy=>by
  rcases S.par n (of_mem_zip hy).1 with q | q
  ·exact .inl q
  exact .inr ⟨q,PySem.W.cellsFrom_some _ _ _ (.inl q)⟩
 refine codeAny_call_function hr.depth (KX _ _ lk) rfl S.co S.gen rfl (PySem.W.codeRec_of KX hcd) (hb _ _ _ _ ?_)
 refine wpAny_newFunctionEnv_cells S.kind hkind λenv he s1 x=>?_
 subst he
 refine⟨lim.keeps x.toInCall.keep,codeAny_func ?_⟩
 obtain⟨t,ht,hq⟩:=hbody A outer s H vs Q E (hr.deeper _) hsp
 have I:Inv (Cn CX P w K mg base N qual scope f cdv A outer s H E) [] (start N vs) H s1:=YO S hr.hd e0 hl r x
 refine BL (ht [] s1 (start N vs) H _ I hq) (λfl s' hs=>?_) λe s' hs=>hs
 have fin:∀{σ':St}{H':Hp}{v:V}{u:Value},Inv (Cn CX P w K mg base N qual scope f cdv A outer s H E) [] σ' H' s'->RelV v u->Q v H'->CE outer P w H s Q u s':=
  λ{σ' H' v u} J rv q=>⟨v,H',J.os,J.bare,J.base,J.hok,rv,q⟩
 cases fl with
 | ret u=>obtain⟨v,σ',H',J,rv,q⟩:=hs;exact fin J rv q
 | next=>obtain⟨σ',H',J,q⟩:=hs;exact fin (v:=V.non) (u:=Value.none) J rfl q
 | brk=>obtain⟨_,_,_,q⟩:=hs;exact False.elim q
 | cont=>obtain⟨_,_,_,q⟩:=hs;exact False.elim q
section
variable {X:Cx}{x:Str}{p pos:Pos}{e:Expr}{es:List Expr}{t:TA}{id T:String}{r:List V->Hp->VK->Prop}
def Pg (r:List V->Hp->VK->Prop)(t:TA):TE:=λσ H Q=>t σ H λvs H1=>r vs H1 Q
def AE (hc:Cw X (.builtin id) r)(hg:Gl X x)(hm:X.mg x=none)(hv:bootBuiltins x=some (.builtin id))(ha:PA X (e::es) t)(hn:x ≠ "__name__" := by decide)(hdb:(x == ("__debug__" : Str))=false:=by decide)
  (he:starEach (e::es) X.env=(false,eval e X.env)::starEach es X.env:=by rfl)(hpl:(backTo pos (starEach es X.env)).any (·.1)=false:=by rfl):PE X (.Call (.Name x p) (e::es) [] pos) (Pg r t):=by
 intro pins s σ H Q I h
 refine Hm (Hd I hg hm hv ?_ hn hdb)
 exact PyProof.Rows.callWith_builtin1 (Ao (ha pos pins s σ H _ I h) λus s1 hp0=>by obtain⟨vs,H1,I1,r1,q1⟩:=hp0;exact hc pins s1 σ H1 vs us Q I1 r1 q1) he hpl
def Dq (hc:Cw X (.type T) r)(hg:Gl X x)(hm:X.mg x=none)(hv:bootBuiltins x=some (.type T))(ha:PA X (e::es) t)(hn:x ≠ "__name__" := by decide)(hdb:(x == ("__debug__" : Str))=false:=by decide)
  (he:starEach (e::es) X.env=(false,eval e X.env)::starEach es X.env:=by rfl)(hpl:(backTo pos (starEach es X.env)).any (·.1)=false:=by rfl):PE X (.Call (.Name x p) (e::es) [] pos) (Pg r t):=by
 intro pins s σ H Q I h
 refine Hm (Hd I hg hm hv ?_ hn hdb)
 exact Lm (Ao (ha pos pins s σ H _ I h) λus s1 hp0=>by obtain⟨vs,H1,I1,r1,q1⟩:=hp0;exact hc pins s1 σ H1 vs us Q I1 r1 q1) he hpl
end
end L2
namespace HT
open PySem PyProof.Rows
section
open PySem.SeqAt
open PySem.AutoSeq1 (wpAny_loadPart')
open PySem.MeetsSeq PySem.MeetsSeq2 PySem.MeetsSeq3
end
section
variable {prog:Program}{w:World}{A:Around}{E:Value->Shared->Prop}{s:Shared}
def cat_tup {t:Addr} (ht:IsTup s.heap t vs.toArray)(hb:IsTup s.heap b ws.toArray)(hv:vs≠[])
  (h1:ws=[]->Q (.ref t) s)(h2:ws≠[]->Q (.ref s.heap.objs.size) { s with heap:=s.heap.push { cls:=.type "tuple",data:=.seq (vs++ws).toArray } })
  (hsz:vs.length+ws.length<=sizeLine):wpAny (model prog w) A (binaryOp .Add (.ref t) (.ref b)) Q E s:=by
 obtain⟨⟨cls,dd,data,sl⟩,ho,hc,n,hd⟩:=id ht
 obtain⟨⟨cls2,dd2,data2,sl2⟩,ho2,hc2,n2,hd2⟩:=id hb
 simp only at hc hd hc2 hd2
 subst hc hd hc2 hd2
 have e:vs.toArray++ws.toArray=(vs++ws).toArray:=by simp
 by_cases hw:ws=[]
 ·exact concat_meets ⟨_,ho,rfl⟩ ⟨_,ho2,rfl⟩ noFill_tuple_add seq_tuple_add OI OK (ON _ _)
   (tuple_addW1 t b vs.toArray ws.toArray n n2 dd dd2 sl sl2 (by simpa using hv) (by simp[hw])) ⟨ho,ho2,h1 hw⟩
 refine concat_meets ⟨_,ho,rfl⟩ ⟨_,ho2,rfl⟩ noFill_tuple_add seq_tuple_add OI OK (ON _ _)
  (tuple_addW2 t b vs.toArray ws.toArray n n2 dd dd2 sl sl2 (by simpa using hv) (by simpa using hw) (by rw[BH,BH];exact hsz)) ⟨ho,ho2,?_⟩
 rw[e]
 exact h2 hw
def sIx (n d:Nat):Option Int->Nat
 | none=>d
 | some v=>if v<0 then(v+(n:Int)).toNat else min v.toNat n
def sIx_none (n d:Nat):sIx n d none=d:=rfl
def sIx_nat (n d k:Nat):sIx n d (some (k:Int))=min k n:=by show(if (k:Int)<0 then((k:Int)+(n:Int)).toNat else min (k:Int).toNat n)=min k n;rw[Ai (by lia),ES]
def UF (n d:Nat)(hd:d<=n)(o:Option Int):sIx n d o<=n:=by
 cases o with
 | none=>exact hd
 | some v=>
  show(if v<0 then(v+(n:Int)).toNat else min v.toNat n)<=n;by_cases hv:v<0
  ·rw[As hv];lia
  rw[Ai hv];exact Nat.min_le_right _ _
def RE (v:Int)(n d:Nat):(if v<0 then max (v+(n:Int)) 0 else min v (n:Int))=((sIx n d (some v):Nat):Int):=by
 show(if v<0 then max (v+(n:Int)) 0 else min v (n:Int))=(((if v<0 then(v+(n:Int)).toNat else min v.toNat n):Nat):Int);by_cases hv:v<0
 ·simp only[As hv];lia
 simp only[Ai hv];lia
def Z9 (lo hi:Option Int)(n:Nat):Builtin.Slice.sliceAdjust lo hi 1 (n:Int)=(((sIx n 0 lo:Nat):Int),((sIx n n hi:Nat):Int)):=by
 have h1:¬((1:Int)<0):=by lia
 unfold Builtin.Slice.sliceAdjust;simp only[h1,DB];refine Prod.ext ?_ ?_
 ·cases lo with
  | none=>rfl
  | some v=>exact RE v n 0
 cases hi with
 | none=>rfl
 | some v=>exact RE v n n
def Vh (i j:Nat):Builtin.Slice.slicePlaces (i:Int) (j:Int) 1=j-i:=by
 unfold Builtin.Slice.slicePlaces;have h1:(1:Int) > 0:=by lia
 simp only[h1,EA,Int.ediv_one];split <;> lia
def Pr (p:IsPart v o)(h:Q o s):wpAny (model prog w) A (Builtin.Slice.slicePartIndex v) Q E s:=by
 cases p with
 | none=>exact slicePart_none h
 | int i t=>exact slicePart_int h
def T7 {sl:Addr}{vl vu:Value}{lo hi:Option Int}{n:Nat}{Q:Int×Int×Nat->Shared->Prop}(hs:s.heap.IsSliceOf sl vl vu .none)(pl:IsPart vl lo)(pu:IsPart vu hi)
  (h:Q (((sIx n 0 lo:Nat):Int),1,sIx n n hi-sIx n 0 lo) s):wpAny (model prog w) A (Builtin.Slice.sliceApplied (.ref sl) (pure (n:Int))) Q E s:=by
 obtain⟨os,hos,hcs,hds⟩:=id hs
 unfold Builtin.Slice.sliceApplied Builtin.Slice.sliceFields
 refine Ae (Ae (Dz hos hds (x:=vl) rfl (Ae (Dz hos hds (x:=vu) rfl (Ae (Dz hos hds (x:=.none) rfl (An ?_)))))))
 refine Ae (slicePart_none ?_)
 show wpAny _ _ (if ((1:Int) == 0)=true then _ else _) _ _ s
 rw[Ai (by decide)]
 refine Ae (Pr pl (Ae (Pr pu (Ae (An ?_)))))
 show wpAny _ _ (match Builtin.Slice.sliceAdjust lo hi 1 (n:Int)with | (lo,hi)=>pure (lo,(1:Int),Builtin.Slice.slicePlaces lo hi 1)) _ _ s
 rw[Z9 lo hi n]
 show wpAny _ _ (pure (((sIx n 0 lo:Nat):Int),(1:Int),Builtin.Slice.slicePlaces ((sIx n 0 lo:Nat):Int) ((sIx n n hi:Nat):Int) 1)) _ _ s
 rw[Vh]
 exact An h
def Vk (xs:Array Value)(i k:Nat):((List.range k).filterMap λ(m:Nat)=>xs[((i:Int)+(m:Int)*1).toNat]?).toArray=((xs.toList.drop i).take k).toArray:=by
 have e:(λ(m:Nat)=>xs[((i:Int)+(m:Int)*1).toNat]?)=λm=>xs[i+m]?:=by
  funext m;have:((i:Int)+(m:Int)*1).toNat=i+m:=by lia
  rw[this]
 rw[e];have:=pick_run xs i k;rw[List.filterMap_map]at this;have e2:((λx=>xs[x]?) ∘ λx=>i+x)=λm=>xs[i+m]?:=rfl;rw[e2]at this;rw[this]
def getItem_tuple_cut {t:Addr} {lo:Option Int} (ht:IsTup s.heap t items)(hs:s.heap.IsSliceOf sl vl vu .none)(pl:IsPart vl lo)(pu:IsPart vu hi)
  (hw:¬(sIx items.size 0 lo=0/\sIx items.size items.size hi=items.size))
  (h:Q (.ref s.heap.objs.size) { s with heap:=s.heap.push { cls:=.type "tuple",data:=.seq ((items.toList.drop (sIx items.size 0 lo)).take (sIx items.size items.size hi-sIx items.size 0 lo)).toArray } })
  (hsz:items.size<=sizeLine):wpAny (model prog w) A (getItem (.ref t) (.ref sl)) Q E s:=by
 have htake:sizeOk (.seq ((items.toList.drop (sIx items.size 0 lo)).take (sIx items.size items.size hi-sIx items.size 0 lo)).toArray):=by show((items.toList.drop (sIx items.size 0 lo)).take (sIx items.size items.size hi-sIx items.size 0 lo)).toArray.size<=sizeLine;rw[BH,Cd,DY,JY];lia
 have hj:sIx items.size items.size hi<=items.size:=UF _ _ (AA _) hi
 obtain⟨os,hos,hcs,hds⟩:=id hs
 have hTs:s.TypeIs (.ref sl) "slice" := ⟨os,hos,hcs⟩
 unfold getItem
 try with_reducible refine CZ ?_
 first | refine Ae (An ?_) | skip
 refine Ae (wpAny_sequenceKey ht.typeIs (by decide) ?_)
 refine Ae (Ho (name:=Str.ofString "__getitem__") ht.typeIs Ln (Ey Ln ht.typeIs entry_tuple_getitem ?_ (args_tuple_getitem _ _)))
 show wpAny _ _ (Builtin.Tuple.tupleItemsOf (.ref t) >>= _) _ _ s
 refine Ae (tupleItemsOf_ ht ?_)
 refine Ae (wpAny_typeOf hTs ?_)
 rw[As (by decide)]
 refine Ae (T7 hs pl pu ?_)
 have hno:¬((((sIx items.size 0 lo:Nat):Int) == 0 && (1:Int) == 1 && (sIx items.size items.size hi-sIx items.size 0 lo) == items.size)=true):=by intro q;rw[Ce,Ce]at q;have q1:((sIx items.size 0 lo:Nat):Int)=0:=Ht q.1.1;have q2:sIx items.size items.size hi-sIx items.size 0 lo=items.size:=Ht q.2;exact hw ⟨by lia,by lia⟩
 show wpAny _ _ (if (((sIx items.size 0 lo:Nat):Int) == 0 && (1:Int) == 1 && (sIx items.size items.size hi-sIx items.size 0 lo) == items.size)=true then _ else _) _ _ s
 rw[Ai hno,Vk]
 first
  | exact Ae (m:=Builtin.Tuple.tupleExact _) (C5 (An ⟨_,rfl,An h⟩) htake)
  | exact Ae (m:=Builtin.Tuple.tupleExact _) (C5 (Ae (An (An ⟨_,rfl,An h⟩))) htake)
  | exact Ae (Ae (m:=Builtin.Tuple.tupleExact _) (C5 (An (An ⟨_,rfl,An h⟩)) htake))
  | exact Ae (Ae (m:=Builtin.Tuple.tupleExact _) (C5 (An ⟨_,rfl,An h⟩) htake))
end
end HT
namespace L2
open PySem PySem.Spec PyProof.Rows
abbrev TO:=St->Hp->(Option Int->Hp->Prop)->Prop
def PO (X:Cx)(e:Option Expr)(t:TO):Prop:=
 ∀(pins:List (Addr×Obj)) (s:Shared) (σ:St) (H:Hp) (Q:Option Int->Hp->Prop),Inv X pins σ H s->t σ H Q ->
  wpAny (model X.prog X.w) X.A (evalPart e X.env) (λu s'=>∃o H',Inv X pins σ H' s'/\IsPart u o/\Q o H') X.xe s
def Tg:TO:=λ_ H Q=>Q none H
def Tb (t:TE):TO:=λσ H Q=>t σ H λx H1=>∃i,x=.int i/\Q (some i) H1
section
variable {X:Cx}{e:Expr}{te:TE}{lo hi:Option Expr}{tl th:TO}{pos p2:Pos}
def DG:PO X none Tg:=by intro pins s σ H Q I h;rw[evalPart_none];exact An ⟨none,H,I,.none,h⟩
def DF (h:PE X e te):PO X (some e) (Tb te):=by intro pins s σ H Q I hw;rw[evalPart_some];refine Ao (h pins s σ H _ I hw) λu s1 hp0=>?_;obtain⟨x,H1,I1,r1,q1⟩:=hp0;obtain⟨i,rfl,q⟩:=q1;obtain⟨t,rfl⟩:=r1;exact⟨some i,H1,I1,.int i t,q⟩
def OT (X:Cx)(r:V->Option Int->Option Int->Hp->VK->Prop):Prop:=
 ∀(pins:List (Addr×Obj)) (s:Shared) (σ:St) (H:Hp) (x:V) (v vl vu:Value) (lo hi:Option Int) (sl:Addr) (Q:VK),Inv X pins σ H s->RelV x v->s.heap.IsSliceOf sl vl vu .none->IsPart vl lo->IsPart vu hi->r x lo hi H Q ->
  ∃T id,typeLookup (.type T) "__getitem__" = pure (some (.builtin id))/\s.TypeIs v T/\wpAny (model X.prog X.w) X.A (getItem v (.ref sl)) (EP X pins σ Q) X.xe s
def S8 (r:V->Option Int->Option Int->Hp->VK->Prop)(te:TE)(tl th:TO):TE:=λσ H Q=>te σ H λx H1=>tl σ H1 λl H2=>th σ H2 λu H3=>r x l u H3 Q
def DH (hr:OT X r)(he:PE X e te)(hl:PO X lo tl)(hu:PO X hi th):PE X (.Subscript e (.Slice lo hi none p2) pos) (S8 r te tl th):=by intro pins s σ H Q I h;refine Subscript_ (Ao (he pins s σ H _ I h) λv s1 hp0=>?_);obtain⟨x,H1,I1,r1,q1⟩:=hp0;refine wpAny_Slice (Ao (hl pins s1 σ H1 _ I1 q1) λvl s2 hp0=>?_);obtain⟨l,H2,I2,pl,q2⟩:=hp0;refine Ao (hu pins s2 σ H2 _ I2 q2) λvu s3 hp1=>?_;obtain⟨u,H3,I3,pu,q3⟩:=hp1;rw[evalPart_none];refine An ?_;have I4:Inv X pins σ H3 { s3 with heap:=s3.heap.push { cls:=.type "slice",data:=.fields #[vl,vu,.none] } }:=I3.kept (t':=s3.toks) λb ob q=>Bf _ q;obtain⟨T,id,hT,ht,hg⟩:=hr pins { s3 with heap:=s3.heap.push { cls:=.type "slice",data:=.fields #[vl,vu,.none] } } σ H3 x v vl vu l u s3.heap.objs.size Q I4 r1 (Heap.IsSliceOf.new ..) pl pu q3;show wpAny (model X.prog X.w) X.A (subscriptTail e (.Slice lo hi none p2) v (.ref s3.heap.objs.size)) (EP X pins σ Q) X.xe { s3 with heap:=s3.heap.push { cls:=.type "slice",data:=.fields #[vl,vu,.none] } };exact tail_any (ops:=[.ref s3.heap.objs.size,v]) ht hT hg (by with_unfolding_all rfl)
def A5 (xs:List V)(lo hi:Option Int):List V:=(xs.drop (HT.sIx xs.length 0 lo)).take (HT.sIx xs.length xs.length hi-HT.sIx xs.length 0 lo)
def Rt (xs:List V)(lo hi:Option Int):(A5 xs lo hi).length<=xs.length:=by unfold A5;rw[Cd,DY];lia
def U0 (K:W.Frag):V->Option Int->Option Int->Hp->VK->Prop:=λx lo hi H Q=>∃a xs,x=.ref a/\SqT K H a xs /\
 ¬(HT.sIx xs.length 0 lo=0/\HT.sIx xs.length xs.length hi=xs.length)/\∀p,H p=none->Q (.ref p) (Ac H p (.tup (A5 xs lo hi)))
def Kh:OT X (U0 X.K):=by
 intro pins s σ H x v vl vu lo hi sl Q I rx hs pl pu h;obtain⟨a,xs,rfl,hx,hw,q⟩:=h;cases rx;obtain⟨its,r,ht,hz⟩:=I.tuple hx;have hlen:its.toArray.size=xs.length:=by rw[BH];exact r.length.symm
 refine⟨"tuple",_,Ln.lookup,ht.typeIs,?_⟩;refine HT.getItem_tuple_cut ht hs pl pu (by rw[hlen];exact hw) ?_ (by rw[hlen];exact hz);rw[hlen];refine⟨.ref s.heap.objs.size,_,I.laid (t':=s.toks) (o:=.tup (A5 xs lo hi)) (λb ob q=>Bf _ q) (AA _) ?_,rfl,q _ (I.hok.fresh (AA _))⟩;exact⟨EB (Rt xs lo hi) hz,_,(r.drop (HT.sIx xs.length 0 lo)).take (HT.sIx xs.length xs.length hi-HT.sIx xs.length 0 lo),IsTup.new _ _⟩
def U8 (K:W.Frag):R2:=λx y H Q=>∃a b xs ys,x=.ref a/\y=.ref b/\SqT K H a xs/\SqT K H b ys/\xs≠[]/\xs.length+ys.length<=sizeLine /\
 (ys=[]->Q (.ref a) H)/\(ys≠[]->∀p,H p=none->Q (.ref p) (Ac H p (.tup (xs++ys))))
def Vals.nil_iff (r:Vals xs us):us=[]↔xs=[]:=by
 cases r with
 | nil=>simp
 | cons _ _=>simp
def VD:By X (binaryOp .Add) (U8 X.K):=by intro pins s σ H x y v u Q I rx ry h;obtain⟨a,b,xs,ys,rfl,rfl,ha,hb,hx,hz,q1,q2⟩:=h;cases rx;cases ry;obtain⟨its,r1,p1,_⟩:=I.tuple ha;obtain⟨its2,r2,p2,_⟩:=I.tuple hb;refine HT.cat_tup p1 p2 (λz=>hx (r1.nil_iff.mp z)) (λz=>⟨.ref a,H,I,rfl,q1 (r2.nil_iff.mp z)⟩) (λz=>?_) (by rw[<- r1.length,<- r2.length];exact hz);refine⟨.ref s.heap.objs.size,_,I.laid (t':=s.toks) (o:=.tup (xs++ys)) (λb ob q=>Bf _ q) (AA _) ?_,rfl,q2 (λw=>z (r2.nil_iff.mpr w)) _ (I.hok.fresh (AA _))⟩;exact⟨by rw[AX];exact hz,_,r1.append r2,IsTup.new _ _⟩
end
def Ep (n:Nat)(i:Int):Option Nat:=if 0<=i then(if i<n then some i.toNat else none)else if -(n:Int)<=i then some (i+n).toNat else none
def AB {α:Type}(xs:List α)(i:Int):Option α:=(Ep xs.length i).bind λj=>xs[j]?
def YJ {n:Nat} (h:Ep n i=some j):seqIndex? i n=some j/\j<n/\-(n:Int)<=i/\i<n:=by
 unfold Ep at h;by_cases h0:0<=i
 ·rw[As h0]at h;by_cases h1:i<n
  ·rw[As h1]at h;have e:i.toNat=j:=Bx h;exact⟨by rw[seqIndex_of h0 h1,e],by lia,by lia,h1⟩
  rw[Ai h1]at h;cases h
 rw[Ai h0]at h;by_cases h1:-(n:Int)<=i
 ·rw[As h1]at h;have e:(i+n).toNat=j:=Bx h;exact⟨by rw[seqIndex_neg (by lia) h1,e],by lia,h1,by lia⟩
 rw[Ai h1]at h;cases h
def Oc {α:Type}{xs:List α}{i:Int}{v:α}(h:AB xs i=some v):∃j,seqIndex? i xs.length=some j/\xs[j]? = some v/\j<xs.length/\-(xs.length:Int)<=i/\i<xs.length:=by
 unfold AB at h;cases e:Ep xs.length i with
 | none=>rw[e]at h;cases h
 | some j=>rw[e]at h;obtain⟨h1,h2,h3,h4⟩:=YJ e;exact⟨j,h1,h,h2,h3,h4⟩
def AO {α:Type}{xs:List α}{j:Nat}{v:α}(h:xs[j]? = some v):AB xs (j:Int)=some v:=by
 have hj:j<xs.length:=(AK.mp h).1;have e:Ep xs.length (j:Int)=some j:=by unfold Ep;rw[As (by lia),As (by lia)];simp
 unfold AB;rw[e];exact h
def RW {α:Type}(xs:List α)(v:α):AB (xs++[v]) (-1)=some v:=by
 have hl:(xs++[v]).length=xs.length+1:=by simp
 have e:Ep (xs++[v]).length (-1)=some xs.length:=by unfold Ep;rw[hl,Ai (by decide),As (by lia)];congr 1;lia
 unfold AB;rw[e];show(xs++[v])[xs.length]? = some v;simp
def aD (b:Expr):Prop:=∀o i,subscripted b false o i=operate [o,i] (getItem o i)
def HK (X:Cx)(r:R2):Prop:=
 ∀(value slice:Expr) (pins:List (Addr×Obj)) (s:Shared) (σ:St) (H:Hp) (x y:V) (v u:Value) (Q:VK),Inv X pins σ H s->RelV x v->RelV y u->r x y H Q ->
  subscripted slice false v u=operate [v,u] (getItem v u)->wpAny (model X.prog X.w) X.A (subscriptTail value slice v u) (EP X pins σ Q) X.xe s
def HI (X:Cx)(id:String)(r:V->List V->Hp->VK->Prop):Prop:=
 ∀(pins:List (Addr×Obj)) (s:Shared) (σ:St) (H:Hp) (x:V) (xs:List V) (v:Value) (us:List Value) (Q:VK),Inv X pins σ H s->RelV x v->Vals xs us->r x xs H Q ->
  wpAny (model X.prog X.w) X.A (call (.builtin id) (v::us)) (EP X pins σ Q) X.xe s
section
variable {X:Cx}{a b:Expr}{ta tb:TE}{pos:Pos}
def Az (hr:HK X r)(ha:PE X a ta)(hb:PE X b tb)(hs:aD b):PE X (.Subscript a b pos) (J7 r ta tb):=by intro pins s σ H Q I h;exact Subscript_ (Oa ha hb I h λv u s2 x y H2 I2 rx ry q=>hr a b pins s2 σ H2 x y v u Q I2 rx ry q (hs _ _))
inductive Nd (K:W.Frag)(x:V)(y:V)(H:Hp)(Q:VK):Prop
 | mk (p:_) (xs:_) (i:_) (v:_) (c0:x=.ref p) (c1:y=.int i) (c2:SqL K H p xs) (c3:AB xs i=some v) (c4:Q v H):Nd K x y H Q
inductive Nc (K:W.Frag)(x:V)(y:V)(H:Hp)(Q:VK):Prop
 | mk (p:_) (xs:_) (i:_) (v:_) (c0:x=.ref p) (c1:y=.int i) (c2:SqT K H p xs) (c3:AB xs i=some v) (c4:Q v H):Nc K x y H Q
def U5:R2:=λx y H Q=>∃z i c,x=.str z/\y=.int i/\z.length<=sizeLine/\AB z.cps.toList i=some c/\Q (.str ⟨#[c]⟩) H
def Bb:HK X (Nd X.K):=by
 intro value slice pins s σ H x y v u Q I rx ry h hs;obtain⟨p,xs,i,z,rfl,rfl,hq,he,q⟩:=h;cases rx;obtain⟨t,rfl⟩:=ry;obtain⟨its,r,pl,hz⟩:=I.list hq;obtain⟨j,h1,h2,h3,h4,h5⟩:=Oc he;obtain⟨w,ew,rw'⟩:=r.get h2;have hl:=r.length;have hn:=Jk;have fin:EP X pins σ Q w s:=⟨z,H,I,rw',q⟩;by_cases h0:0<=i
 ·have hj:i.toNat=j:=by rw[seqIndex_of h0 h5]at h1;exact Bx h1
  exact item_listR pl.isList h0 (by lia) (by rw[hj];simpa using ew) fin hs
 have hj:(i+(its.toArray.size:Int)).toNat=j:=by rw[seqIndex_neg (by lia) h4]at h1;rw[BH,<- hl];exact Bx h1
 exact subscriptTail_builtinR (x:=w) pl.isList.typeIs slot_list_getitem.lookup
  (wpAny_getItem_list_neg (Q:=λr s'=>r=w/\EP X pins σ Q r s') pl.isList (by lia) (by rw[BH] <;> lia) (by lia) (by rw[hj];simpa using ew) ⟨rfl,fin⟩) hs
def Bs:HK X (Nc X.K):=by
 intro value slice pins s σ H x y v u Q I rx ry h hs;obtain⟨p,xs,i,z,rfl,rfl,hq,he,q⟩:=h;cases rx;obtain⟨t,rfl⟩:=ry;obtain⟨its,r,pl,hz⟩:=I.tuple hq;obtain⟨j,h1,h2,h3,h4,h5⟩:=Oc he;obtain⟨w,ew,rw'⟩:=r.get h2;have hl:=r.length;have hn:=Jk;have fin:EP X pins σ Q w s:=⟨z,H,I,rw',q⟩
 exact subscriptTail_builtinR (x:=w) pl.typeIs Ln.lookup
  (getItem_tuple (j:=j) (Q:=λr s'=>r=w/\EP X pins σ Q r s') pl (by lia) (by lia) (by rw[BH,<- hl];exact h1) (by simpa using ew) ⟨rfl,fin⟩) hs
def QO:HK X U5:=by
 intro value slice pins s σ H x y v u Q I rx ry h hs;obtain⟨z,i,c,rfl,rfl,hz,he,q⟩:=h;obtain⟨t,rfl⟩:=rx;obtain⟨t',rfl⟩:=ry;obtain⟨j,h1,h2,h3,h4,h5⟩:=Oc he;have hl:z.cps.toList.length=z.length:=by simp[Str.length]
 rw[hl]at h1 h4 h5;have hn:=Jk;exact tail_any (JI s z t) slot_str_getitem.lookup (getItem_str (c:=c) (by have e1:decide (i < -(2^63:Int))=false:=A8 (by lia);have e2:decide (i≥2^63)=false:=A8 (by lia);rw[e1,e2,Bool.or_false]) (by rw[h1];simpa using h2) ⟨.str ⟨#[c]⟩,H,I.tok _,⟨_,rfl⟩,q⟩) hs
def T5 (lo hi:Option Int)(n:Nat):(sliceBounds lo hi none n).1=((HT.sIx n 0 lo:Nat):Int)/\(sliceBounds lo hi none n).2.1=((HT.sIx n n hi:Nat):Int)/\(sliceBounds lo hi none n).2.2=1:=by
 refine⟨?_,?_,rfl⟩
 ·cases lo with
  | none=>simp[sliceBounds,HT.sIx]
  | some i=>
   simp only[sliceBounds,HT.sIx,Option.getD_none,show(1:Int) > 0 by decide,EA];by_cases h:i<0
   ·simp only[h,EA] <;> lia
   simp only[h,DB] <;> lia
 cases hi with
 | none=>simp[sliceBounds,HT.sIx]
 | some i=>
  simp only[sliceBounds,HT.sIx,Option.getD_none,show(1:Int) > 0 by decide,EA];by_cases h:i<0
  ·simp only[h,EA] <;> lia
  simp only[h,DB] <;> lia
def T6 (its:List Value)(lo hi:Option Int):slicePick its.toArray lo hi none=((its.drop (HT.sIx its.length 0 lo)).take (HT.sIx its.length its.length hi-HT.sIx its.length 0 lo)).toArray:=by obtain⟨h1,h2,h3⟩:=T5 lo hi its.toArray.size;unfold slicePick;rw[h1,h2,h3];simp only[sliceRange_one,pick_run,BH] <;> rfl
def U1 (K:W.Frag):V->Option Int->Option Int->Hp->VK->Prop:=λx lo hi H Q=>∃a xs,x=.ref a/\SqL K H a xs/\∀p,H p=none->Q (.ref p) (Ac H p (.lst (A5 xs lo hi)))
def FE:OT X (U1 X.K):=by intro pins s σ H x v vl vu lo hi sl Q I rx hs pl pu h;obtain⟨a,xs,rfl,hx,q⟩:=h;cases rx;obtain⟨its,r,ht,hz⟩:=I.list hx;have hlen:=r.length;refine⟨"list",_,slot_list_getitem.lookup,ht.isList.typeIs,?_⟩;refine wpAny_getItem_list_slice ht.isList hs pl pu .none (by simp) ?_ (by rw[BH] <;> lia);rw[T6,<- hlen];refine⟨.ref s.heap.objs.size,_,I.laid (t':=s.toks) (o:=.lst (A5 xs lo hi)) (λb ob q=>Bf _ q) (AA _) ?_,rfl,q _ (I.hok.fresh (AA _))⟩;exact⟨EB (Rt xs lo hi) hz,_,0,(r.drop (HT.sIx xs.length 0 lo)).take (HT.sIx xs.length xs.length hi-HT.sIx xs.length 0 lo),BI _ rfl⟩
def Er:V->Bool
 | .non=>true
 | .bl _=>true
 | .int _=>true
 | .str _=>true
 | _=>false
def DU:V->V->Bool
 | .non,.non=>true
 | .bl a,.bl b=>a == b
 | .bl a,.int b=>(if a then 1 else 0) == b
 | .int a,.bl b=>a == (if b then 1 else 0)
 | .int a,.int b=>a == b
 | .str a,.str b=>a == b
 | _,_=>false
def Zp (ry:RelV y u)(rx:RelV x v)(fy:Er y=true)(fx:Er x=true):SeqAt.EqAt A s u v (DU y x):=by
 cases y with
 | non=>
  cases ry;cases x with
  | non=>cases rx;exact SeqAt.EqAt.same _
  | bl b=>cases rx;exact SeqAt.EqAt.none_bool b
  | int b=>obtain⟨t,rfl⟩:=rx;exact SeqAt.EqAt.none_int b t
  | str b=>obtain⟨t,rfl⟩:=rx;exact SeqAt.EqAt.none_str b t
  | _=>exact absurd (show false=true from fx) Br
 | bl a=>
  cases ry;cases x with
  | non=>cases rx;exact SeqAt.EqAt.bool_none a
  | bl b=>cases rx;exact SeqAt.EqAt.bool_bool a b
  | int b=>obtain⟨t,rfl⟩:=rx;exact SeqAt.EqAt.bool_int a b t
  | str b=>obtain⟨t,rfl⟩:=rx;exact SeqAt.EqAt.bool_str a b t
  | _=>exact absurd (show false=true from fx) Br
 | int a=>
  obtain⟨t',rfl⟩:=ry;cases x with
  | non=>cases rx;exact SeqAt.EqAt.int_none a t'
  | bl b=>cases rx;exact SeqAt.EqAt.int_bool a t' b
  | int b=>obtain⟨t,rfl⟩:=rx;exact SeqAt.EqAt.int_int a t' b t
  | str b=>obtain⟨t,rfl⟩:=rx;exact SeqAt.EqAt.int_str a t' b t
  | _=>exact absurd (show false=true from fx) Br
 | str a=>
  obtain⟨t',rfl⟩:=ry;cases x with
  | non=>cases rx;exact SeqAt.EqAt.str_none a t'
  | bl b=>cases rx;exact SeqAt.EqAt.str_bool a t' b
  | int b=>obtain⟨t,rfl⟩:=rx;exact SeqAt.EqAt.str_int a t' b t
  | str b=>obtain⟨t,rfl⟩:=rx;exact SeqAt.EqAt.str_str a t' b t
  | _=>exact absurd (show false=true from fx) Br
 | _=>exact absurd (show false=true from fy) Br
def DV (x:V)(u:Value):Bool:=match u with
 | .none=>DU .non x
 | .bool b=>DU (.bl b) x
 | .int i _=>DU (.int i) x
 | .str z _=>DU (.str z) x
 | _=>false
def NP (r:RelV y u)(f:Er y=true):DV x u=DU y x:=by
 cases y with
 | non=>cases r;rfl
 | bl b=>cases r;rfl
 | int i=>obtain⟨t,rfl⟩:=r;rfl
 | str z=>obtain⟨t,rfl⟩:=r;rfl
 | _=>exact absurd (show false=true from f) Br
theorem Od :∀{xs:List V}{us:List Value},Vals xs us->xs.all Er=true->us.any (DV x)=xs.any λy=>DU y x
 | _,_,.nil,_=>rfl
 | y::xs,u::us,.cons r t,f=>by rw[Ls,Ce]at f;rw[any_cons,any_cons,NP r f.1,Od t f.2]
theorem K9 (rx:RelV x v)(fx:Er x=true):∀{xs:List V}{us:List Value},Vals xs us->xs.all Er=true->∀u∈us,SeqAt.EqAt A s u v (DV x u)
 | _,_,.nil,_=>λu hu=>by cases hu
 | y::xs,u::us,.cons r t,f=>λu' hu=>by
  rw[Ls,Ce]at f;rcases(AD.mp hu)with rfl | hu
  ·rw[NP r f.1];exact Zp r rx f.1 fx
  exact K9 rx fx t f.2 u' hu
def CM (x:V)(xs:List V):Bool:=xs.any λy=>DU y x
inductive Nf (K:W.Frag)(neg:Bool)(x:V)(y:V)(H:Hp)(Q:VK):Prop
 | mk (p:_) (xs:_) (c0:y=.ref p) (c1:(SqL K H p xs\/SqT K H p xs)) (c2:Er x=true) (c3:xs.all Er=true) (c4:Q (.bl (if neg then !CM x xs else CM x xs)) H):Nf K neg x y H Q
def Du:By X (compareOp .In) (Nf X.K false):=by
 intro pins s σ H x y v u Q I rx ry h;obtain⟨p,xs,rfl,hq,fx,fs,q⟩:=h;cases ry;rcases hq with hq | hq
 ·obtain⟨its,r,pl,hz⟩:=I.list hq;refine SeqAt.in_listAt (DV x) pl.isList (λw hw=>K9 rx fx r fs w (by simpa using hw)) ⟨.bl _,H,I,rfl,?_⟩;rw[show its.toArray.any (DV x)=its.any (DV x) by simp,Od r fs];exact q
 obtain⟨its,r,pl,hz⟩:=I.tuple hq;refine SeqAt.in_tupleAt (DV x) pl (λw hw=>K9 rx fx r fs w (by simpa using hw)) ⟨.bl _,H,I,rfl,?_⟩;rw[show its.toArray.any (DV x)=its.any (DV x) by simp,Od r fs];exact q
def N5:Cw X (.type "list") (λxs H Q=>∃p ys,xs=[.ref p]/\(SqL X.K H p ys\/SqT X.K H p ys)/\∀l,H l=none->Q (.ref l) (Ac H l (.lst ys))):=by
 intro pins s σ H xs us Q I r h;obtain⟨p,ys,rfl,hq,q⟩:=h;obtain⟨u,rfl,rx⟩:=Da r;cases rx
 have fin:∀(its:List Value),Vals ys its->ys.length<=sizeLine->∀(h':Heap) (c':Nat),(∀b o',s.heap.get? b=some o'->h'.get? b=some o') ->
   h'.get? s.heap.objs.size=some { cls:=.type "list",dict:=none,data:=.seq its.toArray c',slots:=#[] }->EP X pins σ Q (.ref s.heap.objs.size) { s with heap:=h' }:=λits r' hz h' c' kp e=>
  ⟨.ref s.heap.objs.size,_,I.laid (t':=s.toks) kp (AA _) (show ObjOk X.prog X.w _ h' _ (.lst ys) from ⟨hz,its,c',r',e⟩),rfl,q _ (I.hok.fresh (AA _))⟩
 rcases hq with hq | hq
 ·obtain⟨its,r',pl,hz⟩:=I.list hq;have hlen:=r'.length;obtain⟨o,ho,hc,n,hd⟩:=pl.isList;exact call_list_seq p (.inl rfl) ho hc hd (λh' c' kp e=>fin its r' hz h' c' kp e) (by simp only[BH] <;> lia)
 obtain⟨its,r',pl,hz⟩:=I.tuple hq;have hlen:=r'.length;obtain⟨o,ho,hc,n,hd⟩:=pl;exact call_list_seq p (.inr rfl) ho hc hd (λh' c' kp e=>fin its r' hz h' c' kp e) (by simp only[BH] <;> lia)
def N3:Cw X (.type "tuple") (λxs H Q=>∃p ys,xs=[.ref p]/\((SqL X.K H p ys/\∀l,H l=none->Q (.ref l) (Ac H l (.tup ys)))\/(SqT X.K H p ys/\Q (.ref p) H))):=by
 intro pins s σ H xs us Q I r h;obtain⟨p,ys,rfl,h⟩:=h;obtain⟨u,rfl,rx⟩:=Da r;cases rx;rcases h with⟨hq,q⟩ | ⟨hq,q⟩
 ·obtain⟨its,r',pl,hz⟩:=I.list hq;have hlen:=r'.length;refine call_tuple_list pl.isList (λh' kp=>?_) (by simp only[BH] <;> lia);have I1:Inv X pins σ H { s with heap:=h' }:=I.kept (t':=s.toks) kp
  have I2:Inv X pins σ (Ac H h'.objs.size (.tup ys)) { s with heap:=h'.push { cls:=.type "tuple",data:=.seq its.toArray } }:=
   I1.laid (t':=s.toks) (λb o e=>Bf _ e) (AA _) (show ObjOk X.prog X.w _ _ _ (.tup ys) from ⟨hz,its,r',IsTup.new _ _⟩)
  exact⟨.ref h'.objs.size,_,I2,rfl,q _ (I1.hok.fresh (AA _))⟩
 obtain⟨its,r',pl,hz⟩:=I.tuple hq;exact call_tuple_same pl ⟨.ref p,H,I,rfl,q⟩
def L8 (K:W.Frag)(T:String)(x:V)(H:Hp):Prop:=match x with
 | .str _=>T = "str"
 | .int _=>T = "int"
 | .ref p=>(T = "list" /\ ∃xs,SqL K H p xs)\/(T = "tuple" /\ ∃o,K.lookup p=some o/\o.cls=.type "tuple" /\ o.dict=none) \/
   (T = "dict" /\ ((∃kvs,H p=some (.dK kvs))\/∃kvs,H p=some (.dT kvs)))\/(T = "set" /\ ∃S n,H p=some (.set S n))
 | _=>False
def O5 (I:Inv X pins σ H s)(r:RelV x v)(ty:L8 X.K T x H) :
  s.TypeIs v T/\∀a,v=.ref a->∃ob,s.heap.get? a=some ob/\ob.dict=none:=by
 cases x with
 | str z=>obtain⟨t,rfl⟩:=r;cases (show T = "str" from ty);exact⟨JI s z t,λ_ e=>nomatch e⟩
 | int i=>obtain⟨t,rfl⟩:=r;cases (show T = "int" from ty);exact⟨typeIs_int s i t,λ_ e=>nomatch e⟩
 | ref p=>
  cases r;rcases ty with⟨rfl,xs,hq⟩ | ⟨rfl,o,hk,hc,hd⟩ | ⟨rfl,hk⟩ | ⟨rfl,S,n,hk⟩
  ·obtain⟨its,_,pl,_⟩:=I.list hq;refine⟨pl.isList.typeIs,λa e=>?_⟩;cases e;obtain⟨o,n,e,c,hd,_⟩:=pl;exact⟨o,e,hd⟩
  ·refine⟨⟨o,I.kIn p o hk,hc⟩,λa e=>?_⟩;cases e;exact⟨o,I.kIn _ o hk,hd⟩
  ·have z:∃o,s.heap.get? p=some o/\o.ExactDict:=by
    rcases hk with⟨kvs,hk⟩ | ⟨kvs,hk⟩
    ·obtain⟨_,_,_,_,o,_,_,e,ex,_⟩:=I.hok p _ hk;exact⟨o,e,ex⟩
    obtain⟨_,_,_,_,o,_,_,e,ex,_⟩:=I.hok p _ hk;exact⟨o,e,ex⟩
   obtain⟨o,e,ex⟩:=z;refine⟨⟨o,e,ex.1⟩,λa e2=>?_⟩;cases e2;exact⟨o,e,ex.2.1⟩
  obtain⟨o,_,_,_,e,ex,_⟩:=I.hok p _ hk;refine⟨⟨o,e,ex.1⟩,λa e2=>?_⟩;cases e2;exact⟨o,e,ex.2.1⟩
 | _=>exact False.elim ty
def TN (K:W.Frag)(T:String)(r:V->List V->Hp->VK->Prop)(to:TE):TE:=λσ H Q=>to σ H λx H1=>L8 K T x H1/\r x [] H1 Q
def Mf (K:W.Frag)(T:String)(r:V->List V->Hp->VK->Prop)(to:TE)(t:TA):TE:=λσ H Q=>to σ H λx H1=>L8 K T x H1/\t σ H1 λxs H2=>r x xs H2 Q
variable {o e:Expr}{es:List Expr}{to:TE}{t:TA}{name:Str}{apos cpos:Pos}{T id:String}{r:V->List V->Hp->VK->Prop}
def Qn (pa:PlainAttrs T)(slot:Slot T name id)(hty:typeOf (.builtin id)=pure (.type "method_descriptor"))(hm:HI X id r)(ho:PE X o to)
  (hbase:attributeBase o name X.env (eval o X.env)=eval o X.env:=by rfl)(hline:(apos.endLine == cpos.line)=true:=by rfl):PE X (.Call (.Attribute o name apos) [] [] cpos) (TN X.K T r to):=by
 intro pins s σ H Q I h
 refine wpAny_Call_method0_late hbase hline (Ao (ho pins s σ H _ I h) λv s1 hp0=>?_)
 obtain⟨x,H1,I1,r1,ty,q1⟩:=hp0
 obtain⟨h1,h2⟩:=O5 I1 r1 ty
 exact⟨T,id,pa,slot,hty,h1,h2,OH rfl (PySem.evalArgs_none (hm pins s1 σ H1 x [] v [] Q I1 r1 .nil q1))⟩
def B2 (pa:PlainAttrs T)(slot:Slot T name id)(hty:typeOf (.builtin id)=pure (.type "method_descriptor"))(hm:HI X id r)(ho:PE X o to)(ha:PA X (e::es) t)
  (hbase:attributeBase o name X.env (eval o X.env)=eval o X.env:=by rfl)
  (hfew:((backTo cpos (starEach (e::es) X.env)).all (λx=>!x.1) && (backToKw cpos (keywordEach [] X.env)).all (λx=>x.1.isSome) && decide ((e::es).length+([]:List Keyword).length+(if ([]:List Keyword).isEmpty then 0 else 1)<30))=true:=by rfl)
  (hline:(apos.endLine == cpos.line)=true:=by rfl)(hs:starEach (e::es) X.env=(false,eval e X.env)::starEach es X.env:=by rfl)(hplain:(backTo cpos (starEach es X.env)).any (·.1)=false:=by rfl) :
  PE X (.Call (.Attribute o name apos) (e::es) [] cpos) (Mf X.K T r to t):=by
 intro pins s σ H Q I h
 refine wpAny_Call_method_late hbase hfew hline rfl (Ao (ho pins s σ H _ I h) λv s1 hp0=>?_)
 obtain⟨x,H1,I1,r1,ty,q1⟩:=hp0
 obtain⟨h1,h2⟩:=O5 I1 r1 ty
 refine⟨T,id,pa,slot,hty,h1,h2,?_⟩
 have hA:=ha cpos pins s1 σ H1 _ I1 q1
 rw[hs]at hA ⊢
 refine OH (by show(false || (backTo cpos (starEach es X.env)).any (·.1))=false;rw[hplain] <;> rfl) (OC ?_)
 exact Ao hA λus s2 hp0=>by obtain⟨vs,H2,I2,r2,q2⟩:=hp0;exact hm pins s2 σ H2 x vs v us Q I2 r1 r2 q2
end
def OW (X:Cx)(id:String)(r:V->List V->Hp->VK->Prop):Prop:=
 ∀(pins:List (Addr×Obj)) (s:Shared) (σ:St) (H:Hp) (x:V) (xs:List V) (v:Value) (us:List Value) (Q:VK),Inv X pins σ H s->RelV x v->Vals xs us->r x xs H Q ->
  wpAny (model X.prog X.w) X.A (call (.builtin id) (v::us)) (EP X pins σ Q) X.xe s
theorem Vals.one:∀{x:V}{us:List Value},Vals [x] us->∃u,us=[u]/\RelV x u
 | _,_,.cons r .nil=>⟨_,rfl,r⟩
theorem Vals.zero:∀{us:List Value},Vals [] us->us=[]
 | _,.nil=>rfl
def Vals.reverse (h:Vals xs us):Vals xs.reverse us.reverse:=by
 induction h with
 | nil=>exact .nil
 | cons r t ih=>rw[LC,LC];exact Vals.append ih (.cons r .nil)
section
variable {X:Cx}{pins:List (Addr×Obj)}{σ:St}{H:Hp}{s:Shared}{l b:Addr}{xs ys zs:List V}
def Inv.lset {its its':List Value}{n:Nat}{f:Array Value->Array Value}{t':Nat}(I:Inv X pins σ H s)(hH:H l=some (.lst xs))
  (e:s.heap.get? l=some { cls:=.type "list",data:=.seq its.toArray n })(hf:f its.toArray=its'.toArray)(hv:Vals ys its')(hz:ys.length<=sizeLine) :
  Inv X pins σ (Ac H l (.lst ys)) { s with heap:=s.heap.update l (Obj.mapSeq f),toks:=t' }:=by
 have q:=PySem.IsL.update e f
 rw[hf]at q
 refine I.write (x:=l) (e:=l) (by rw[hH];exact trivial) (.inl rfl) (λb' u hb hu=>(LV s.heap (Obj.mapSeq f) (Dm hb)).trans hu) ⟨_,q⟩ ?_
 exact⟨hz,its',_,hv,q⟩
def Inv.lnew (I:Inv X pins σ H s)(hv:Vals ys its)(hz:ys.length<=sizeLine) :
  Inv X pins σ (Ac H s.heap.objs.size (.lst ys)) { s with heap:=s.heap.push { cls:=.type "list",data:=.seq its.toArray },toks:=t' }:=
 I.laid (λ_ _ q=>Bf _ q) (AA _) ⟨hz,its,0,hv,BI _ rfl⟩
def Inv.fresh (I:Inv X pins σ H s):H s.heap.objs.size=none:=I.hok.fresh (AA _)
def Inv.lstM (I:Inv X pins σ H s)(hH:H l=some (.lst xs)):xs.length<=sizeLine/\∃(its:List Value) (n:Nat),Vals xs its/\xs.length=its.length/\s.heap.get? l=some { cls:=.type "list",data:=.seq its.toArray n }:=by obtain⟨z,its,n,r,e⟩:=I.hok l _ hH;exact⟨z,its,n,r,r.length,e⟩
end
section
variable {X:Cx}
def Va:V->List V->Hp->VK->Prop:=λx vs H Q=>∃l xs y,x=.ref l/\vs=[y]/\H l=some (.lst xs)/\xs.length<sizeLine/\Q .non (Ac H l (.lst (xs++[y])))
def G4:OW X "list.append" Va:=by intro pins s σ H x vs v us Q I rx rv h;obtain⟨l,xs,y,rfl,rfl,hH,hz,q⟩:=h;cases rx;obtain⟨u,rfl,ru⟩:=rv.one;obtain⟨z,its,n,r,hl,e⟩:=I.lstM hH;refine Gf JG ⟨_,e,rfl⟩ F.entry_list_append (F.args_list_append_2 _ _) (PySem.list_append l its.toArray n u (by rw[BH];lia)) ⟨e,?_⟩;refine⟨.non,_,I.lset (its':=its++[u]) hH e (by simp) (r.append (.cons ru .nil)) ?_,rfl,q⟩;rw[AX,length_singleton];lia
def U2:V->List V->Hp->VK->Prop:=λx vs H Q=>∃l xs,x=.ref l/\vs=[]/\H l=some (.lst xs)/\Q .non (Ac H l (.lst xs.reverse))
def Yc:OW X "list.reverse" U2:=by intro pins s σ H x vs v us Q I rx rv h;obtain⟨l,xs,rfl,rfl,hH,q⟩:=h;cases rx;have hus:=rv.zero;subst hus;obtain⟨z,its,n,r,hl,e⟩:=I.lstM hH;refine Gf F.slot_list_reverse ⟨_,e,rfl⟩ F.entry_list_reverse (F.args_list_reverse_1 _) (AutoSeq1.list_reverse_list_0 l its.toArray n (by rw[BH];lia)) ⟨e,?_⟩;refine⟨.non,_,I.lset (its':=its.reverse) hH e (by simp) r.reverse ?_,rfl,q⟩;rw[LL];lia
def U9:R2:=λx y H Q=>∃l b xs zs,x=.ref l/\y=.ref b/\H l=some (.lst xs)/\H b=some (.lst zs)/\xs.length+zs.length<=sizeLine/\∀p,H p=none->Q (.ref p) (Ac H p (.lst (xs++zs)))
def Fh:By X (binaryOp .Add) U9:=by
 intro pins s σ H x y v u Q I rx ry h;obtain⟨l,b,xs,zs,rfl,rfl,hH,hB,hz,q⟩:=h;cases rx;cases ry;obtain⟨z,its,n,r,hl,e⟩:=I.lstM hH;obtain⟨z2,its2,n2,r2,hl2,e2⟩:=I.lstM hB;refine PySem.P.add_list e e2 ?_ (by rw[BH,BH];lia);have ea:its.toArray++its2.toArray=(its++its2).toArray:=by simp
 rw[ea];exact⟨.ref _,_,I.lnew (t':=s.toks) (r.append r2) (by rw[AX];lia),rfl,q _ I.fresh⟩
end
section
variable {κ:Type} [DecidableEq κ]
def Aw (kvs:List (κ×V))(k:κ):Option V:=(kvs.find? λkv=>decide (kv.1=k)).map (·.2)
def BW (kvs:List (κ×V))(k:κ)(v:V):List (κ×V):=
 if (kvs.any λkv=>decide (kv.1=k))=true then kvs.map (λkv=>if kv.1=k then(kv.1,v)else kv)else kvs++[(k,v)]
def BV {k:κ}(e:p.1=k):Aw (p::r) k=some p.2:=by simp[Aw,Ge,e]
def A7 {k:κ}(e:¬p.1=k):Aw (p::r) k=Aw r k:=by simp[Aw,Ge,e]
theorem E3 (k:κ):∀kvs:List (κ×V),(kvs.any λkv=>decide (kv.1=k))=(Aw kvs k).isSome
 | []=>rfl
 | p::r=>by
  rw[any_cons];by_cases e:p.1=k
  ·simp only[BV e,AQ e,Bool.true_or,Option.isSome_some]
  rw[A7 e,A8 e,Bool.false_or];exact E3 k r
theorem O4 (k j:κ)(y:V):∀kvs:List (κ×V),Aw (kvs.map λkv=>if kv.1=k then(kv.1,y)else kv) j=(Aw kvs j).map λx=>if j=k then y else x
 | []=>rfl
 | p::r=>by
  have ih:=O4 k j y r;rw[Bj];by_cases h:p.1=k
  ·rw[As h];by_cases e:p.1=j
   ·rw[BV (p:=(p.1,y)) e,BV e,map_some,As (e.symm.trans h)]
   rw[A7 (p:=(p.1,y)) e,A7 e,ih]
  rw[Ai h];by_cases e:p.1=j
  ·rw[BV (p:=p) e,BV e,map_some,Ai (λz=>h (e.trans z))]
  rw[A7 (p:=p) e,A7 e,ih]
theorem O3 (k j:κ)(y:V):∀kvs:List (κ×V),Aw kvs k=none->Aw (kvs++[(k,y)]) j=if j=k then some y else Aw kvs j
 | [],_=>by
  by_cases e:k=j
  ·rw[As e.symm];exact BV (p:=(k,y)) e
  rw[Ai (λz=>e z.symm)];exact A7 (p:=(k,y)) e
 | p::r,hn=>by
  rw[Ew];have hk:¬p.1=k:=λz=>by rw[BV z]at hn;cases hn
  rw[A7 hk]at hn;have ih:=O3 k j y r hn;by_cases e:p.1=j
  ·rw[BV e,BV e,Ai (λz=>hk (e.trans z))]
  rw[A7 e,A7 e,ih]
def Dc (kvs:List (κ×V))(k j:κ)(y:V):Aw (BW kvs k y) j=if j=k then some y else Aw kvs j:=by
 unfold BW;by_cases a:(kvs.any λkv=>decide (kv.1=k))=true
 ·rw[As a,O4];rw[E3]at a;by_cases e:j=k
  ·obtain⟨x,hx⟩:=isSome_iff_exists.mp a;rw[As e,e,hx,map_some,As rfl]
  rw[Ai e];cases Aw kvs j with
  | none=>rfl
  | some x=>rw[map_some,Ai e]
 rw[Ai a];refine O3 k j y kvs ?_;rw[E3]at a;cases q:Aw kvs k with
 | none=>rfl
 | some x=>rw[q]at a;exact(a rfl).elim
def Jn (kvs:List (κ×V))(k:κ)(v:V):(BW kvs k v).length<=kvs.length+1:=by
 unfold BW;split
 ·rw[Ar];lia
 rw[AX,Cp,Gd];lia
def FN {k:κ}(v:V)(h:Aw kvs k=none):BW kvs k v=kvs++[(k,v)]:=by unfold BW;rw[E3,h];exact Ai (by decide)
def RelO.isSome_eq (r:RelO o u):o.isSome=u.isSome:=by
 cases o with
 | none=>cases u with
  | none=>rfl
  | some _=>exact(show False from r).elim
 | some _=>cases u with
  | none=>exact(show False from r).elim
  | some _=>rfl
def RelO.getD (r:RelO o u)(rd:RelV d d'):RelV (o.getD d) (u.getD d'):=by
 cases o with
 | none=>cases u with
  | none=>exact rd
  | some _=>exact(show False from r).elim
 | some _=>cases u with
  | none=>exact(show False from r).elim
  | some _=>exact r
def KV.val (r:KV kvs vs)(k:κ):RelO (Aw kvs k) (valueAt vs k):=by
 unfold KV at r;induction r with
 | nil=>exact Fu
 | @cons p q ps qs h t ih=>
  obtain⟨h1,h2⟩:=h;by_cases e:p.1=k
  ·have e':q.1=k:=h1.symm.trans e;have b:valueAt (q::qs) k=some q.2:=by simp[valueAt,Ge,e']
   rw[BV e,b];exact h2
  have e':¬q.1=k:=λz=>e (h1.trans z);have b:valueAt (q::qs) k=valueAt qs k:=by simp[valueAt,Ge,e']
  rw[A7 e,b];exact ih
def KV.any (r:KV kvs vs)(k:κ):(kvs.any λkv=>decide (kv.1=k))=vs.any λkv=>decide (kv.1=k):=by
 unfold KV at r;induction r with
 | nil=>rfl
 | cons h t ih=>rw[any_cons,any_cons,ih,h.1]
def KV.repl (r:KV kvs vs)(k:κ) (ry:RelV y u) :
  KV (kvs.map λkv=>if kv.1=k then(kv.1,y)else kv) (vs.map λkv=>if kv.1=k then(kv.1,u)else kv):=by
 unfold KV at r ⊢
 induction r with
 | nil=>exact .nil
 | @cons p q ps qs h t ih=>
  rw[Bj,Bj];refine .cons ?_ ih;obtain⟨h1,h2⟩:=h;by_cases e:p.1=k
  ·rw[As e,As (h1.symm.trans e)];exact⟨h1,ry⟩
  rw[Ai e,Ai (λz=>e (h1.trans z))];exact⟨h1,h2⟩
def KV.put (r:KV kvs vs)(k:κ) (ry:RelV y u):KV (BW kvs k y) (stored vs k u):=by
 unfold BW stored;rw[r.any k];by_cases e:(vs.any λkv=>decide (kv.1=k))=true
 ·rw[As e,As e];exact r.repl k ry
 rw[Ai e,Ai e];exact Paired.snoc r ⟨rfl,ry⟩
def KV.length (r:KV kvs vs):kvs.length=vs.length:=Fy r
end
def EL {k:Ag} (r:RelV (kV k) u):(BS P w).is k u=true:=by
 cases k with
 | inl i=>obtain⟨t,e⟩:=(show ∃t,u=Value.int i t from r);subst e;exact Ye P w i t
 | inr x=>obtain⟨t,e⟩:=(show ∃t,u=Value.str x t from r);subst e;exact Yd P w x t
abbrev KT (H:Hp):List (PyData×V)->List (PyData×Addr×Value)->Prop:=Paired λp q=>p.1=q.1/\RdT H q.2.1 p.1/\RelV p.2 q.2.2
def KT.val (r:KT H kvs xs)(k:PyData):RelO (Aw kvs k) ((atKey xs k).map (·.2)):=by
 induction r with
 | nil=>exact Fu
 | @cons p q ps qs h t ih=>
  obtain⟨h1,_,h2⟩:=h;by_cases e:p.1=k
  ·have e':q.1=k:=h1.symm.trans e;have b:atKey (q::qs) k=some q.2:=by simp[atKey,Ge,e']
   rw[BV e,b];exact h2
  have e':¬q.1=k:=λz=>e (h1.trans z);have b:atKey (q::qs) k=atKey qs k:=by simp[atKey,Ge,e']
  rw[A7 e,b];exact ih
def KT.repl (r:KT H kvs xs)(k:PyData) (ry:RelV y u) :
  KT H (kvs.map λkv=>if kv.1=k then(kv.1,y)else kv) (xs.map (putAt k u)):=by
 induction r with
 | nil=>exact .nil
 | @cons p q ps qs h t ih=>
  rw[Bj,Bj];refine .cons ?_ ih;obtain⟨h1,h2,h3⟩:=h;unfold putAt;by_cases e:p.1=k
  ·rw[As e,As (h1.symm.trans e)];exact⟨h1,h2,ry⟩
  rw[Ai e,Ai (λz=>e (h1.trans z))];exact⟨h1,h2,h3⟩
def KT.put (r:KT H kvs xs)(k:PyData) (hb:RdT H b k)(ry:RelV y u) :
  KT H (BW kvs k y) (storedH xs k b u):=by
 have e:(kvs.any λkv=>decide (kv.1=k))=(atKey xs k).isSome:=by rw[E3,(r.val k).isSome_eq,isSome_map]
 unfold BW storedH
 rw[e]
 by_cases q:(atKey xs k).isSome=true
 ·rw[As q,As q];exact r.repl k ry
 rw[Ai q,Ai q];exact Paired.snoc r ⟨rfl,hb,ry⟩
def KT.keeps (r:KT H kvs xs)(ht:∀b ys,H b=some (.tup ys)->H' b=some (.tup ys)):KT H' kvs xs:=
 Paired.mapP r λ_ _ z=>⟨z.1,z.2.1.same ht,z.2.2⟩
section
variable {P:Program}{w:World}{H:Hp}{h:Heap}{a:Addr}
def PY (ok:HOk P w H h)(e:Rd H a u):ObjOk P w H h a u:=e.ok ok
def F2 (ok:HOk P w H h)(e:Rd H a (.dK kvs)):kvs.length<=sizeLine/\(a == sysModules)=false/\∃vs,KV kvs vs/\h.DictOf (BS P w) a vs:=
 show ObjOk P w H h a (.dK kvs) from PY ok e
def Hi (ok:HOk P w H h)(e:H a=some (.dK kvs)):kvs.length<=sizeLine/\(a == sysModules)=false/\∃vs,KV kvs vs/\h.DictOf (BS P w) a vs:=F2 ok (.inl e)
mutual
theorem RdD.reads (ok:HOk P w H h):∀{x:V}{d:PyData}{u:Value},RdD H x d->RelV x u->∃as,Reads h u d as
 | _,_,_,.non,r=>by cases r;exact⟨_,.none⟩
 | _,_,_,.str x,r=>by obtain⟨t,rfl⟩:=r;exact⟨_,.str x t⟩
 | _,_,_,.tup (a:=a) e rs,r=>by cases r;obtain⟨z,its,rv,o,ho,hc,n,hd⟩:=ok a _ e;obtain⟨as,ra⟩:=RdDs.reads ok rs rv;exact⟨as,.tuple ho hc hd (by simpa using ra)⟩
theorem RdDs.reads (ok:HOk P w H h):∀{xs:List V}{ds:List PyData}{us:List Value},RdDs H xs ds->Vals xs us->∃as,ReadsAll h us ds as
 | _,_,_,.nil,r=>by cases r;exact⟨_,.nil⟩
 | _,_,_,.cons a b,r=>by
  cases r with
  | cons r1 r2=>obtain⟨as,h1⟩:=RdD.reads ok a r1;obtain⟨bs,h2⟩:=RdDs.reads ok b r2;exact⟨_,.cons h1 h2⟩
end
def key_of {k:PyData}(ok:HOk P w H h)(e:RdT H a k):(WK.dataKind P w).is h k a:=⟨e.ok,e.lay,e.dp,e.de,e.rd.reads ok rfl⟩
def Jy (ok:HOk P w H h)(e:Rd H a (.dT kvs)):kvs.length<=sizeLine/\(a == sysModules)=false /\
  ∃xs,KT H kvs xs/\h.DictOfH (WK.dataKind P w) a xs:=by
 obtain⟨z,y,xs,r,o,es,ep,h1,h2,h3,h4,h5⟩:=(show ObjOk P w H h a (.dT kvs) from PY ok e)
 refine⟨z,y,xs,r,o,es,ep,h1,h2,h3,h4,λx hx=>?_,h5⟩
 have all:∀{l:List (PyData×V)}{m:List (PyData×Addr×Value)},KT H l m->∀x∈m,(WK.dataKind P w).is h x.1 x.2.1:=by
  intro l m q;induction q with
  | nil=>intro x hx;exact nomatch hx
  | @cons p q ps qs hq t ih=>
   intro x hx;rcases(AD.mp hx)with e | hx
   ·subst e;exact key_of ok (by rw[<- hq.1];exact hq.2.1)
   exact ih x hx
 exact all r x hx
def Zt (ok:HOk P w H h)(e:H a=some (.dT kvs)):kvs.length<=sizeLine/\(a == sysModules)=false /\
  ∃xs,KT H kvs xs/\h.DictOfH (WK.dataKind P w) a xs:=Jy ok (.inl e)
end
def DGet (H:Hp)(a:Addr)(y:V)(r:Option V):Prop:=
 (∃kvs k,Rd H a (.dK kvs)/\y=kV k/\r=Aw kvs k)\/∃kvs k b,Rd H a (.dT kvs)/\y=.ref b/\RdT H b k/\r=Aw kvs k
def DPut (H:Hp)(a:Addr)(y v:V)(H':Hp):Prop:=
 (∃kvs k,H a=some (.dK kvs)/\y=kV k/\kvs.length<sizeLine/\H'=Ac H a (.dK (BW kvs k v))) \/
 ∃kvs k b,H a=some (.dT kvs)/\y=.ref b/\RdT H b k/\kvs.length<sizeLine/\H'=Ac H a (.dT (BW kvs k v))
theorem DGet.k {k:Ag}(e:H a=some (.dK kvs)):DGet H a (kV k) (Aw kvs k):=.inl ⟨kvs,k,.inl e,rfl,rfl⟩
def DGet.t {k:PyData}(e:H a=some (.dT kvs))(eb:RdT H b k):DGet H a (.ref b) (Aw kvs k):=.inr ⟨kvs,k,b,.inl e,rfl,eb,rfl⟩
theorem DPut.k {k:Ag} (e:H a=some (.dK kvs))(hl:kvs.length<sizeLine):DPut H a (kV k) v (Ac H a (.dK (BW kvs k v))):=.inl ⟨kvs,k,e,rfl,hl,rfl⟩
def DPut.t {k:PyData} (e:H a=some (.dT kvs))(eb:RdT H b k)(hl:kvs.length<sizeLine) :
  DPut H a (.ref b) v (Ac H a (.dT (BW kvs k v))):=.inr ⟨kvs,k,b,e,rfl,eb,hl,rfl⟩
section
variable {X:Cx}{pins:List (Addr×Obj)}{σ:St}{H:Hp}{s:Shared}{a:Addr}{y v:V}{u r:Value}{o:Option V}{A:Around}{E:Value->Shared->Prop}
def Inv.big (I:Inv X pins σ H s):sysModules<s.heap.objs.size:=by have h:mainGlobals<s.heap.objs.size:=(I.mod.glob.keeps I.bk).lt;exact lt_trans (by decide) h
def ZI (hu:A.units+20<cLine)(I:Inv X pins σ H s)(g:DGet H a y (some v))(ry:RelV y u)(h:∀w' s',Inv X pins σ H s'->RelV v w'->Q w' s') :
  wpAny (model X.prog X.w) A (getItem (.ref a) u) Q E s:=by
 rcases g with⟨kvs,k,e,ey,l⟩ | ⟨kvs,k,b,e,ey,eb,l⟩
 ·subst ey;obtain⟨z,hd,vs,rel,dd⟩:=F2 I.hok e;obtain⟨w',hw,rw'⟩:=RelO.some_of (v:=v) (o:=valueAt vs k) (by rw[l];exact rel.val k);exact wpAny_getItem_of (EL ry) dd.mapOf hw (h w' _ (I.tok _) rw')
 subst ey
 cases (show u=Value.ref b from ry)
 obtain⟨z,hd,xs,rel,dd⟩:=Jy I.hok e
 obtain⟨w',hw,rw'⟩:=RelO.some_of (v:=v) (o:=(atKey xs k).map (·.2)) (by rw[l];exact rel.val k)
 obtain⟨p,hp,hp2⟩:=map_eq_some_iff.mp hw
 refine wpAny_getItem_heap (WK.room_in1 hu) (key_of I.hok eb) dd hp ?_
 rw[hp2]
 exact h w' _ (I.tok _) rw'
def ZH (hu:A.units+20<cLine)(I:Inv X pins σ H s)(g:DGet H a y o)(ry:RelV y u)(h:∀s',Inv X pins σ H s'->Q (.bool o.isSome) s') :
  wpAny (model X.prog X.w) A (compareOp .In u (.ref a)) Q E s:=by
 rcases g with⟨kvs,k,e,ey,l⟩ | ⟨kvs,k,b,e,ey,eb,l⟩
 ·subst ey;obtain⟨z,hd,vs,rel,dd⟩:=F2 I.hok e;refine wpAny_in_of (EL ry) hd dd.mapOf ?_;rw[<- (rel.val k).isSome_eq,<- l];exact h _ (I.tok _)
 subst ey
 cases (show u=Value.ref b from ry)
 obtain⟨z,hd,xs,rel,dd⟩:=Jy I.hok e
 refine wpAny_in_heap (WK.room_in1 hu) (key_of I.hok eb) hd dd ?_
 have q:=(rel.val k).isSome_eq
 rw[isSome_map]at q
 rw[<- q,<- l]
 exact h _ (I.tok _)
def ZF (hu:A.units+20<cLine)(I:Inv X pins σ H s)(g:DGet H a y o)(ry:RelV y u)(h:∀s',Inv X pins σ H s'->Q (.bool (!o.isSome)) s') :
  wpAny (model X.prog X.w) A (compareOp .NotIn u (.ref a)) Q E s:=by
 rcases g with⟨kvs,k,e,ey,l⟩ | ⟨kvs,k,b,e,ey,eb,l⟩
 ·subst ey;obtain⟨z,hd,vs,rel,dd⟩:=F2 I.hok e;refine wpAny_notIn_of (EL ry) hd dd.mapOf ?_;rw[<- (rel.val k).isSome_eq,<- l];exact h _ (I.tok _)
 subst ey
 cases (show u=Value.ref b from ry)
 obtain⟨z,hd,xs,rel,dd⟩:=Jy I.hok e
 refine wpAny_notIn_heap (WK.room_in1 hu) (key_of I.hok eb) hd dd ?_
 have q:=(rel.val k).isSome_eq
 rw[isSome_map]at q
 rw[<- q,<- l]
 exact h _ (I.tok _)
def NX (I:Inv X pins σ H s)(mu:JZ (H a))(hs:Heap.SameBut a s.heap h')(he:∃q,h'.get? a=some q)(new:ObjOk X.prog X.w (Ac H a ob) h' a ob) :
  Inv X pins σ (Ac H a ob) { s with heap:=h',toks:=t' }:=
 I.write (x:=a) (e:=a) mu (.inl rfl) (λb q hb z=>(hs.2 b hb).trans z) he new
def Rb (z:kvs.length<=sizeLine)(hd:(a == sysModules)=false)(rel:KV kvs vs)(dd:h'.DictOf (BS P w) a vs) :
  ObjOk P w H' h' a (.dK kvs):=⟨z,hd,vs,rel,dd⟩
def ZE (hu:A.units+20<cLine)(I:Inv X pins σ H s)(g:DPut H a y v H')(ry:RelV y u)(rv:RelV v r)(h:∀s',Inv X pins σ H' s'->Q () s') :
  wpAny (model X.prog X.w) A (setItem (.ref a) u r) Q E s:=by
 rcases g with⟨kvs,k,e,ey,l,eH⟩ | ⟨kvs,k,b,e,ey,eb,l,eH⟩
 ·subst ey eH;obtain⟨z,hd,vs,rel,dd⟩:=Hi I.hok e;have hz:vs.length<=sizeLine:=by rw[<- rel.length];exact z
  have hl:(BW kvs k v).length<=sizeLine:=by have:=Jn kvs k v;lia
  refine wpAny_setItem_pairs (hsz:=hz) (EL ry) dd λh' dd' hs=>h _ ?_;have he:∃q,h'.get? a=some q:=let ⟨q,_,_,hq,_⟩:=dd';⟨q,hq⟩;exact NX I (by rw[e];exact Fu) hs he (Rb hl hd (rel.put k rv) dd')
 subst ey eH
 cases (show u=Value.ref b from ry)
 obtain⟨z,hd,xs,rel,dd⟩:=Zt I.hok e
 have hz:xs.length<=sizeLine:=by rw[<- Fy rel];exact z
 have hl:(BW kvs k v).length<=sizeLine:=by have:=Jn kvs k v;lia
 refine wpAny_setItem_heap (hsz:=hz) (WK.room_in1 hu) (key_of I.hok eb) dd λh' dd' hs=>h _ ?_
 obtain⟨q,es,ep,hq,h2,h3,h4,_,h5⟩:=dd'
 refine NX I (by rw[e];exact Fu) hs ⟨q,hq⟩ ⟨hl,hd,_,(rel.put k eb rv).keeps λc ys ec=>?_,q,es,ep,hq,h2,h3,h4,h5⟩
 rw[Aj (BJ ec e (λz=>nomatch z))]
 exact ec
end
section
variable {X:Cx}{pins:List (Addr×Obj)}{σ:St}{H:Hp}{s:Shared}{a:Addr}{kvs:List (Ag×V)}{k:Ag}{u:Value}{A:Around}{E:Value->Shared->Prop}
def ZG (I:Inv X pins σ H s)(e:Rd H a (.dK kvs))(h:∀t s',Inv X pins σ H s'->Q (.int kvs.length t) s'):wpAny (model X.prog X.w) A (call (.builtin "len") [.ref a]) Q E s:=by obtain⟨z,hd,vs,rel,dd⟩:=F2 I.hok e;refine call_len_dict hd dd (by rw[<- rel.length];rw[AM]at z;lia) ?_;rw[<- rel.length];exact h _ _ (I.tok _)
end
def OV (i:Expr):Prop:=∀ov iv,subscripted i false ov iv=operate [ov,iv] (getItem ov iv)
def Pj {prog:Program}{w:World}{A:Around}{E:Value->Shared->Prop}{s:Shared}{env:Env}{value slice:Expr}{pos:Pos}{T id:String}{Q:Value->Shared->Prop}
  (hl:typeLookup (.type T) "__getitem__" = pure (some (.builtin id)))(hs:OV slice)
  (h:wpAny (model prog w) A (eval value env) (λo s₁=>wpAny (model prog w) A (eval slice env) (λi s₂=>s₂.TypeIs o T/\wpAny (model prog w) A (getItem o i) Q E s₂) E s₁) E s) :
  wpAny (model prog w) A (eval (.Subscript value slice pos) env) Q E s:=by
 refine Subscript_ (BL h (λo s₁ h₁=>BL h₁ (λi s₂ h₂=>?_) λ_ _ x=>x) λ_ _ x=>x)
 obtain⟨hT,h₂⟩:=h₂
 unfold subscriptTail
 refine Ae ?_
 rw[getitemInPython_of_ne hT.not_modules]
 refine Ae (Eb hT hl ?_)
 have fin:wpAny (model prog w) A (subscripted slice false o i) (λr s₃=>wpAny (model prog w) A (letTemporaryGo value o r >>= λ_=>pure r) Q E s₃) E s₂:=by rw[hs o i];exact wpAny_operating (BL h₂ (λr s₃ h₃=>Ae (wpAny_letTemporaryGo (An h₃))) λ_ _ x=>x)
 first
  | exact An (Ae fin)
  | exact Ae (An (Ae fin))
  | exact Ae fin
def Zy (I:Inv X pins σ H s)(g:DGet H a y o):s.TypeIs (.ref a) "dict" := by
 rcases g with⟨kvs,k,e,_,_⟩ | ⟨kvs,k,b,e,_,_,_⟩
 ·obtain⟨_,_,vs,_,dd⟩:=F2 I.hok e;exact dd.typeIs
 obtain⟨_,_,xs,_,dd⟩:=Jy I.hok e;exact dd.typeIs
inductive QU (Q:VK)(x y:V)(H2:Hp):Prop
 | mk (a:_) (v:_) (c0:x=.ref a) (c1:DGet H2 a y (some v)) (c2:Q v H2):QU Q x y H2
def TH (td ty:TE):TE:=λσ H Q=>td σ H λx H1=>ty σ H1 λy H2=>QU Q x y H2
inductive QS (Q:VK)(x y:V)(H2:Hp):Prop
 | mk (a:_) (o:_) (c0:x=.ref a) (c1:DGet H2 a y o) (c2:Q (.bl o.isSome) H2):QS Q x y H2
def TF (ty td:TE):TE:=λσ H Q=>ty σ H λy H1=>td σ H1 λx H2=>QS Q x y H2
def Tz (ty td:TE):TE:=λσ H Q=>ty σ H λy H1=>td σ H1 λx H2=>∃a o,x=.ref a/\DGet H2 a y o/\Q (.bl (!o.isSome)) H2
def UH (td ty tv:TE):TS:=λD σ H=>tv σ H λv H1=>td σ H1 λx H2=>ty σ H2 λy H3=>∃a H4,x=.ref a/\DPut H3 a y v H4/\D.nx σ H4
section
variable {X:Cx}{o i e value:Expr}{pos pos' tpos:Pos}{td ty tv:TE}
def CJ (hu:X.A.units+20<cLine)(ho:PE X o td)(hi:PE X i ty)(hs:OV i):PE X (.Subscript o i pos) (TH td ty):=by intro pins s σ H Q I h;refine Pj R9.lookup hs (Ao (ho pins s σ H _ I h) λu s1 hp0=>?_);obtain⟨x,H1,I1,rx,q1⟩:=hp0;refine Ao (hi pins s1 σ H1 _ I1 q1) λiv s2 hp1=>?_;obtain⟨y,H2,I2,ry,a,v,ex,g,q2⟩:=hp1;subst ex;obtain rfl:u=Value.ref a:=rx;exact⟨Zy I2 g,ZI hu I2 g ry λw' s3 I3 rw'=>⟨v,H2,I3,rw',q2⟩⟩
def Qo (hu:X.A.units+20<cLine)(hi:PE X i ty)(ho:PE X o td):PC X .In i o (TF ty td):=by intro pins s σ H Q I h;refine Ao (hi pins s σ H _ I h) λiv s1 hp0=>?_;obtain⟨y,H1,I1,ry,q1⟩:=hp0;refine Ao (ho pins s1 σ H1 _ I1 q1) λu s2 hp1=>?_;obtain⟨x,H2,I2,rx,a,ov,ex,g,q2⟩:=hp1;subst ex;obtain rfl:u=Value.ref a:=rx;exact ZH hu I2 g ry λs3 I3=>⟨.bl ov.isSome,H2,I3,rfl,q2⟩
def K1 (hu:X.A.units+20<cLine)(hi:PE X i ty)(ho:PE X o td):PC X .NotIn i o (Tz ty td):=by intro pins s σ H Q I h;refine Ao (hi pins s σ H _ I h) λiv s1 hp0=>?_;obtain⟨y,H1,I1,ry,q1⟩:=hp0;refine Ao (ho pins s1 σ H1 _ I1 q1) λu s2 hp1=>?_;obtain⟨x,H2,I2,rx,a,ov,ex,g,q2⟩:=hp1;subst ex;obtain rfl:u=Value.ref a:=rx;exact ZF hu I2 g ry λs3 I3=>⟨.bl (!ov.isSome),H2,I3,rfl,q2⟩
def EH (hu:X.A.units+20<cLine)(ho:PE X o td)(hi:PE X i ty)(hv:PE X value tv)(hs:swapsWith value (some (.Subscript o i pos')) pos.line X.env=pure false) :
  PS X (.Assign [.Subscript o i pos'] value pos) (UH td ty tv):=by
 intro pins s σ H D I h
 refine wpAny_Assign_Subscript (Ao (hv pins s σ H _ I h) λr s1 hp0=>?_) hs
 obtain⟨v,H1,I1,rv,q1⟩:=hp0
 refine Ao (ho pins s1 σ H1 _ I1 q1) λu s2 hp1=>?_
 obtain⟨x,H2,I2,rx,q2⟩:=hp1
 refine Ao (hi pins s2 σ H2 _ I2 q2) λiv s3 hp2=>?_
 obtain⟨y,H3,I3,ry,a,H4,ex,g,q3⟩:=hp2
 subst ex
 obtain rfl:u=Value.ref a:=rx
 exact ZE hu I3 g ry rv λs4 I4=>⟨σ,H4,I4,q3⟩
end
def Rc (h:Heap)(hb:sysModules<h.objs.size):ObjOk P w H (h.push { cls:=.type "dict",data:=.dict #[] }) h.objs.size (.dK []):=
 ⟨Be _,F6.mpr (Dm (Bo hb)),[],.nil,Heap.DictOf.new h⟩
def Zu (h:Heap)(hb:sysModules<h.objs.size):ObjOk P w H (h.push { cls:=.type "dict",data:=.dict #[] }) h.objs.size (.dT []):=
 ⟨Be _,F6.mpr (Dm (Bo hb)),[],.nil,_,#[],0,BI _ rfl,⟨rfl,rfl,rfl⟩,rfl,rfl,nodup_nil⟩
def TC:TE:=λ_ H Q=>∀p,H p=none->Q (.ref p) (Ac H p (.dK []))
def TB:TE:=λ_ H Q=>∀p,H p=none->Q (.ref p) (Ac H p (.dT []))
section
variable {X:Cx}{pos:Pos}
def IA:PE X (.Dict [] [] pos) TC:=λpins s σ H Q I h=>wpAny_Dict_empty ⟨.ref s.heap.objs.size,_,I.laid (a:=s.heap.objs.size) (o:=.dK []) (t':=s.toks) (λ_ _ q=>Bf _ q) (AA _) (Rc s.heap I.big),rfl,h _ (I.hok.fresh (AA _))⟩
def Vr:PE X (.Dict [] [] pos) TB:=λpins s σ H Q I h=>wpAny_Dict_empty ⟨.ref s.heap.objs.size,_,I.laid (a:=s.heap.objs.size) (o:=.dT []) (t':=s.toks) (λ_ _ q=>Bf _ q) (AA _) (Zu s.heap I.big),rfl,h _ (I.hok.fresh (AA _))⟩
end
def Ma:List (TE×TE)->St->Hp->(List (V×V)->Hp->Prop)->Prop
 | [],_,H,Q=>Q [] H
 | (tk,tv)::r,σ,H,Q=>tk σ H λx H1=>tv σ H1 λy H2=>Ma r σ H2 λps H3=>Q ((x,y)::ps) H3
abbrev VV:List (V×V)->List (Value×Value)->Prop:=Paired λp q=>RelV p.1 q.1/\RelV p.2 q.2
def L5 (X:Cx)(pos:Pos)(keys:List (Option Expr))(values:List Expr)(trs:List (TE×TE)):Prop:=
 ∀(pins:List (Addr×Obj)) (s:Shared) (σ:St) (H:Hp) (Q:List (V×V)->Hp->Prop),Inv X pins σ H s->Ma trs σ H Q ->
  wpAny (model X.prog X.w) X.A (evalPairs (pairTrees keys values X.env pos)) (λvs s'=>∃ps H',Inv X pins σ H' s'/\VV ps vs/\Q ps H') X.xe s
def Ve :L5 X pos [] [] []:=λpins s σ H Q I h=>pairTrees_nil_walk ⟨[],H,I,.nil,h⟩
def Iq {k:Expr} (hk:PE X k tk)(hv:PE X v tv)(hr:L5 X pos ks vs trs) :
  L5 X pos (some k::ks) (v::vs) ((tk,tv)::trs):=λpins s σ H Q I h=>
 pairTrees_cons_walk (Ao (hk pins s σ H _ I h) λu s1 ⟨x,H1,I1,rx,q1⟩=>Ao (hv pins s1 σ H1 _ I1 q1) λw2 s2 ⟨y,H2,I2,ry,q2⟩=>Ao (hr pins s2 σ H2 _ I2 q2) λws s3 hp0=>by obtain⟨ps,H3,I3,rel,q3⟩:=hp0;exact⟨(x,y)::ps,H3,I3,.cons ⟨rx,ry⟩ rel,q3⟩)
def G7 (kvs more:List (Ag×V)):List (Ag×V):=more.foldl (λacc kv=>BW acc kv.1 kv.2) kvs
def KV.merge:∀{more:List (Ag×V)}{rs:List (Ag×Value)}{kvs:List (Ag×V)}{vs:List (Ag×Value)},KV more rs->KV kvs vs->KV (G7 kvs more) (merged vs rs):=by
 intro more rs kvs vs r;unfold KV at r;induction r generalizing kvs vs with
 | nil=>intro q;exact q
 | @cons p q ps qs h t ih=>
  intro r0;have e:KV (BW kvs p.1 p.2) (stored vs q.1 q.2):=by have:=r0.put p.1 h.2;rw[<- h.1];exact this
  exact ih e
theorem QE:∀(more kvs:List (Ag×V)),(G7 kvs more).length<=kvs.length+more.length
 | [],kvs=>by show kvs.length<=kvs.length+0;lia
 | p::r,kvs=>by have h1:=QE r (BW kvs p.1 p.2);have h2:=Jn kvs p.1 p.2;show(G7 (BW kvs p.1 p.2) r).length<=_;rw[Cp];lia
theorem RI :∀{kvs:List (Ag×V)}{ws:List (Value×Value)},VV (kvs.map λkv=>(kV kv.1,kv.2)) ws->∃rs,Carries (BS P w) ws rs/\KV kvs rs
 | [],_,r=>by rw[map_nil]at r;cases r;exact⟨[],Fu,.nil⟩
 | p::kvs,_,r=>by
  rw[Bj]at r;cases r with
  | @cons a b as bs h t=>obtain⟨rs,c,q⟩:=RI (P:=P) (w:=w) t;obtain⟨b1,b2⟩:=b;exact⟨(p.1,b2)::rs,⟨EL h.1,rfl,c⟩,.cons ⟨rfl,h.2⟩ q⟩
def Tw (trs:List (TE×TE)):TE:=λσ H Q=>∀p,H p=none->Ma trs σ (Ac H p (.dK [])) λps H2=>H2 p=some (.dK [])/\∃kvs:List (Ag×V),ps=kvs.map (λkv=>(kV kv.1,kv.2))/\kvs.length<=15/\Q (.ref p) (Ac H2 p (.dK (G7 [] kvs)))
def Vs {keys:List (Option Expr)} (h:L5 X pos keys values trs)(hall:keys.all (·.isSome)=true)(hl:keys.length=values.length)(h0:keys≠[])
  (h15:keys.length<=15):PE X (.Dict keys values pos) (Tw trs):=by
 intro pins s σ H Q I q
 have hn:=I.hok.fresh (AA s.heap.objs.size)
 have I1:=I.laid (a:=s.heap.objs.size) (o:=.dK []) (h':=s.heap.push { cls:=.type "dict",data:=.dict #[] }) (t':=s.toks) (λ_ _ q=>Bf _ q) (AA _) (Rc s.heap I.big)
 refine wpAny_Dict_walk (knd:=BS X.prog X.w) hall hl h0 h15 (Ao (h pins _ σ _ _ I1 (q _ hn)) λws s2 hp0=>?_)
 obtain⟨ps,H2,I2,rel,e,kvs,ep,lk,q2⟩:=hp0
 subst ep
 obtain⟨rs,c,rk⟩:=RI (P:=X.prog) (w:=X.w) rel
 obtain⟨z,hd,vs0,r0,dd⟩:=Hi I2.hok e
 cases r0
 refine⟨rs,c,dd,λh' dd' hs=>⟨.ref s.heap.objs.size,_,?_,rfl,q2⟩⟩
 have hz:(G7 [] kvs).length<=sizeLine:=by have h1:=QE kvs [];rw[Gd]at h1;rw[AM];lia
 have he:∃q,h'.get? s.heap.objs.size=some q:=let ⟨q,_,_,hq,_⟩:=dd';⟨q,hq⟩
 exact NX I2 (by rw[e];exact Fu) hs he (Rb hz hd (rk.merge .nil) dd')
structure M1 (X:Cx)(o:Expr)(m:Str)(apos:Pos)(e:Expr)(cpos:Pos):Prop where
 base:attributeBase o m X.env (eval o X.env)=eval o X.env
 few:((backTo cpos (starEach [e] X.env)).all (λx=>!x.1) && (backToKw cpos (keywordEach [] X.env)).all (λx=>x.1.isSome)
  && decide (([e]:List Expr).length+([]:List Keyword).length+(if ([]:List Keyword).isEmpty then 0 else 1)<30))=true
 line:(apos.endLine == cpos.line)=true
 trees:backTo cpos (starEach [e] X.env)=[(false,eval e X.env)]
end L2
namespace Att
open PySem PySem.W PySem.Calls PyProof.Rows
def YQ :∀(ns:List Int) (vs:List Value),WellAll P h vs (ns.map WData.int)->IntsAre vs ns:=by
 intro ns;induction ns with
 | nil=>intro vs w;rw[map_nil]at w;cases w;exact .nil
 | cons n ns ih=>
  intro vs w;rw[Bj]at w;cases w with
  | cons a b=>cases a;exact .cons _ _ (ih _ b)
def Uh {l:OpenLaw}{n:Nat}(hn:l.most=some n){P:Params}{h:Heap}{args:List WData}{vals:List Value}
  (hpre:l.row.toRowW.claim.pre args=true)(hwl:WellAll P h vals args) :
  ∃a vs ns,vals=[Value.ref a]/\args=[WData.list (ns.map WData.int)]/\h.get? a=some { cls:=.type "list",data:=.seq vs.toArray }/\IntsAre vs ns/\ns.length<=n:=by
 have hsh:WShape.hasAll [] args [.list .int]=true:=(pre_splitW hpre).1
 have hc:l.pre.holds [] { args:=args } = true:=(pre_splitW hpre).2
 obtain⟨d,r,rfl,h1,h2⟩:=hasAllW_cons hsh
 obtain rfl:=hasAllW_nil h2
 obtain⟨xs,rfl,h3⟩:=hasW_list h1
 obtain⟨ns,rfl⟩:=items_int h3
 have hlen:ns.length<=n:=by
  unfold OpenLaw.pre at hc;have h4:(WTm.not (.lt (.lit (.int (n:Int))) (.len (.arg 0)))).holds [] { args:=[.list (ns.map .int)] } = true:=by have h4:=(holds_andW hc).1;rw[hn]at h4;exact h4
  have h5:=condW_of h4 (w_not (w_lt w_lit (w_len_list (w_arg rfl))));rw[Ar]at h5;refine le_of_not_lt λq=>?_;have q':(n:Int)<((ns.length:Nat):Int):=by lia
  first
   | (rw[AQ q']at h5;exact absurd h5 (by decide))
   | (simp at h5;lia)
 cases hwl with
 | cons w1 w2=>
  cases w2;cases w1 with
  | list ho hall=>exact⟨_,_,ns,rfl,rfl,ho,YQ ns _ hall,hlen⟩
def Vf (l:OpenLaw)(args:List WData):l.row.toRowW.claim.post args (.bool true) args=true:=
 postW_of (r:=l.row.toRowW) (X:=(true == true))
  (show WShape.has [] (.bool true) .bool=true by first | rfl | decide | simp[WShape.has,WShape.arms,WShape.armsAll])
  (show(WTm.eq .res (.lit (.bool true))).value [] { args:=args,res:=some (.bool true),after:=args } = some (.bool (true == true)) from w_eq_bool (w_res rfl) w_lit) rfl
def attach_call {l:OpenLaw}{n:Nat}{q:Program}{loose:List Str}{XP:(Str->Option Value)->Heap->Prop}{YP:World->Heap->Prop}{d:DefRec}
  (hn:l.most=some n)(hdf:d.params.defaults=[])
  (call:∀(w:World) (s₀ s₁:Shared) (mg mb:Str->Option Value) (fa:Addr) (o:Obj) (pm cd doc:Value) (a:Addr) (vs:List Value) (ns:List Int),Ground q loose [] XP w s₀ mg mb s₁.heap->YP w s₁.heap -> s₁.heap.get? fa=some o->o.data=.func (docDef d.name d.params d.body d.scope pm cd doc)->s₁.heap.CodeRec cd d.name->mg d.name=some (.ref fa) -> s₁.heap.get? a=some { cls:=.type "list",data:=.seq vs.toArray }->IntsAre vs ns->ns.length<=n->s₁.gens=#[] -> codeAny (model l.prog w) callerA (.call (.ref fa) ⟨[.ref a],[]⟩) (λr s'=>r=.ok (.ret (.bool true))/\OldK s₁.heap s'.heap/\s'.os=s₁.os/\AllBare s'.gens) s₁) :
  WalkO q loose XP YP l.row.toRowW d [] (λf vs=>PySem.call f vs):=by
 intro w s₀ s₁ mg mb G Y fa o pm cd doc dV kV ho hd hcd hD hmg hg args vals as hpre hlay hrd hwl hlo
 obtain rfl:dV=.none:=Dflts.none hD hdf
 obtain rfl:kV=.none:=Dflts.noKw hD
 obtain⟨a,vs,ns,rfl,rfl,hobj,hints,hlen⟩:=Uh hn hpre hwl
 refine enter_call (Gh (call w s₀ s₁ mg mb fa o pm cd doc a vs ns G Y ho (fd_plain hd) hcd hmg hobj hints hlen hg) λr s' hq=>?_)
 obtain⟨rfl,h2,h3,h4⟩:=hq
 exact⟨.inl ⟨.bool true,.bool true,[],rfl,λ_=>rfl,.bool true,Vf l _,λ_=>⟨List.Pairwise.nil,λ_ hm=>(nomatch hm)⟩⟩,h2,h3,h4⟩
end Att
namespace L2
open PySem PySem.Spec PyProof.Rows
theorem O2:∀{vs:List Value}{ns:List Int},IntsAre vs ns->Vals (ns.map V.int) vs
 | _,_,.nil=>.nil
 | _,_,.cons n t h=>.cons ⟨t,rfl⟩ (O2 h)
def OU (H:Hp):Prop:=∀b,H b=none\/∃o xs,H b=some (.frz o (.lst xs))
def Yy {P:Program}{w:World}{K:W.Frag}{mg mb:Str->Option Value}{CX:C9}{k:Nat}{fa a:Addr}{fd:FuncData}{x:Str}{sp:Sp}{s₁:Shared}{vs:List Value}{ns:List Int}
  (KX:K.In s₁.heap)(hns:s₁.heap.Ns mainGlobals mg)(hb:s₁.heap.Ns builtinsNs mb)(hbb:∀x:Str,x ≠ "__name__" -> mb x=bootBuiltins x)(hlim:s₁.heap.NoLimit)(hg:s₁.gens=#[])
  (ha:s₁.heap.get? a=some { cls:=.type "list",data:=.seq vs.toArray })(hi:IntsAre vs ns)(hl:ns.length<=sizeLine)(hr:Room k callerA)
  (F:∀base:Heap,K.In base->base.Ns mainGlobals mg->FnOk P w K mg base CX k fa fd [x] sp)(hbind:∀(s:Shared) (u:Value),BindsTo s fd ⟨[u],[]⟩ [(x,u)])
  (hsp:∀H:Hp,OU H->SqL K H a (ns.map V.int)->sp [.ref a] H (λv _=>v=.bl true) λ_ _ _=>False)
  (hCX:∀H e s',CX [] H s₁ (λ_ _ _=>False) e s'->False) :
  codeAny (model P w) callerA (.call (.ref fa) ⟨[.ref a],[]⟩) (λr s'=>r=.ok (.ret (.bool true))/\OldK s₁.heap s'.heap/\s'.os=s₁.os/\AllBare s'.gens) s₁:=by
 have rv:=O2 hi
 have lenV:=hi.length
 have core:∀H:Hp,OU H->SqL K H a (ns.map V.int)->HOk P w H s₁.heap->(∀b,H b≠none->b=a)->(H a≠none->K.lookup a=none) ->
   codeAny (model P w) callerA (.call (.ref fa) ⟨[.ref a],[]⟩) (λr s'=>r=.ok (.ret (.bool true))/\OldK s₁.heap s'.heap/\s'.os=s₁.os/\AllBare s'.gens) s₁:=by
  intro H hO hS hok hA hK
  have base_of:∀{b:Addr}{o:Obj},s₁.heap.get? b=some o->H b=none->(EM s₁.heap H).get? b=some o:=λe n=>YZ e n
  have noA:∀{b:Addr}{o:Obj}{es:Array DictEntry}{ep:Nat},s₁.heap.get? b=some o->o.data=.dict es ep->H b=none:=λ{b o es ep} e d=>by
   cases q:H b with
   | none=>rfl
   | some u=>
    have e':b=a:=hA b (by rw[q];simp)
    subst e'
    rw[ha]at e;cases e
    have d':Data.seq vs.toArray _=Data.dict es ep:=d
    cases d'
  have nsK:∀{b:Addr}{m:Str->Option Value},s₁.heap.Ns b m->(EM s₁.heap H).Ns b m:=λ{b m} ⟨o,es,ep,e,d,r⟩=>⟨o,es,ep,base_of e (noA e d),d,r⟩
  have hKb:K.In (EM s₁.heap H):=λb o e=>base_of (KX b o e) (by
   cases q:H b with
   | none=>rfl
   | some u=>
    have e':b=a:=hA b (by rw[q];simp)
    subst e'
    rw[hK (by rw[q];simp)]at e;cases e)
  have hM:Mod K mg (EM s₁.heap H):=⟨hKb,nsK hns,⟨mb,nsK hb,hbb⟩,let ⟨mc,h1,h2⟩:=hlim;⟨mc,nsK h1,h2⟩⟩
  have e0:Env0 P w K mg (EM s₁.heap H) callerA [] s₁ H:=⟨rfl,hM,λb o e=>WX e,le_of_eq (YY _ _),trivial,λb hb=>absurd (show b∈([]:List Addr) from hb) (by simp),hok,.of_eq hg⟩
  refine Gh ((F _ hKb (nsK hns)).run callerA [] s₁ H ⟨[.ref a],[]⟩ [.ref a] [.ref a] _ _ hr e0 (hbind s₁ (.ref a)) (.cons rfl .nil) (hsp H hO hS)) λr s' h=>?_
  cases r with
  | error e=>exact(hCX H e s' h).elim
  | ok fl=>
   cases fl with
   | next=>exact False.elim h
   | brk=>exact False.elim h
   | cont=>exact False.elim h
   | ret u=>
    obtain⟨v,H',os,bare,un,hok',r',q⟩:=h
    have q':v=.bl true:=q
    subst q'
    obtain rfl:u=Value.bool true:=r'
    refine⟨rfl,OldK.of_keep λb o e=>?_,os,bare⟩
    cases q:H b with
    | none=>exact un.keep b o e q (by intro z;exact absurd (show b∈([]:List Addr) from z) (by simp)) (by simp)
    | some u=>
     rcases hO b with z | ⟨ob,xs,z⟩
     ·rw[q]at z;cases z
     have z2:=un.frzs b ob _ z
     obtain⟨e1,_⟩:=hok b _ z
     obtain⟨e2,_⟩:=hok' b _ z2
     rw[e]at e1;cases e1
     exact e2
 cases hk:K.lookup a with
 | some o=>have e:=KX a o hk;rw[ha]at e;cases e;refine core (λ_=>none) (λ_=>.inl rfl) (.inr ⟨_,vs.toArray,_,hk,rfl,rfl,rfl,by rw[BH,lenV];exact hl,by simpa using rv⟩) (λb u z=>by have z':(none:Option HO)=some u:=z;cases z') (λb z=>absurd rfl z) λz=>absurd rfl z
 | none=>
  refine core (λb=>if b=a then some (.frz { cls:=.type "list",data:=.seq vs.toArray } (.lst (ns.map V.int)))else none) (λb=>?_) (.inl (.inr ⟨{ cls:=.type "list",data:=.seq vs.toArray },As rfl⟩)) (λb u z=>?_) (λb z=>?_) λ_=>hk
  ·by_cases hb:b=a
   ·exact .inr ⟨_,_,As hb⟩
   exact .inl (Ai hb)
  ·by_cases hb:b=a
   ·have z':=(As hb).symm.trans z;cases z';subst hb;exact⟨ha,by rw[Ar];exact hl,vs,_,rv,ha⟩
   have z':=(Ai hb).symm.trans z;cases z'
  by_cases hb:b=a
  ·exact hb
  exact absurd (Ai hb) z
def walk_of {l:PySem.W.OpenLaw}{n k:Nat}{q:Program}{loose:List Str}{XP:(Str->Option Value)->Heap->Prop}{YP:World->Heap->Prop}{d:DefRec}{K:Params->W.Frag}{CX:World->C9}{sp:World->Sp}{x:Str}
  (hn:l.most=some n)(hn2:n<=sizeLine)(hdf:d.params.defaults=[])(hr:Room k callerA)
  (hY:∀(w:World) (h:Heap),YP w h->(K w.params).In h)
  (F:∀(w:World) (mg:Str->Option Value) (fa:Addr) (h:Heap),(K w.params).In h->h.Ns mainGlobals mg->mg d.name=some (.ref fa) -> ∃fd:FuncData,(∀(s:Shared) (u:Value),BindsTo s fd ⟨[u],[]⟩ [(x,u)]) /\ ∀base:Heap,(K w.params).In base->base.Ns mainGlobals mg->FnOk l.prog w (K w.params) mg base (CX w) k fa fd [x] (sp w))
  (hsp:∀(w:World) (H:Hp) (a:Addr) (ns:List Int),ns.length<=n->OU H->SqL (K w.params) H a (ns.map V.int)->sp w [.ref a] H (λv _=>v=.bl true) λ_ _ _=>False)
  (hCX:∀(w:World) (H:Hp) (s:Shared) (e:Value) (s':Shared),CX w [] H s (λ_ _ _=>False) e s'->False) :
  PySem.W.WalkO q loose XP YP l.row.toRowW d [] (λf vs=>PySem.call f vs):=by
 refine Att.attach_call hn hdf λw s₀ s₁ mg mb fa o pm cd doc a vs ns G Y ho hd hcd hmg hobj hints hlen hg=>?_
 have KX:=hY w _ Y
 obtain⟨fd,hb,hF⟩:=F w mg fa _ KX G.T.g hmg
 exact Yy KX G.T.g G.T.b G.T.builtins G.T.nolimit hg hobj hints (EB hlen hn2) hr hF hb (λH hO hS=>hsp w H a ns hlen hO hS) λH e s'=>hCX w H s₁ e s'
def Fj (s:Stmt)(j:Nat):Stmt:=match s with
 | .ClassDef _ _ _ body _ _ _ _ _ _ _=>body.getD j (.Pass ⟨0,0,0,0⟩)
 | _=>.Pass ⟨0,0,0,0⟩
def Es (s:Stmt):Arguments:=match s with
 | .FunctionDef _ a _ _ _ _ _ _ _ _=>a
 | _=>{ posonlyargs:=[],args:=[],vararg:=none,kwonlyargs:=[],kw_defaults:=[],kwarg:=none,defaults:=[] }
def Cm (s:Stmt):List Stmt:=match s with
 | .FunctionDef _ _ b _ _ _ _ _ _ _=>b
 | _=>[]
def Aq (s:Stmt):Scope:=match s with
 | .FunctionDef _ _ _ _ _ _ sc _ _ _=>sc
 | _=>{ kind:=.function,names:=[],isGenerator:=false,isCoroutine:=false }
abbrev CX0:C9:=λ_ _ _ _ _ _=>False
abbrev E0:XK:=λ_ _ _=>False
def Au :C1 CX0 X E0:=λ_ _ _ _ _ _ _ h=>h.elim
structure Fun (K:W.Frag)(x qual:Str)(st:Stmt)(f:Addr)(fd:FuncData):Prop where
 ex:∃(oc:Value) (od:Option Addr) (kV doc pm:Value) (an:Option Addr) (cdv ct:Value) (osl:Array (Option Value)),
  fd=PySem.W.fnOf x qual (Es st) (Cm st) (Aq st) .none kV doc pm an cdv ct/\K.lookup f=some ⟨oc,od,.func fd,osl⟩/\PySem.W.codeIn K cdv qual=true
 kp:PySem.W.keepIn K (.ref f)=true
section
variable {P:Program}{w:World}{K:W.Frag}{mg:Str->Option Value}{base:Heap}
def Fun.ok {x qual:Str}{st:Stmt}{f:Addr}{fd:FuncData}{N ps:List Str}{k:Nat}{sp:Sp}(F:Fun K x qual st f fd)(S:AF N ps (Aq st))(len:∀vs H Q E,sp vs H Q E->vs.length=ps.length)
  (hbody:∀(cdv:Value) (A:Around) (outer:List Env) (s:Shared) (H:Hp) (vs:List V) (Q:VK) (E:XK),Room k (A.deeper (envOfC qual (Aq st) s.heap.objs.size f cdv))->sp vs H Q E -> ∃t,PSs (Cn CX0 P w K mg base N qual (Aq st) f cdv A outer s H E).nox (Cm st) t/\t { nx:=λ_ H'=>Q .non H',rt:=Q } (start N vs) H):FnOk P w K mg base CX0 (k+1) f fd ps sp:=by
 obtain⟨oc,od,kV,doc,pm,an,cdv,ct,osl,rfl,lk,hcd⟩:=F.ex
 refine Q0 lk hcd S len λA outer s H vs Q E hr hsp=>?_
 obtain⟨t,h,q⟩:=hbody cdv A outer s H vs Q E hr hsp
 exact⟨t,h.nox,q⟩
def Fun.binds {x qual:Str}{st:Stmt}{f:Addr}{fd:FuncData}{ps:List Str}(F:Fun K x qual st f fd)
  (h:∀(kV doc pm:Value) (an:Option Addr) (cdv ct:Value) (us:List Value),us.length=ps.length->bindArgs (PySem.W.fnOf x qual (Es st) (Cm st) (Aq st) .none kV doc pm an cdv ct) ⟨us,[]⟩=pure (ps.zip us)):Binds K fd ps []:=by
 obtain⟨oc,od,kV,doc,pm,an,cdv,ct,osl,rfl,lk,hcd⟩:=F.ex
 exact .all (h kV doc pm an cdv ct)
def DS {x qual:Str}{st:Stmt}{f:Addr}{oc:Value}{od an:Option Addr}{osl:Array (Option Value)}{kV doc pm cdv ct:Value}(l:K.lookup f=some ⟨oc,od,.func (PySem.W.fnOf x qual (Es st) (Cm st) (Aq st) .none kV doc pm an cdv ct),osl⟩)
  (c:PySem.W.codeIn K cdv qual=true)(k:PySem.W.keepIn K (.ref f)=true):Fun K x qual st f (PySem.W.fnOf x qual (Es st) (Cm st) (Aq st) .none kV doc pm an cdv ct):=⟨⟨oc,od,kV,doc,pm,an,cdv,ct,osl,rfl,l,c⟩,k⟩
end
def Dw {k:Nat}(hr:Room k A):A.units+20<cLine:=lt_of_le_of_lt (Nat.add_le_add_left (by decide:20<=64) _) hr.units
section
variable {X:Cx}
def pv (i:Nat) (hN:X.N[i]? = some x:=by rfl)(hv:OP X.env.scope x:=by first | exact Or.inl rfl | exact EZ (Or.inl rfl) | exact EZ (EZ rfl))(hd:(x == ("__debug__" : Str))=false:=by decide)
  (hcd:(x == ("__classdict__" : Str))=false:=by decide):PE X (.Name x pos) (L9 i):=Vn hN hv hd hcd
def Lj:Cw X (.builtin "len") (λxs H Q=>∃a kvs,xs=[V.ref a]/\H a=some (.dK kvs)/\Q (.int kvs.length) H):=by intro pins s σ H xs us Q I r h;obtain⟨a,kvs,rfl,ha,q⟩:=h;obtain⟨u,rfl,ru⟩:=Da r;cases ru;exact ZG I (.inl ha) λt s' I'=>⟨.int kvs.length,H,I',⟨t,rfl⟩,q⟩
end
def Bc {A B:Prop}(h:B):if false=true then A else B:=by rw[Ai Br];exact h
def AS {A B:Prop}(h:A):if true=true then A else B:=by rw[As rfl];exact h
def A4 {c A B:Prop}[Decidable c](h1:c->A)(h2:¬c->B):if c then A else B:=by
 by_cases h:c
 ·rw[As h];exact h1 h
 rw[Ai h];exact h2 h
def Same (H H':Hp):Prop:=∀b o,H b=some o->H' b=some o
def Same.refl (H:Hp):Same H H:=λ_ _ h=>h
def Same.trans (a:Same H H1)(b:Same H1 H2):Same H H2:=λc o h=>b c o (a c o h)
def Same.free (e:Same H H') (h:H' l=Option.none):H l=Option.none:=by
 cases q:H l with
 | none=>rfl
 | some o=>rw[e l o q]at h;cases h
def Same.seq {K:W.Frag}{H H':Hp}{a:Addr}{xs:List V}(e:Same H H')(h:SqL K H a xs):SqL K H' a xs:=by
 rcases h with(h | ⟨o,h⟩) | h
 ·exact .inl (.inl (e _ _ h))
 ·exact .inl (.inr ⟨o,e _ _ h⟩)
 exact .inr h
section
variable {κ:Type} [DecidableEq κ]
def SF {k:κ} (h:Aw kvs k=some v):k∈kvs.map (·.1):=by
 have q:(kvs.any λkv=>decide (kv.1=k))=true:=by rw[E3,h];all_goals rfl
 obtain⟨p,hp,e⟩:=JK.mp q;exact B0.mpr ⟨p,hp,Bg e⟩
end
def BX (cells:List (Str×Addr)):List (Str×NameKind)->List (Str×Addr)->List (Str×Addr)
 | [],cs=>cs
 | (n,k)::r,cs=>BX cells r (if k == NameKind.free then(n,(cells.lookup n).getD 0)::cs else cs)
theorem RD :∀(ns:List (Str×NameKind)) (cs:List (Str×Addr)),(∀y∈ns,y.2=NameKind.free->(env.cells.lookup y.1).isSome=true) ->
  (forIn ns cs λ(p:Str×NameKind) (r:List (Str×Addr))=>if (p.2 == NameKind.free)=true then(do let a <- cellOf env p.1;pure (ForInStep.yield ((p.1,a)::r)):Sem _)else pure (ForInStep.yield r))=(pure (BX env.cells ns cs):Sem _)
 | [],cs,_=>by simp[BX]
 | (n,k)::r,cs,h=>by
  have ih:=λcs'=>RD r cs' λy hy=>h y (AR _ hy);rw[List.forIn_cons];by_cases hk:k=NameKind.free
  ·subst hk;have hs:=h (n,NameKind.free) AZ rfl;cases e:env.cells.lookup n with
   | none=>rw[e]at hs;cases hs
   | some c=>
    have e1:cellOf env n=pure c:=by unfold cellOf;rw[e]
    have e2:BX env.cells ((n,NameKind.free)::r) cs=BX env.cells r ((n,c)::cs):=by simp[BX,e]
    rw[e2,<- ih ((n,c)::cs)];(simp only[HF,EA]);rw[e1];rfl
  have hb:(k == NameKind.free)=false:=by simpa using hk
  have e2:BX env.cells ((n,k)::r) cs=BX env.cells r cs:=by simp[BX,hb]
  rw[e2,<- ih cs];(simp only[hb,Gi,DB]);rfl
def Li (h:∀y∈scope.names,y.2=NameKind.free->(env.cells.lookup y.1).isSome=true):closureFor scope env=pure (BX env.cells scope.names []):=by have e:=RD (env:=env) scope.names [] h;unfold closureFor;simp only[bind_pure];exact e
theorem RB :∀{ns:List (Str×NameKind)}{cs:List (Str×Addr)},(∀y∈ns,y.2=NameKind.free->(cells.lookup y.1).isSome=true)->(cs.lookup x=some c->cells.lookup x=some c) ->
  (BX cells ns cs).lookup x=some c->cells.lookup x=some c
 | [],_,_,h,e=>h e
 | (n,k)::r,cs,hn,h,e=>by
  refine RB (ns:=r) (λy hy=>hn y (AR _ hy)) ?_ e;by_cases hk:k=NameKind.free
  ·subst hk;(simp only[HF,EA]);intro q;rw[Fx]at q;by_cases hx:x=n
   ·subst hx;have hs:=hn (x,NameKind.free) AZ rfl;simp only[HF]at q;cases e1:cells.lookup x with
    | none=>rw[e1]at hs;cases hs
    | some d=>rw[e1]at q;exact q
   have hb:(x == n)=false:=by simpa using hx
   rw[hb]at q;exact h q
  have hb:(k == NameKind.free)=false:=by simpa using hk
  (simp only[hb,Gi,DB]);exact h
theorem RC :∀{ns:List (Str×NameKind)}{cs:List (Str×Addr)},(cs.lookup x).isSome=true->((BX cells ns cs).lookup x).isSome=true
 | [],_,h=>h
 | (n,k)::r,cs,h=>by
  refine RC (ns:=r) ?_;split
  ·rw[Fx];split
   ·rfl
   exact h
  exact h
theorem N2 :∀{ns:List (Str×NameKind)}{cs:List (Str×Addr)},(x,NameKind.free)∈ns->((BX cells ns cs).lookup x).isSome=true
 | [],_,h=>nomatch h
 | (n,k)::r,cs,h=>by
  rcases(AD.mp h)with e | e
  ·cases e;refine RC (ns:=r) ?_;simp
  exact N2 (ns:=r) e
theorem KW {env:Env}{x:Str}{k:NameKind}:∀{ns:List (Str×NameKind)},(∀y∈ns,y.2≠NameKind.cell)->k=NameKind.cell\/k=NameKind.free ->
  (ns.map λ(p:Str×NameKind)=>if (p.2 == NameKind.free && env.scope.kind == .function && env.kindOf p.1 == some .cell)then(p.1,NameKind.cell)else(p.1,p.2)).lookup x=some k->(x,NameKind.free)∈ns
 | [],_,_,e=>by simp at e
 | (n,j)::r,hn,hk,e=>by
  rw[Bj]at e;by_cases hx:x=n
  ·subst hx
   have hj:j=NameKind.free:=by
    by_cases hc:(j == NameKind.free && env.scope.kind == .function && env.kindOf x == some .cell)=true
    ·simp only[Ce,Fv]at hc;exact hc.1.1
    simp only[hc]at e;simp at e;subst e;rcases hk with q | q
    ·exact absurd q (hn (x,j) AZ)
    exact q
   subst hj;exact AZ
  refine AR _ (KW (env:=env) (λy hy=>hn y (AR _ hy)) hk ?_);by_cases hc:(j == NameKind.free && env.scope.kind == .function && env.kindOf n == some .cell)=true
  ·simp only[hc,EA]at e;rw[Fx]at e;have hb:(x == n)=false:=by simpa using hx
   rw[hb]at e;exact e
  simp only[hc]at e;simp at e;rw[Fx]at e;have hb:(x == n)=false:=by simpa using hx
  rw[hb]at e;simpa using e
def Cb (X:Cx)(N:List Str)(scope:Scope)(C:Addr)(s:Shared)(H:Hp)(fp:List Addr):Cx where
 prog:=X.prog
 w:=X.w
 K:=X.K
 mg:=X.mg
 base:=X.base
 A:=X.A
 N:=N
 s₀:=s
 H₀:=H
 env:=compEnvC scope (BX X.env.cells scope.names []) C X.env
 outer:=X.stack
 stack:=X.stack
 ex:=fp
 fn:=λ_=>false
 calm:=X.calm
 pn:=[]
 xe:=λ_ _=>False
def Dh (n:Nat)(js:List Nat)(σ:St):St:=replicate n none++js.map λj=>(σ[j]?).getD none
structure LcOk (X:Cx)(N:List Str)(sc scope:Scope)(own:List Str)(fr:List Str)(js:List Nat):Prop where
 around:X.env.scope=sc
 names:N=own++fr
 kind:scope.kind=.function
 okind:sc.kind=.function
 nocell:∀y∈scope.names,y.2≠NameKind.cell
 free:∀y∈scope.names,y.2=NameKind.free->sc.names.lookup y.1=some NameKind.cell
 loc:∀y∈scope.names,y.2=NameKind.local->scope.names.lookup y.1=some NameKind.local
 at':js.map (λj=>X.N[j]?)=fr.map some
 cap:∀x∈fr,sc.names.lookup x=some NameKind.cell/\scope.names.lookup x=some NameKind.free
theorem PQ {env:Env}{x:Str}(hk:env.scope.kind=.function)(hx:env.kindOf x=some NameKind.cell):∀{ns:List (Str×NameKind)},ns.lookup x=some NameKind.free ->
  (ns.map λ(p:Str×NameKind)=>if (p.2 == NameKind.free && env.scope.kind == .function && env.kindOf p.1 == some .cell)then(p.1,NameKind.cell)else(p.1,p.2)).lookup x=some NameKind.cell
 | [],e=>by simp at e
 | (n,j)::r,e=>by
  rw[Bj];rw[Fx]at e;by_cases hn:x=n
  ·subst hn;simp only[HF]at e;cases e;have hc:(NameKind.free == NameKind.free && env.scope.kind == .function && env.kindOf x == some .cell)=true:=by rw[hk,hx];rfl
   simp only[hc,EA];rw[Fx];simp
  have hb:(x == n)=false:=by simpa using hn
  rw[hb]at e;have ih:=PQ hk hx (ns:=r) e;by_cases hc:(j == NameKind.free && env.scope.kind == .function && env.kindOf n == some .cell)=true
  ·simp only[hc,EA];rw[Fx,hb];exact ih
  rw[Ai hc,Fx,hb];exact ih
def LcOk.cellAt (L:LcOk X N sc scope own fr js)(ok:X.Ok):∀y∈scope.names,y.2=NameKind.free->(X.env.cells.lookup y.1).isSome=true:=λy hy hf=>by obtain⟨c,e⟩:=ok.has y.1 (.inl (show X.env.scope.names.lookup y.1=_ by rw[L.around];exact L.free y hy hf));rw[e];rfl
def LcOk.sub (L:LcOk X N sc scope own fr js)(ok:X.Ok) (e:(BX X.env.cells scope.names []).lookup x=some c):X.env.cells.lookup x=some c:=
 RB (L.cellAt ok) (λz=>by simp at z) e
def LcOk.len (L:LcOk X N sc scope own fr js):js.length=fr.length:=by have:=BB List.length L.at';simpa using this
theorem Yw (L:LcOk X N sc scope own fr js)(I:Inv X pins σ H s)(hf:∀b∈fp,CS X pins H b)
  (ho:∀b∈fp,b<s.heap.objs.size) (hC:s.heap.objs.size<=C):(Cb X N scope C s H fp).Ok where
 mod:=I.mod
 kind:=L.kind
 glob:=I.ok.glob
 blt:=I.ok.blt
 above:=hC
 inj:=λx y c e1 e2=>I.ok.inj x y c (L.sub I.ok e1) (L.sub I.ok e2)
 has:=λx hx=>by
  have hm:(x,NameKind.free)∈scope.names:=by
   rcases hx with q | q
   ·exact KW L.nocell (.inl rfl) q
   exact KW L.nocell (.inr rfl) q
  have:=N2 (cells:=X.env.cells) (cs:=[]) hm;cases e:(BX X.env.cells scope.names []).lookup x with
  | none=>rw[e]at this;cases this
  | some c=>exact⟨c,e⟩
 cab:=λ_ _ z _=>nomatch z
 hd:=I.ok.hd
 frames:=I.ok.frames
 stk:=.inl rfl
 exf:=λb hb=>⟨Bo (Cf (ho b hb) hC),λx c e=>(hf b hb).2.2.2.2.1 x c (L.sub I.ok e)⟩
 bs:=I.bs
 bsz:=EB I.ok.bsz I.sz
 noex:=λb o e hb=>by
  rcases(hf b hb).2.2.2.1 with q | q
  ·exact I.ok.noex b o e q
  exact absurd (Cf (A3 (I.ok.bs b o e).1) q) (EC _)
 exfs:=λb hb hs=>by
  rcases AD.mp (I.stkSub b hs)with q | q
  ·exact(hf b hb).2.1 q
  exact(hf b hb).2.2.1 q
 funs:=I.stack
 frf:=I.stkFree
def getD_none (h:o.getD none=some v):o=some (some v):=by
 cases o with
 | none=>cases h
 | some u=>cases u with
  | none=>cases h
  | some w=>cases h;rfl
def ZR (e:(Dh n js σ)[i]? = some (some v)):∃k j,i=n+k/\js[k]? = some j/\σ[j]? = some (some v):=by
 unfold Dh at e;by_cases hi:i<n
 ·rw[EW (by simpa using hi)]at e;rw[LJ]at e;split at e <;> cases e
 rw[Ga (by simpa using hi)]at e;simp only[Ex,A6]at e;cases q:js[i-n]? with
 | none=>rw[q]at e;cases e
 | some j=>rw[q]at e;exact⟨i-n,j,by lia,q,getD_none (Bx e)⟩
def QF (L:LcOk X N sc scope own fr js)(I:Inv X pins σ H s)(hf:∀b∈fp,CS X pins H b)
  (ho:∀b∈fp,b<s.heap.objs.size) (hn:h'.Ns (s.heap.objs.size+1) m)(hk:∀b o,s.heap.get? b=some o->h'.get? b=some o)
  (hl:h'.get? s.heap.objs.size=some { cls:=.type "list",data:=.seq ([]:List Value).toArray }) :
  Inv (Cb X N scope (s.heap.objs.size+1) s H fp) [] (Dh own.length js σ) (Ac H s.heap.objs.size (.lst [])) { s with heap:=h',toks:=tk }:=by
 have fresh:∀a,s.heap.objs.size<=a->H a=none:=λa ha=>I.hok.fresh ha
 have cellAt:∀x c,(BX X.env.cells scope.names []).lookup x=some c->∃v,s.heap.IsCell c v:=λx c e=>I.cell x c (L.sub I.ok e)
 refine⟨Yw L I hf ho (Ft _),rfl,I.bare,Un.laid hk (AA _) (fresh _ (AA _)),⟨m,hn,λi x v e1 e2 e3=>?_⟩,λx c e=>?_,?_,λx c e=>?_,λp hp=>?_,I.hok.laid hk (AA _) ?_,?_⟩
 ·obtain⟨k,j,rfl,hj,hv⟩:=ZR e2;have hN:(own++fr)[own.length+k]? = some x:=by have e1':N[own.length+k]? = some x:=e1;rw[L.names]at e1';exact e1'
  rw[Ga (by lia),Nat.add_sub_cancel_left]at hN;have hx:x∈fr:=BE hN;have hjx:X.N[j]? = some x:=by have:=BB (λl=>l[k]?) L.at';simp only[A6,hj,hN,map_some]at this;exact Bx this
  obtain⟨kc',kr'⟩:=L.cap x hx;have kc:X.env.kindOf x=some NameKind.cell:=by show X.env.scope.names.lookup x=_;rw[L.around];exact kc'
  have kr:(relabel scope X.env).names.lookup x=some NameKind.cell:=PQ (by rw[L.around];exact L.okind) kc kr';obtain⟨m0,_,hl0⟩:=I.loc;obtain⟨u,r,l⟩:=hl0 j x v hjx hv (.inr (.inl kc));refine⟨u,r,.inr ⟨.inl kr,?_⟩⟩;rcases l with⟨kk,_⟩ | ⟨_,c,hc,z⟩
  ·rw[kc]at kk;cases kk
  have hs:((BX X.env.cells scope.names []).lookup x).isSome=true:=N2 (KW L.nocell (.inl rfl) kr);cases e:(BX X.env.cells scope.names []).lookup x with
  | none=>rw[e]at hs;cases hs
  | some d=>have ed:=L.sub I.ok e;rw[hc]at ed;cases ed;obtain⟨o,ho',hd⟩:=z;exact⟨c,e,o,hk c o ho',hd⟩
 ·obtain⟨v,o,ho',hd⟩:=cellAt x c e;exact⟨v,o,hk c o ho',hd⟩
 ·show Ac H s.heap.objs.size _ (s.heap.objs.size+1)=none;rw[Aj (Nat.succ_ne_self _)];exact fresh _ (Ft _)
 ·obtain⟨v,o,ho',hd⟩:=cellAt x c e;rw[Aj (Bo (A3 ho'))];exact I.freeC x c (L.sub I.ok e)
 ·exact nomatch hp
 ·exact⟨Be _,[],0,.nil,hl⟩
 show(Dh own.length js σ).length=N.length
 rw[L.names]
 simp[Dh,L.len]
def Fz (X:Cx)(ifs:List Expr)(t:TT):Prop:=
 ∀(pins:List (Addr×Obj)) (s:Shared) (σ:St) (H:Hp) (Q:Bool->Hp->Prop),Inv X pins σ H s->t σ H Q ->
  wpAny (model X.prog X.w) X.A (forIn ifs true λc r=>if r=true then do let ok <- isTrue c X.env (eval c X.env);pure (ForInStep.yield ok)else pure (ForInStep.yield r)) (TP X pins σ Q) X.xe s
def Pb:TT:=λ_ H Q=>Q true H
def Ct :Fz X [] Pb:=λ_ _ _ H _ I h=>wpAny_tests_nil ⟨H,I,h⟩
def Vj {t:TT}(h:PT X c t):Fz X [c] t:=λpins s σ H Q I q=>wpAny_tests_one (h pins s σ H Q I q)
def Yv (J:Nat->Shared->Prop)
  (turn:∀n s,J n s->wpAny (model prog w) A (pyNext it) (λr s1=>match r with
   | none=>R (.ok .next) s1
   | some v=>wpAny (model prog w) A (letOwnedTupleGo tg it v) (λ_ s2=>wpAny (model prog w) A (assign tg env v) (λ_ s3=>
     wpAny (model prog w) A (forIn ifs true λc r=>if r=true then do let ok <- isTrue c env (eval c env);pure (ForInStep.yield ok)else pure (ForInStep.yield r)) (λok s4=>
      if ok=true then wpAny (model prog w) A (eval elt env) (λx s5=>wpAny (model prog w) A (call (.builtin "list.append") [acc,x]) (λ_ s6=>∃m,m<n/\J m s6) (λ_ _=>False) s5) (λ_ _=>False) s4
      else ∃m,m<n/\J m s4) (λ_ _=>False) s3) (λ_ _=>False) s2) (λ_ _=>False) s1) (λ_ _=>False) s)
  (n:Nat)(h:J n s):codeAny (model prog w) A (.compLoop (.ListComp elt [⟨tg,iter,ifs,0⟩] scope pos) 0 it acc env) R s:=by
 refine codeAny_loop rfl J (λn s hJ=>?_) n h
 show wpAny _ A ((compTurn (.ListComp elt [⟨tg,iter,ifs,0⟩] scope pos) 0 it acc env).onRaise (λx=>do noteFrame x env;theTreesLotGoes x)) _ _ s
 refine wpAny_noted ?_
 rw[compTurn_list]
 refine Ae (JP (Ae (BL (turn n s hJ) (λr s1 h1=>?_) λ_ _ f=>f.elim)))
 cases r with
 | none=>exact An h1
 | some v=>
  refine Ae (BL h1 (λ_ s2 h2=>Ae (BL h2 (λ_ s3 h3=>Ae (BL h3 (λok s4 h4=>?_) λ_ _ f=>f.elim)) λ_ _ f=>f.elim)) λ_ _ f=>f.elim);cases ok with
  | false=>exact An ⟨rfl,h4⟩
  | true=>exact Ae (Ae (BL h4 (λx s5 h5=>Ae (BL h5 (λ_ s6 h6=>An (An ⟨rfl,h6⟩)) λ_ _ f=>f.elim)) λ_ _ f=>f.elim))
def HQ (J:It)(D:Addr)(σ0:St)(g:TG)(tc:TT)(te:TE)(fin:Hp->Prop)(W:Nat->Nat->List V->Hp->Prop):Prop:=
 ∀i m ys H,W i m ys H->(J.stop i H/\fin H)\/(J.go i H/\∃N:List V->Hp->Prop,(∀ys' H',N ys' H'->∃m',m'<m/\W (i+1) m' ys' H') /\ ∀x H1,J.yld i H x H1->g x σ0 H1 λσ2 H2=>(σ2.length=σ0.length/\∀(i:Nat) v,σ0[i]? = some (some v)->σ2[i]? = some (some v)) /\ tc σ2 H2 λb H3=>if b=true then te σ2 H3 λy H4=>∃zs,H4 D=some (.lst zs)/\zs.length<sizeLine/\N (zs++[y]) (Ac H4 D (.lst (zs++[y])))else N ys H3)
def QH {X:Cx}{N:List Str}{sc scope:Scope}{own fr:List Str}{js:List Nat}{pins:List (Addr×Obj)}{σ:St}{H:Hp}{s:Shared}{fp:List Addr}{tg iter elt:Expr}{ifs:List Expr}{pos:Pos}{J:It}{it:Addr}{tn:Nat->Heap->Prop}
  {g:TG}{tc:TT}{te:TE}{RR:Value->Addr->Result->Shared->Prop}{E:Value->Shared->Prop}{fin:Addr->Hp->Prop}
  (L:LcOk X N sc scope own fr js)(hc:X.calm=true)(I:Inv X pins σ H s)(T:Gn X.prog X.w X.K tg J fp it tn)(st:tn 0 s.heap)(hf:∀b∈fp,CS X pins H b)
  (hg:∀C s H fp,PG (Cb X N scope C s H fp) tg g)(hi:∀C s H fp,Fz (Cb X N scope C s H fp) ifs tc)(he:∀C s H fp,PE (Cb X N scope C s H fp) elt te)
  (h:∀D,H D=none->∃W:Nat->Nat->List V->Hp->Prop,(∃m,W 0 m [] (Ac H D (.lst [])))/\HQ J D (Dh own.length js σ) g tc te (fin D) W)
  (hRR:∀D C s' H',(∃m,s'.heap.Ns C m)->Inv X pins σ H' s'->CS X pins H' C->fin D H'->RR (.ref D) C (.ok .next) s') :
  wpAny (model X.prog X.w) X.A (newList []) (λacc s3=>wpAny (model X.prog X.w) X.A (newFunctionEnv scope X.env.globals (BX X.env.cells scope.names []) [] X.env.qual none .none (some X.env)) (λcenv s4=>codeAny (model X.prog X.w) X.A (.compStart (.ListComp elt [⟨tg,iter,ifs,0⟩] scope pos) 0 (.ref it) acc { cenv with scope:=relabel scope X.env }) (RR acc cenv.locals) s4) E s3) E s:=by
 have hlt:∀b∈fp,b<s.heap.objs.size:=λb hb=>by obtain⟨o,e,_⟩:=T.obj 0 _ st b hb;exact A3 e
 refine C5 (wpAny_newFunctionEnv L.nocell (λ_ z=>nomatch z) (λh1 n1 b1=>?_) L.kind)
 dsimp only at n1 b1 ⊢
 have hsz:(s.heap.push { cls:=.type "list",dict:=none,data:=.seq ([]:List Value).toArray }).objs.size=s.heap.objs.size+1:=JS ..
 rw[hsz]at n1 b1
 rw[hsz]
 have kept:∀b o,s.heap.get? b=some o->h1.get? b=some o:=λb o e=>b1.extBut b o (Bo (HA (A3 e))) (Bf _ (Bf _ e))
 have isl:h1.get? s.heap.objs.size=some { cls:=.type "list",data:=.seq ([]:List Value).toArray }:=b1.extBut _ _ (Bo (JM _)) (Bf _ (BI _ rfl))
 have IY:=QF (tk:=s.toks+([]:List (Str×Value)).length) L I hf hlt n1 kept isl
 have fresh:H s.heap.objs.size=none:=I.hok.fresh (AA _)
 obtain⟨W,⟨m0,w0⟩,turn⟩:=h s.heap.objs.size fresh
 have stat:∀{H':Hp},(∀b∈fp,H' b=none)->∀b∈fp,CS (Cb X N scope (s.heap.objs.size+1) s H fp) [] H' b:=λhn b hb=>
  ⟨hn b hb,Bo (HA (hlt b hb)),λz=>by
   rcases AD.mp (I.stkSub b z)with q | q
   ·exact(hf b hb).2.1 q
   exact(hf b hb).2.2.1 q,.inl hb,λx c e=>(hf b hb).2.2.2.2.1 x c (L.sub I.ok e),λ_ z=>nomatch z⟩
 have st1:tn 0 h1:=T.keep 0 _ _ st λb _ o e=>kept b o e
 have loop:∀s2:Shared,s2={ s with heap:=h1,toks:=s.toks+([]:List (Str×Value)).length } ->
   codeAny (model X.prog X.w) X.A (.compLoop (.ListComp elt [⟨tg,iter,ifs,0⟩] scope pos) 0 (.ref it) (.ref s.heap.objs.size) (Cb X N scope (s.heap.objs.size+1) s H fp).env) (RR (.ref s.heap.objs.size) (s.heap.objs.size+1)) s2:=by
  rintro s2 rfl
  refine Yv (λn s'=>∃i ys H',Inv (Cb X N scope (s.heap.objs.size+1) s H fp) [] (Dh own.length js σ) H' s'/\tn i s'.heap/\(∀b∈fp,H' b=none)/\W i n ys H') ?_ m0
   ⟨0,[],_,IY,st1,λb hb=>by rw[Aj (Bo (hlt b hb))];exact(hf b hb).1,w0⟩
  rintro n s3 ⟨i,ys,H3,I3,st3,fr3,w3⟩
  rcases turn i n ys H3 w3 with⟨stop,qn⟩ | ⟨go,Nx,hN,step⟩
  ·refine Ao (T.done (Cb X N scope (s.heap.objs.size+1) s H fp) rfl rfl rfl hc i [] s3 _ H3 _ I3 (stat fr3) st3 stop) λr s4 hp0=>?_
   obtain⟨hr,I4⟩:=hp0
   subst hr
   have IX:Inv X pins σ H3 s4:=I.call' (ch:=fp) I4.os I4.base I4.hok I4.bare λb hb=>⟨(hf b hb).2.2.2.1,(hf b hb).2.1,(hf b hb).2.2.2.2.1,(hf b hb).2.2.2.2.2⟩
   obtain⟨m,hm,_⟩:=I4.loc
   exact hRR _ _ s4 H3 ⟨m,hm⟩ IX (I.fpOk (Ft _) I4.free) qn
  refine Ao (T.item (Cb X N scope (s.heap.objs.size+1) s H fp) rfl rfl rfl hc i [] s3 _ H3 _ I3 (stat fr3) st3 go) λr s4 hp0=>?_
  obtain⟨u,hr,h4⟩:=hp0
  subst hr
  refine Ao h4 λ_ s5 hp0=>?_
  obtain⟨x,H5,I5,r5,y5,st5,fr5⟩:=hp0
  have I5':=I5.pinned (stat fr5) (T.obj _ _ st5)
  refine Ao (hg _ _ _ _ _ s5 _ H5 x u _ I5' r5 (step x H5 y5)) λ_ s6 hp0=>?_
  obtain⟨σ6,H6,I6,⟨hl6,hs6⟩,q6⟩:=hp0
  have next:∀{s7:Shared}{H7:Hp}{zs:List V},Inv (Cb X N scope (s.heap.objs.size+1) s H fp) ([]++GG fp s5.heap) σ6 H7 s7->Nx zs H7 ->
    ∃m,m<n/\∃i ys H',Inv (Cb X N scope (s.heap.objs.size+1) s H fp) [] (Dh own.length js σ) H' s7/\tn i s7.heap/\(∀b∈fp,H' b=none)/\W i m ys H':=λ{s7 H7 zs} I7 n7=>by
   obtain⟨m',hm,w7⟩:=hN zs H7 n7
   refine⟨m',hm,i+1,zs,H7,I7.unpinned.weak hl6.symm hs6,T.keep _ _ _ st5 λb hb o e=>(I7.pin (b,o) (CQ _ (CQ _ (G8 hb e)))).1,λb hb=>?_,w7⟩
   obtain⟨o,e,d⟩:=T.obj _ _ st5 b hb
   exact(I7.pin (b,o) (CQ _ (CQ _ (G8 hb e)))).2.1
  refine Ao (hi _ _ _ _ _ s6 σ6 H6 _ I6 q6) λok s7 hp0=>?_
  obtain⟨H7,I7,q7⟩:=hp0
  cases ok with
  | false=>
   rw[Ai Br]at q7
   exact next I7 q7
  | true=>
   rw[As rfl]at q7
   rw[As rfl]
   refine Ao (he _ _ _ _ _ s7 σ6 H7 _ I7 q7) λy s8 hp0=>?_
   obtain⟨v8,H8,I8,r8,zs,hz,hzl,q8⟩:=hp0
   refine Ao (G4 _ s8 σ6 H8 (.ref s.heap.objs.size) [v8] _ [y] (λ_ H9=>Nx (zs++[v8]) H9) I8 rfl (.cons r8 .nil) ⟨_,zs,v8,rfl,rfl,hz,hzl,q8⟩) λ_ s9 hp0=>?_
   obtain⟨_,H9,I9,_,q9⟩:=hp0
   exact next I9 q9
 exact codeAny_compStart_list (loop _ rfl) (T.self X.A 0 _ _ _ st1 (loop _ rfl))
def tLc (wi:TI)(n:Nat)(js:List Nat)(g:TG)(tc:TT)(te:TE):TE:=λσ H Q=>wi σ H λJ H1=>∀D,H1 D=none ->
 ∃W:Nat->Nat->List V->Hp->Prop,(∃m,W 0 m [] (Ac H1 D (.lst [])))/\HQ J D (Dh n js σ) g tc te (λH2=>Q (.ref D) H2) W
def EI 
  (L:LcOk X N sc scope own fr js)(hc:X.calm=true)(hI:PI X tg iter wi)
  (hg:∀C s H fp,PG (Cb X N scope C s H fp) tg g)(hi:∀C s H fp,Fz (Cb X N scope C s H fp) ifs tc)(he:∀C s H fp,PE (Cb X N scope C s H fp) elt te)
  (hs:∀x,foldedSetIterable iter X.env x=pure x:=by intro _;rfl):PE X (.ListComp elt [⟨tg,iter,ifs,0⟩] scope pos) (tLc wi own.length js g tc te):=by
 intro pins s σ H Q I h
 rw[eval_ListComp]
 refine wpAny_comprehension_free (use:=none) rfl hs (Li (L.cellAt I.ok)) L.kind L.loc ?_
 refine Ao (hI pins s σ H _ I h) λv s1 h1=>Ao h1 λitv s2 h2=>?_
 obtain⟨it,fp,tn,J,H2,e,I2,T,st,f2,q⟩:=h2
 subst e
 refine QH (RR:=λacc C=>compPost (model X.prog X.w) X.A X.xe none (EP X pins σ Q) acc C) (fin:=λD H'=>Q (.ref D) H') L hc I2 T st f2 hg hi he q ?_
 intro D C s' H' hm IX fC q'
 obtain⟨m,hm⟩:=hm
 obtain⟨f0,f1,_,f3,f4,f5⟩:=fC
 exact⟨m,hm,λh' sb=>⟨.ref D,H',IX.turned (t':=s'.toks) (λb o hb e=>(sb.2 b hb).trans e) f0 f1 f3 f4 f5,rfl,q'⟩⟩
def Pf (i:Nat)(wi:TI)(n:Nat)(js:List Nat)(g:TG)(tc:TT)(te:TE):TS:=λE σ H=>wi σ H λJ H1=>∀D,H1 D=none ->
 ∃W:Nat->Nat->List V->Hp->Prop,(∃m,W 0 m [] (Ac H1 D (.lst [])))/\HQ J D (Dh n js σ) g tc te (λH2=>E.nx (σ.set i (some (.ref D))) H2) W
def FP 
  (hN:X.N.Nodup)(hy:X.N[i]? = some y)(hl:X.env.scope.names.lookup y=some .local)
  (L:LcOk X N sc scope own fr js)(hc:X.calm=true)(hI:PI X tg iter wi)
  (hg:∀C s H fp,PG (Cb X N scope C s H fp) tg g)(hi:∀C s H fp,Fz (Cb X N scope C s H fp) ifs tc)(he:∀C s H fp,PE (Cb X N scope C s H fp) elt te)
  (hw:swapsWith (.ListComp elt [⟨tg,iter,ifs,0⟩] scope pos) (some (.Name y py)) spos.line X.env=pure true:=by rfl)
  (hs:∀x,foldedSetIterable iter X.env x=pure x:=by intro _;rfl):PS X (.Assign [.Name y py] (.ListComp elt [⟨tg,iter,ifs,0⟩] scope pos) spos) (Pf i wi own.length js g tc te):=by
 intro pins s σ H E I h
 rw[exec_Assign_Name_used _ _ _ _ hw]
 (refine Ae (JP (Ae ?_)))
 show wpAny _ X.A (do let _ <- comprehension (.ListComp elt [⟨tg,iter,ifs,0⟩] scope pos) scope X.env _ (newList []) false (eval iter X.env) (some (assign (.Name y py) X.env))) _ _ s
 refine Ae (BL (wpAny_comprehension_free (use:=some (assign (.Name y py) X.env)) (Q:=λ_ s'=>SP X pins E .next s') rfl hs (Li (L.cellAt I.ok)) L.kind L.loc ?_) (λ_ s' q=>An (An q)) λ_ _ e=>e)
 refine Ao (hI pins s σ H _ I h) λv s1 h1=>Ao h1 λitv s2 h2=>?_
 obtain⟨it,fp,tn,J,H2,e,I2,T,st,f2,q⟩:=h2
 subst e
 refine QH (RR:=λacc C=>compPost (model X.prog X.w) X.A X.xe (some (assign (.Name y py) X.env)) (λ_ s'=>SP X pins E .next s') acc C) (fin:=λD H'=>E.nx (σ.set i (some (.ref D))) H') L hc I2 T st f2 hg hi he q ?_
 intro D C s' H' hm IX fC q'
 obtain⟨m,hm⟩:=hm
 obtain⟨f0,f1,_,f3,f4,f5⟩:=fC
 show wpAny _ X.A (assign (.Name y py) X.env (.ref D)) _ _ s'
 refine Oq (Mg IX hN hy (.inl hl) (v:=.ref D) rfl (λs3 I3 ha=>?_) (.inr hl))
 obtain⟨a,sb,ha⟩:=ha
 have hCa:C≠a:=by
  rcases ha with z | z
  ·rw[z];exact f1
  exact λq=>f4 y a z q.symm
 refine⟨m,hm.sameBut sb hCa,λh' sb'=>⟨_,H',I3.turned (t':=s3.toks) (λb o hb e=>(sb'.2 b hb).trans e) f0 f1 f3 f4 f5,q'⟩⟩
section
variable {X:Cx}
def U6:V->List V->Hp->VK->Prop:=λx vs H Q=>∃l xs i y,x=.ref l/\vs=[.int i,y]/\0<=i/\i<=(xs.length:Int)/\H l=some (.lst xs)/\xs.length<sizeLine/\Q .non (Ac H l (.lst (xs.take i.toNat++y::xs.drop i.toNat)))
def YR (its:List Value)(i:Int)(u:Value)(h0:0<=i)(h1:i<=(its.length:Int)) :
  (λxs:Array Value=>have k:=if i<0 then(i+((xs.size:Nat):Int)).toNat else min i.toNat xs.size;(xs.extract 0 k).push u++xs.extract k) its.toArray=(its.take i.toNat++u::its.drop i.toNat).toArray:=by
 have e:(if i<0 then(i+((its.toArray.size:Nat):Int)).toNat else min i.toNat its.toArray.size)=i.toNat:=by rw[Ai (by lia),BH];lia
 show(its.toArray.extract 0 (if i<0 then(i+((its.toArray.size:Nat):Int)).toNat else min i.toNat its.toArray.size)).push u++its.toArray.extract (if i<0 then(i+((its.toArray.size:Nat):Int)).toNat else min i.toNat its.toArray.size)=_
 rw[e]
 apply Lz.mp
 simp
 (exact Fp (by simp))
def QB:OW X "list.insert" U6:=by intro pins s σ H x vs v us Q I rx rv h;obtain⟨l,xs,i,y,rfl,rfl,h0,h1,hH,hz,q⟩:=h;cases rx;obtain⟨u1,u,rfl,⟨t,rfl⟩,ru⟩:=J3 rv;obtain⟨z,its,n,r,hl,e⟩:=I.lstM hH;have h63:=Jk;refine Gf OG ⟨_,e,rfl⟩ F.entry_list_insert (F.args_list_insert_3 _ _ _) (PySem.AutoListH.list_insert_list_int_val_1 l its.toArray n i t u (by rw[fitsIndex_both (by lia) (by lia)];decide) (by rw[BH];lia)) ⟨e,?_⟩;refine⟨.non,_,I.lset (its':=its.take i.toNat++u::its.drop i.toNat) hH e (YR its i u h0 (by lia)) ((r.take i.toNat).append (.cons ru (r.drop i.toNat))) ?_,rfl,q⟩;(rw[AX,Cp,Cd,DY]);lia
def Qs:By X (binaryOp .Mult) (λx y H Q=>∃z i,x=.str z/\y=.int i/\1<=i/\i<=1000/\z.length<=1000/\Q (.str (Txt.mul z i)) H):=by
 intro pins s σ H x y v u Q I rx ry h;obtain⟨z,i,rfl,rfl,h1,h2,h3,q⟩:=h;obtain⟨t,rfl⟩:=rx;obtain⟨t',rfl⟩:=ry;have hs:sizeLine=16777216:=AM;have hp:z.length*i.toNat<=1000*1000:=Nat.mul_le_mul h3 (by lia);refine SB.mul ⟨?_,λ_ _=>?_,λ_ _=>?_⟩ λt' k=>⟨.str (Txt.mul z i),H,I.tok _,⟨_,rfl⟩,q⟩
 ·have e1:decide (i < -(2^63:Int))=false:=A8 (by lia);have e2:decide (i≥2^63)=false:=A8 (by lia);rw[e1,e2,Bool.or_false]
 ·have e3:(z.length:Int)*i=((z.length*i.toNat:Nat):Int):=by rw[Int.natCast_mul,D0 (by lia)]
  have e4:(z.length:Int)<=(2^63-1) / i:=Int.le_ediv_of_mul_le (by lia) (by rw[e3];lia);lia
 show decide (z.length*i.toNat > sizeLine)=false;exact A8 (by lia)
def Yb:HI X "str.startswith" (λx xs H Q=>∃a b,x=.str a/\xs=[.str b]/\Q (.bl (Txt.startswith a b)) H):=by intro pins s σ H x xs v us Q I rx rv h;obtain⟨a,b,rfl,rfl,q⟩:=h;obtain⟨t,rfl⟩:=rx;obtain⟨u,rfl,t',rfl⟩:=Da rv;exact SC.startswith ⟨.bl _,H,I,rfl,q⟩
theorem O0:∀(tk:Nat) (xs:List Str),Vals (xs.map V.str) (strsFrom tk xs)
 | _,[]=>.nil
 | tk,_::r=>.cons ⟨tk,rfl⟩ (O0 (tk+1) r)
def DQ:HI X "str.split" (λx xs H Q=>∃a b,x=.str a/\xs=[.str b]/\(b.length == 0)=false/\a.length+2<=sizeLine/\∀p,H p=none->Q (.ref p) (Ac H p (.lst ((Txt.split a b).map V.str)))):=by
 intro pins s σ H x xs v us Q I rx rv h;obtain⟨a,b,rfl,rfl,hb,hz,q⟩:=h;obtain⟨t,rfl⟩:=rx;obtain⟨u,rfl,t',rfl⟩:=Da rv;have one:∀{ys:List Str},ys=[a]->Txt.split a b=ys->EP X pins σ Q (.ref s.heap.objs.size) { s with heap:=s.heap.push { cls:=.type "list",data:=.seq [Value.str a t].toArray } }:=λ{ys} e1 e2=>by have q':=q _ (I.hok.fresh (AA _));rw[e2,e1]at q';exact⟨.ref _,_,I.lnew (ys:=[V.str a]) (t':=s.toks) (.cons ⟨t,rfl⟩ .nil) (by show 1<=sizeLine;decide),rfl,q'⟩
 have hn:=split_le a b;cases h1:(decide (a.length<b.length) || decide (Builtin.Str.strKind a<Builtin.Str.strKind b))with
 | true=>refine Gf C6 (JI _ _ _) Om (Ou _ _) (meets_str_split_cannot_occur a b t t' h1) ?_;exact one rfl (As h1)
 | false=>
  cases hf:(Builtin.Str.occurrences a b 0 a.length (a.length+1)).isEmpty with
  | true=>refine Gf C6 (JI _ _ _) Om (Ou _ _) (meets_str_split_not_found a b t t' h1 hb hf) ?_;exact one rfl ((Ai (by rw[h1];decide)).trans (As hf))
  | false=>
   have e:Txt.split a b=Builtin.Str.partsBetween a (Builtin.Str.occurrences a b 0 a.length (a.length+1)) b.length:=(Ai (by rw[h1];decide)).trans (Ai (by rw[hf];decide));refine Gf C6 (JI _ _ _) Om (Ou _ _) (meets_str_split_sep a b t t' h1 hb hf (by lia) (by rw[<- e];lia)) ?_;have q':=q _ (I.hok.fresh (AA _));refine⟨.ref _,_,I.lnew (O0 s.toks _) ?_,rfl,?_⟩
   ·rw[Ar,<- e];lia
   rw[<- e];exact q'
def P7 (K:W.Frag):R2:=λx y H Q=>∃a b xs ys,x=.ref a/\y=.ref b/\SqT K H a xs/\SqT K H b ys/\xs.length+ys.length<=sizeLine /\
 (xs=[]->Q (.ref b) H)/\(xs≠[]->ys=[]->Q (.ref a) H)/\(xs≠[]->ys≠[]->∀p,H p=none->Q (.ref p) (Ac H p (.tup (xs++ys))))
def Jf:By X (binaryOp .Add) (P7 X.K):=by
 intro pins s σ H x y v u Q I rx ry h;obtain⟨a,b,xs,ys,rfl,rfl,ha,hb,hz,q0,q1,q2⟩:=h;by_cases hx:xs=[]
 ·subst hx;cases rx;cases ry;obtain⟨its,r1,p1,_⟩:=I.tuple ha;obtain⟨its2,r2,p2,_⟩:=I.tuple hb;cases r1;obtain⟨⟨cls,dd,data,sl⟩,ho,hc,n,hd⟩:=id p1;obtain⟨⟨cls2,dd2,data2,sl2⟩,ho2,hc2,n2,hd2⟩:=id p2;simp only at hc hd hc2 hd2;subst hc hd hc2 hd2
  exact concat_meets ⟨_,ho,rfl⟩ ⟨_,ho2,rfl⟩ noFill_tuple_add seq_tuple_add OI OK (ON _ _)
   (tuple_addW0 a b _ _ n n2 dd dd2 sl sl2 rfl) ⟨ho,ho2,⟨.ref b,H,I,rfl,q0 rfl⟩⟩
 exact VD pins s σ H _ _ v u Q I rx ry ⟨a,b,xs,ys,rfl,rfl,ha,hb,hx,hz,q1 hx,q2 hx⟩
end
mutual
inductive RdV (H:Hp):V->PyData->Prop
 | non:RdV H .non .none
 | int (i:Int):RdV H (.int i) (.int i)
 | str (x:Str):RdV H (.str x) (.str x)
 | tup {a:Addr}{xs:List V}{ds:List PyData}:H a=some (.tup xs)->RdVs H xs ds->RdV H (.ref a) (.tuple ds)
inductive RdVs (H:Hp):List V->List PyData->Prop
 | nil:RdVs H [] []
 | cons {x:V}{d:PyData}{xs:List V}{ds:List PyData}:RdV H x d->RdVs H xs ds->RdVs H (x::xs) (d::ds)
end
mutual
theorem RdV.reads (ok:HOk P w H h):∀{x:V}{d:PyData}{u:Value},RdV H x d->RelV x u->∃as,Reads h u d as
 | _,_,_,.non,r=>by cases r;exact⟨_,.none⟩
 | _,_,_,.int i,r=>by obtain⟨t,rfl⟩:=r;exact⟨_,.int i t⟩
 | _,_,_,.str x,r=>by obtain⟨t,rfl⟩:=r;exact⟨_,.str x t⟩
 | _,_,_,.tup (a:=a) e rs,r=>by cases r;obtain⟨z,its,rv,o,ho,hc,n,hd⟩:=ok a _ e;obtain⟨as,ra⟩:=RdVs.reads ok rs rv;exact⟨as,.tuple ho hc hd (by simpa using ra)⟩
theorem RdVs.reads (ok:HOk P w H h):∀{xs:List V}{ds:List PyData}{us:List Value},RdVs H xs ds->Vals xs us->∃as,ReadsAll h us ds as
 | _,_,_,.nil,r=>by cases r;exact⟨_,.nil⟩
 | _,_,_,.cons a b,r=>by
  cases r with
  | cons r1 r2=>obtain⟨as,h1⟩:=RdV.reads ok a r1;obtain⟨bs,h2⟩:=RdVs.reads ok b r2;exact⟨_,.cons h1 h2⟩
end
mutual
theorem RdV.same (k:∀b xs,H b=some (.tup xs)->H' b=some (.tup xs)):∀{x:V}{d:PyData},RdV H x d->RdV H' x d
 | _,_,.non=>.non
 | _,_,.int i=>.int i
 | _,_,.str x=>.str x
 | _,_,.tup e rs=>.tup (k _ _ e) (RdVs.same k rs)
theorem RdVs.same (k:∀b xs,H b=some (.tup xs)->H' b=some (.tup xs)):∀{xs:List V}{ds:List PyData},RdVs H xs ds->RdVs H' xs ds
 | _,_,.nil=>.nil
 | _,_,.cons a b=>.cons (RdV.same k a) (RdVs.same k b)
end
theorem RdVs.get :∀{xs:List V}{ds:List PyData}{i:Nat}{x:V},RdVs H xs ds->xs[i]? = some x->∃d,ds[i]? = some d/\RdV H x d
 | _,_,_,_,.nil,e=>by simp at e
 | _,_,0,_,.cons a _,e=>by simp at e;subst e;exact⟨_,rfl,a⟩
 | _,_,i+1,_,.cons _ b,e=>by obtain⟨d,h1,h2⟩:=RdVs.get (i:=i) b (by simpa using e);exact⟨d,by simpa using h1,h2⟩
theorem RdVs.length :∀{xs:List V}{ds:List PyData},RdVs H xs ds->xs.length=ds.length
 | _,_,.nil=>rfl
 | _,_,.cons _ b=>by simp[RdVs.length b]
theorem RdVs.append :∀{xs ys:List V}{ds es:List PyData},RdVs H xs ds->RdVs H ys es->RdVs H (xs++ys) (ds++es)
 | _,_,_,_,.nil,r=>r
 | _,_,_,_,.cons a b,r=>.cons a (RdVs.append b r)
theorem RdVs.strs :∀(xs:List Str),RdVs H (xs.map V.str) (xs.map PyData.str)
 | []=>.nil
 | x::r=>.cons (.str x) (RdVs.strs r)
end L2
namespace ZT
open PySem PyProof.Rows
end ZT
namespace L2
open PySem PySem.Spec PyProof.Rows
def Same.new (h:H l=none):Same H (Ac H l o):=λb u e=>by rw[Aj (AL e h)];exact e
def Same.put (s:Same H H')(h:H l=none):Same H (Ac H' l o):=λb u e=>by rw[Aj (AL e h)];exact s b u e
def Same.rd (s:Same H H') (h:RdV H v d):RdV H' v d:=h.same λb xs e=>s b _ e
def Same.rds (s:Same H H') (h:RdVs H vs ds):RdVs H' vs ds:=h.same λb xs e=>s b _ e
structure Df (K:W.Frag)(mg:Str->Option Value)(x:Str)(st:Stmt)(ps:List Str)(f:Addr)(fd:FuncData):Prop where
 F:Fun K x x st f fd
 m:mg x=some (.ref f)
 b:Binds K fd ps []
def Jt:Expr->Bool
 | .Constant (.str _) _ _=>true
 | _=>false
def HR:Expr->V
 | .Constant (.str x) _ _=>.str x
 | _=>.non
theorem Qq :∀{es:List Expr},es.all Jt=true->PA X es (λ_ H Q=>Q (es.map HR) H)
 | [],_=>Ab
 | e::es,h=>by
  (rw[Ls,Ce]at h);have ih:=Qq (X:=X) h.2;cases e with
  | Constant c j pos=>
   cases c with
   | str x=>exact Aa Av ih
   | _=>exact absurd h.1 Br
  | _=>exact absurd h.1 Br
def Cj {J:It} (Pv:Nat->List V->Hp->Prop)(h0:Pv 0 [] (Ac H0 D (.lst [])))
  (go:∀i ys H,i<n->Pv i ys H->J.go i H)(stop:∀ys H,Pv n ys H->J.stop n H)
  (hs:∀i ys H x H1,i<n->Pv i ys H->J.yld i H x H1->tc (some x::ρ) H1 λb H3=>if b=true then te (some x::ρ) H3 λy H4=>∃zs,H4 D=some (.lst zs)/\zs.length<sizeLine/\Pv (i+1) (zs++[y]) (Ac H4 D (.lst (zs++[y])))else Pv (i+1) ys H3)
  (hd:∀ys H,Pv n ys H->fin H):∃W:Nat->Nat->List V->Hp->Prop,(∃m,W 0 m [] (Ac H0 D (.lst [])))/\HQ J D (none::ρ) (Ju 0) tc te fin W:=by
 refine⟨λi m ys H=>m=n-i/\i<=n/\Pv i ys H,⟨n,rfl,Be _,h0⟩,?_⟩
 rintro i m ys H ⟨rfl,hi,p⟩
 by_cases hlt:i<n
 ·refine .inr ⟨go i ys H hlt p,Pv (i+1),λys' H' p'=>⟨n-(i+1),by lia,rfl,hlt,p'⟩,λx H1 y=>⟨⟨rfl,λj v e=>?_⟩,hs i ys H x H1 hlt p y⟩⟩;cases j with
  | zero=>cases e
  | succ j=>exact e
 have e:i=n:=by lia
 subst e
 exact .inl ⟨stop ys H p,hd ys H p⟩
def Cu {σ:St}{H:Hp}{A B:Hp->Prop}(h:A H):Pb σ H λb H3=>if b=true then A H3 else B H3:=by
 show if true=true then A H else B H
 rw[As rfl];exact h
section
variable {X:Cx}
def Js (K:W.Frag)(h:X.K=K):HK X (Nd K):=by subst h;exact Bb
def QN (K:W.Frag)(h:X.K=K):HK X (Nc K):=by subst h;exact Bs
def ZS (K:W.Frag)(h:X.K=K):Cw X (.type "tuple") (λxs H Q=>∃p ys,xs=[.ref p]/\((SqL K H p ys/\∀l,H l=none->Q (.ref l) (Ac H l (.tup ys)))\/(SqT K H p ys/\Q (.ref p) H))):=by subst h;exact N3
def N9 {t:TA}(K:W.Frag)(h:X.K=K)(hp:PE X e (Mf X.K T r to t)):PE X e (Mf K T r to t):=by subst h;exact hp
end
def Lk:bootBuiltins "tuple" = some (.type "tuple"):=by decide +kernel
def BY:bootBuiltins "isinstance" = some (.builtin "isinstance"):=by decide +kernel
end L2
namespace Tx
open PySem L2 PyProof.Rows
open PySem.PyData (strOk)
def CB (x y:Str):(x++y).length=x.length+y.length:=by (show(x.cps++y.cps).size=x.cps.size+y.cps.size);rw[Ol]
def Qv (h:∀c∈x.cps.toList,c<0x110000):strOk x=true:=by unfold strOk;rw[Array.all_eq_true'];intro c hc;exact AQ (h c (by simpa using hc))
def abc:Str := "abcdefghijklmnopqrstuvwxyz"
def Of:abc.length<=sizeLine:=by rw[AM];decide +kernel
theorem QZ (a:Array Nat):∀(k:Nat) (acc:Array Nat),(List.foldl (λx y=>x++y) acc (replicate k a)).toList=acc.toList++(replicate k a.toList).flatten
 | 0,acc=>by simp
 | k+1,acc=>by rw[LK,foldl_cons,QZ a k,LK,F5,Array.toList_append,DZ]
def thingB:Str := "thing "
def Bt:Str := " "
def Z1:Bt=⟨#[32]⟩:=by decide +kernel
end Tx
namespace Rk
open PySem
def cs (x:Str):List Nat:=x.cps.toList
def Bk (x y:Str):cs (x++y)=cs x++cs y:=by show(x.cps++y.cps).toList=_;rw[Array.toList_append];rfl
def Lh (h:cs x=cs y):x=y:=by
 cases x with | mk a=>
 cases y with | mk b=>
 have:a=b:=Lz.mp h;rw[this]
def BG (x:Str):(cs x).length=x.length:=by show x.cps.toList.length=x.cps.size;exact JY
def ZM (c:Nat):cs ⟨#[c]⟩=[c]:=rfl
def J:List (List Nat)->List Nat
 | []=>[]
 | [a]=>a
 | a::b::r=>a++32::J (b::r)
theorem Rr:∀{a b u v:List Nat},32∉a->32∉b->a++32::u=b++32::v->a=b/\u=v
 | [],[],u,v,_,_,h=>⟨rfl,by simpa using h⟩
 | [],y::b,u,v,_,hb,h=>by simp only[JU,Ew,Ea]at h;exact absurd (AD.mpr (.inl h.1)) hb
 | x::a,[],u,v,ha,_,h=>by simp only[JU,Ew,Ea]at h;exact absurd (AD.mpr (.inl h.1.symm)) ha
 | x::a,y::b,u,v,ha,hb,h=>by simp only[Ew,Ea]at h;obtain⟨e1,e2⟩:=Rr (λz=>ha (AR _ z)) (λz=>hb (AR _ z)) h.2;exact⟨by rw[h.1,e1],e2⟩
theorem Sn:∀{ps ws:List (List Nat)},ps≠[]->ws≠[]->(∀p∈ps,32∉p)->(∀w∈ws,32∉w)->J ps=J ws->ps=ws
 | [],_,h,_,_,_,_=>absurd rfl h
 | _::_,[],_,h,_,_,_=>absurd rfl h
 | [a],[b],_,_,_,_,e=>by rw[show a=b from e]
 | [a],b::c::r,_,_,ha,_,e=>by have e':a=b++32::J (c::r):=e;exact absurd (by rw[e'];simp) (ha a (AZ ..))
 | a::c::r,[b],_,_,_,hb,e=>by have e':a++32::J (c::r)=b:=e;exact absurd (by rw[<- e'];simp) (hb b (AZ ..))
 | a::c::r,b::d::t,_,_,ha,hb,e=>by have e':a++32::J (c::r)=b++32::J (d::t):=e;obtain⟨e1,e2⟩:=Rr (ha a (AZ ..)) (hb b (AZ ..)) e';rw[e1,Sn (HE _ _) (HE _ _) (λp hp=>ha p (AR _ hp)) (λp hp=>hb p (AR _ hp)) e2]
theorem So:∀ps:List (List Nat),(J ps).count 32+1=(ps.map (List.count 32)).sum+(if ps=[]then 1 else ps.length)
 | []=>rfl
 | [a]=>by simp[J]
 | a::b::r=>by have ih:=So (b::r);rw[Ai (HE _ _)]at ih ⊢;show(a++32::J (b::r)).count 32+1=_;rw[List.count_append,List.count_cons_self,Bj,List.sum_cons];simp only[Cp]at ih ⊢;lia
theorem Pi:∀{l:List Nat},l.sum=0->∀x∈l,x=0
 | [],_,_,h=>nomatch h
 | a::r,h,x,hx=>by
  rw[List.sum_cons]at h;rcases(AD.mp hx)with e | e
  ·lia
  exact Pi (by lia) x e
def fixedS:List Str:=["and", "or", "not", "while", "in", "on", "top", "held", "open", "shut", "locked", "bare", "free", "hand"]
structure Nv (x:Str):Prop where
 low:∀c∈cs x,97<=c/\c<=122
 pos:1<=x.length
 len:x.length<=8
 fix:x∉fixedS
def Zg:∀w∈fixedS,∃c∈cs w,∃d∈cs w,c≠d:=by
 have h:fixedS.all (λw=>(cs w).any λc=>(cs w).any λd=>c != d)=true:=by decide +kernel
 intro w hw;have h1:=DW.mp h w hw;obtain⟨c,hc,h2⟩:=JK.mp h1;obtain⟨d,hd,h3⟩:=JK.mp h2;exact⟨c,hc,d,hd,by simpa using h3⟩
def Zf:∀w∈fixedS,("z" : Str)++w∉fixedS/\(("z" : Str)++w).length<=8:=by
 have h:fixedS.all (λw=>decide (("z" : Str)++w∉fixedS) && decide ((("z" : Str)++w).length<=8))=true:=by decide +kernel
 intro w hw;have h1:=DW.mp h w hw;rw[Ce]at h1;exact⟨Bg h1.1,Bg h1.2⟩
def WZ (e:cs x=replicate n c)(h1:97<=c)(h2:c<=122)(n1:1<=n)(n2:n<=8):Nv x:=by
 have el:x.length=n:=by rw[<- BG,e,Ex]
 refine⟨λd hd=>?_,by lia,by lia,λhf=>?_⟩
 ·rw[e]at hd;rw[(Hl.mp hd).2];exact⟨h1,h2⟩
 obtain⟨a,ha,b,hb,ne⟩:=Zg x hf;rw[e]at ha hb;exact ne ((Hl.mp ha).2.trans (Hl.mp hb).2.symm)
def E1 (x:Str):Str:=if x∈fixedS then("z" : Str)++x else x
def Sw (low:∀c∈cs x,97<=c/\c<=122)(h1:1<=x.length)(h2:x.length<=8):Nv (E1 x):=by
 unfold E1;by_cases h:x∈fixedS
 ·rw[As h];have z:=Zf x h;refine⟨λc hc=>?_,?_,z.2,z.1⟩
  ·rw[Bk]at hc;rcases(Cc.mp hc)with q | q
   ·have:c=122:=by
     have e:cs ("z" : Str)=[122]:=by decide +kernel
     rw[e]at q;simpa using q
    lia
   exact low c q
  rw[<- BG,Bk,AX,BG,BG];lia
 rw[Ai h];exact⟨low,h1,h2,h⟩
def Sx (hl:x.length=y.length)(h:E1 x=E1 y):x=y:=by
 have lz:∀z:Str,(("z" : Str)++z).length=z.length+1:=λz=>by
  have e:("z" : Str).length=1:=by decide +kernel
  rw[<- BG,Bk,AX,BG,BG,e];lia
 unfold E1 at h;by_cases h1:x∈fixedS
 ·rw[As h1]at h;by_cases h2:y∈fixedS
  ·rw[As h2]at h;have e:=BB cs h;rw[Bk,Bk]at e;exact Lh (List.append_cancel_left e)
  rw[Ai h2]at h;have e:=BB Str.length h;rw[lz]at e;lia
 rw[Ai h1]at h;by_cases h2:y∈fixedS
 ·rw[As h2]at h;have e:=BB Str.length h;rw[lz]at e;lia
 rw[Ai h2]at h;exact h
def W1 {α:Type}{l:List α}{x:α}(h:l.Nodup)(hx:x∉l):(l++[x]).Nodup:=by rw[Eu];refine⟨h,by simp,λa ha b hb=>?_⟩;rw[AW.mp hb];intro e;rw[e]at ha;exact hx ha
def Zj {p:Int}{i j:Nat}(hi:i<26)(hj:j<26)(h:(p+5*(i:Int)) % 26=(p+5*(j:Int)) % 26):i=j:=by lia
inductive Ro where
 | pl (n:Str)
 | bx (n:Str)
 | lk (n k:Str)
 | th (n s:Str)
 deriving DecidableEq
def Ro.name:Ro->Str
 | .pl n=>n
 | .bx n=>n
 | .lk n _=>n
 | .th n _=>n
def Ro.isP:Ro->Bool
 | .th _ _=>false
 | _=>true
def Ro.boxed:Ro->Bool
 | .bx _=>true
 | .lk _ _=>true
 | _=>false
def Ro.words:Ro->List Str
 | .pl n=>["place",n]
 | .bx n=>["box",n]
 | .lk n k=>["box",n,k]
 | .th n s=>["thing",n,s]
def Ro.txt:Ro->Str
 | .pl n=>("place " : Str)++n
 | .bx n=>("box " : Str)++n
 | .lk n k=>("box " : Str)++n++(" " : Str)++k
 | .th n s=>("thing " : Str)++n++(" " : Str)++s
def Ro.nv:Ro->Prop
 | .pl n=>Nv n
 | .bx n=>Nv n
 | .lk n k=>Nv n/\Nv k
 | .th n s=>Nv n/\Nv s
theorem Ro.nv_name:∀{r:Ro},r.nv->Nv r.name
 | .pl _,h=>h
 | .bx _,h=>h
 | .lk _ _,h=>h.1
 | .th _ _,h=>h.1
def Nv.noblank (h:Nv x):32∉cs x:=λz=>by have:=h.low 32 z;lia
theorem Ro.noblank:∀{r:Ro},r.nv->∀w∈r.words,32∉cs w
 | .pl n,h,w,hw=>by
  simp only[Ro.words,AD,B6,B4]at hw;rcases hw with e | e
  ·rw[e];decide +kernel
  rw[e];exact Nv.noblank h
 | .bx n,h,w,hw=>by
  simp only[Ro.words,AD,B6,B4]at hw;rcases hw with e | e
  ·rw[e];decide +kernel
  rw[e];exact Nv.noblank h
 | .lk n k,h,w,hw=>by
  simp only[Ro.words,AD,B6,B4]at hw;rcases hw with e | e | e
  ·rw[e];decide +kernel
  ·rw[e];exact Nv.noblank h.1
  rw[e];exact Nv.noblank h.2
 | .th n k,h,w,hw=>by
  simp only[Ro.words,AD,B6,B4]at hw;rcases hw with e | e | e
  ·rw[e];decide +kernel
  ·rw[e];exact Nv.noblank h.1
  rw[e];exact Nv.noblank h.2
theorem ZK:∀r:Ro,cs r.txt=J (r.words.map cs)
 | .pl n=>by
  show cs (("place " : Str)++n)=cs ("place" : Str)++32::cs n;rw[Bk];have e:cs ("place " : Str)=cs ("place" : Str)++[32]:=by decide +kernel
  rw[e];simp
 | .bx n=>by
  show cs (("box " : Str)++n)=cs ("box" : Str)++32::cs n;rw[Bk];have e:cs ("box " : Str)=cs ("box" : Str)++[32]:=by decide +kernel
  rw[e];simp
 | .lk n k=>by
  show cs (("box " : Str)++n++(" " : Str)++k)=cs ("box" : Str)++32::(cs n++32::cs k);rw[Bk,Bk,Bk];have e:cs ("box " : Str)=cs ("box" : Str)++[32]:=by decide +kernel
  have e2:cs (" " : Str)=[32]:=by decide +kernel
  rw[e,e2];simp
 | .th n k=>by
  show cs (("thing " : Str)++n++(" " : Str)++k)=cs ("thing" : Str)++32::(cs n++32::cs k);rw[Bk,Bk,Bk];have e:cs ("thing " : Str)=cs ("thing" : Str)++[32]:=by decide +kernel
  have e2:cs (" " : Str)=[32]:=by decide +kernel
  rw[e,e2];simp
theorem O6:∀r:Ro,r.isP=false↔∃z,cs r.txt=cs ("thing " : Str)++z
 | .pl n=>by
  constructor
  ·intro h;cases h
  rintro⟨z,h⟩;rw[show cs (Ro.pl n).txt=cs ("place " : Str)++cs n from Bk _ _]at h;have e1:cs ("place " : Str)=112::(cs ("place " : Str)).tail:=by decide +kernel
  have e2:cs ("thing " : Str)=116::(cs ("thing " : Str)).tail:=by decide +kernel
  rw[e1,e2]at h;simp only[Ew,Ea]at h;exact absurd h.1 (by decide)
 | .bx n=>by
  constructor
  ·intro h;cases h
  rintro⟨z,h⟩;rw[show cs (Ro.bx n).txt=cs ("box " : Str)++cs n from Bk _ _]at h;have e1:cs ("box " : Str)=98::(cs ("box " : Str)).tail:=by decide +kernel
  have e2:cs ("thing " : Str)=116::(cs ("thing " : Str)).tail:=by decide +kernel
  rw[e1,e2]at h;simp only[Ew,Ea]at h;exact absurd h.1 (by decide)
 | .lk n k=>by
  constructor
  ·intro h;cases h
  rintro⟨z,h⟩;rw[show cs (Ro.lk n k).txt=cs ("box " : Str)++cs n++cs (" " : Str)++cs k from by show cs (("box " : Str)++n++(" " : Str)++k)=_;rw[Bk,Bk,Bk]]at h;have e1:cs ("box " : Str)=98::(cs ("box " : Str)).tail:=by decide +kernel
  have e2:cs ("thing " : Str)=116::(cs ("thing " : Str)).tail:=by decide +kernel
  rw[e1,e2]at h;simp only[Ew,Ea]at h;exact absurd h.1 (by decide)
 | .th n k=>by refine⟨λ_=>⟨cs n++cs (" " : Str)++cs k,?_⟩,λ_=>rfl⟩;show cs (("thing " : Str)++n++(" " : Str)++k)=_;rw[Bk,Bk,Bk];simp
def O7 {r:Ro}(h:r.nv):r.txt.length<=23:=by
 have l6:("place " : Str).length=6:=by decide +kernel
 have l4:("box " : Str).length=4:=by decide +kernel
 have t6:("thing " : Str).length=6:=by decide +kernel
 have l1:(" " : Str).length=1:=by decide +kernel
 cases r with
 | pl n =>have:=Nv.len h;rw[<- BG,show(Ro.pl n).txt=("place " : Str)++n from rfl,Bk,AX,BG,BG];lia
 | bx n=>have:=Nv.len h;rw[<- BG,show(Ro.bx n).txt=("box " : Str)++n from rfl,Bk,AX,BG,BG];lia
 | lk n k=>have:=Nv.len h.1;have:=Nv.len h.2;rw[<- BG,show(Ro.lk n k).txt=("box " : Str)++n++(" " : Str)++k from rfl,Bk,Bk,Bk,AX,AX,AX,BG,BG,BG,BG];lia
 | th n k=>have:=Nv.len h.1;have:=Nv.len h.2;rw[<- BG,show(Ro.th n k).txt=("thing " : Str)++n++(" " : Str)++k from rfl,Bk,Bk,Bk,AX,AX,AX,BG,BG,BG,BG];lia
def plc:List Ro->List (Str×Bool×Option Str)
 | []=>[]
 | .pl n::r=>(n,false,none)::plc r
 | .bx n::r=>(n,true,none)::plc r
 | .lk n k::r=>(n,true,some k)::plc r
 | .th _ _::r=>plc r
def ths:List Ro->List (Str×Str)
 | []=>[]
 | .th n s::r=>(n,s)::ths r
 | _::r=>ths r
theorem Eh:∀a b:List Ro,plc (a++b)=plc a++plc b
 | [],_=>rfl
 | .pl n::r,b=>by simp[plc,Eh r b]
 | .bx n::r,b=>by simp[plc,Eh r b]
 | .lk n k::r,b=>by simp[plc,Eh r b]
 | .th n s::r,b=>by simp[plc,Eh r b]
theorem Do:∀a b:List Ro,ths (a++b)=ths a++ths b
 | [],_=>rfl
 | .pl n::r,b=>by simp[ths,Do r b]
 | .bx n::r,b=>by simp[ths,Do r b]
 | .lk n k::r,b=>by simp[ths,Do r b]
 | .th n s::r,b=>by simp[ths,Do r b]
theorem El:∀rs:List Ro,(rs.map Ro.name).Perm ((plc rs).map (·.1)++(ths rs).map (·.1))
 | []=>.nil
 | .pl n::r=>.cons _ (El r)
 | .bx n::r=>.cons _ (El r)
 | .lk n k::r=>.cons _ (El r)
 | .th n s::r=>(Lv n (El r)).trans JV.symm
def Ji (h:n∈(plc rs).map (·.1)):n∈rs.map Ro.name:=(El rs).mem_iff.mpr (F4 _ h)
def ND (h:n∈(ths rs).map (·.1)):n∈rs.map Ro.name:=(El rs).mem_iff.mpr (CQ _ h)
structure Good (rs:List Ro):Prop where
 nv:∀r∈rs,r.nv
 nd:(rs.map Ro.name).Nodup
 first:∃n t,plc rs=(n,false,none)::t
 fewP:(plc rs).length<=6
 fewT:(ths rs).length<=6
 keys:∀p∈plc rs,∀k,p.2.2=some k->k∈(ths rs).map (·.1)
def Good.floor (g:Good rs) (e:rs=a++r::b)(h:r.boxed=true):plc a≠[]:=λz=>by
 obtain⟨n,t,f⟩:=g.first;rw[e,Eh,z,JU]at f;cases r with
 | pl n=>cases h
 | th n s=>cases h
 | bx n=>simp[plc]at f
 | lk n k=>simp[plc]at f
def Good.ndP (g:Good rs):((plc rs).map (·.1)).Nodup:=((Eu.mp ((El rs).nodup_iff.mp g.nd))).1
def Good.ndT (g:Good rs):((ths rs).map (·.1)).Nodup:=((Eu.mp ((El rs).nodup_iff.mp g.nd))).2.1
def Vg (rs:List Ro)(i:Nat)(n s:Str):plc (rs.take i++.th n s::rs.drop i)=plc rs:=by rw[Eh];show plc (rs.take i)++plc (rs.drop i)=_;rw[<- Eh,C0]
def SY (rs:List Ro)(i:Nat)(n s:Str):(ths (rs.take i++.th n s::rs.drop i)).Perm ((n,s)::ths rs):=by rw[Do];show(ths (rs.take i)++(n,s)::ths (rs.drop i)).Perm _;refine JV.trans (.cons _ ?_);rw[<- Do,C0]
end Rk
namespace Rk
open PySem PyProof.Rows L2 Tx
theorem Rz (c:Nat):∀l:List Nat,cnt c l=(l.count c:Int)
 | []=>by rw[cnt_nil];rfl
 | n::r=>by
  rw[cnt_cons,Rz c r,List.count_cons];by_cases h:n=c
  ·simp[h];lia
  simp[h]
def ZP:cs Bt=[32]:=by decide +kernel
theorem Lf:∀ps:List Str,cs (Str.join Bt ps)=J (ps.map cs)
 | []=>rfl
 | [a]=>rfl
 | a::b::r=>by show cs (a++Bt++Str.join Bt (b::r))=cs a++32::J (cs b::r.map cs);rw[Bk,Bk,Lf (b::r),ZP];simp
theorem NF:∀{xs ys:List Str},xs.map cs=ys.map cs->xs=ys
 | [],[],_=>rfl
 | [],_::_,h=>by simp at h
 | _::_,[],h=>by simp at h
 | x::xs,y::ys,h=>by (simp only[Bj,Ea]at h);rw[Lh h.1,NF h.2]
def Pl (h0:ws≠[])(hx:cs x=J (ws.map cs))(hb:∀w∈ws,32∉cs w):Txt.split x Bt=ws:=by
 have hj:=StrLaws.join_split x Bt;have hl:=split_len x 32;rw[<- Z1,Rz]at hl;have e1:J ((Txt.split x Bt).map cs)=cs x:=by rw[<- Lf,hj]
 have hc:=So ((Txt.split x Bt).map cs);have n0:Txt.split x Bt≠[]:=λz=>by rw[z]at hl;simp at hl;lia
 rw[Ai (by simpa using n0),e1,Ar]at hc;have hcc:(cs x).count 32=x.cps.toList.count 32:=rfl;have hs:(((Txt.split x Bt).map cs).map (List.count 32)).sum=0:=by lia
 have hp:∀p∈(Txt.split x Bt).map cs,32∉p:=λp hp=>by have:=Pi hs (p.count 32) (EV hp);exact List.count_eq_zero.mp this
 refine NF (Sn (by simpa using n0) (by simpa using h0) hp (λw hw=>?_) (e1.trans hx));obtain⟨v,hv,rfl⟩:=B0.mp hw;exact hb v hv
def SA (r:Ro):r.words≠[]:=by cases r <;> exact HE _ _
def Pm {r:Ro}(h:r.nv):Txt.split r.txt Bt=r.words:=Pl (SA r) (ZK r) (Ro.noblank h)
def Pk (x:Str):Txt.startswith x thingB=true↔∃z,cs x=cs thingB++z:=by
 have l6:thingB.length=6:=by decide +kernel
 have c6:(cs thingB).length=6:=by decide +kernel
 unfold Txt.startswith Builtin.Str.subAt;rw[Ce];constructor
 ·rintro⟨h1,h2⟩;have e:x.cps.extract 0 (0+thingB.length)=thingB.cps:=by simpa using h2
  refine⟨(cs x).drop 6,?_⟩;have e2:(x.cps.extract 0 (0+thingB.length)).toList=(cs x).take 6:=by rw[Array.toList_extract,l6];simp[cs]
  rw[e]at e2;show cs x=thingB.cps.toList++(cs x).drop 6;rw[e2,C0]
 rintro⟨z,h⟩;have hl:x.length=6+z.length:=by rw[<- BG,h,AX,c6]
 refine⟨AQ (by lia),?_⟩;have e:x.cps.extract 0 (0+thingB.length)=thingB.cps:=by apply Lz.mp;rw[Array.toList_extract,l6];show(List.drop 0 (cs x)).take (0+6-0)=cs thingB;rw[h,JR];exact List.take_left' c6
 simpa using e
def TY (r:Ro):Txt.startswith r.txt thingB=!r.isP:=by
 cases hp:r.isP with
 | false=>rw[(Pk r.txt).mpr ((O6 r).mp hp)];rfl
 | true=>
  cases hs:Txt.startswith r.txt thingB with
  | false=>rfl
  | true=>have:=(O6 r).mpr ((Pk r.txt).mp hs);rw[hp]at this;cases this
def Nv.ok (h:Nv x):PySem.PyData.strOk x=true:=Qv λc hc=>by have:=h.low c hc;lia
def Nv.ascii (h:Nv x):x.cps.all (· < 128)=true:=by rw[Array.all_eq_true'];intro c hc;have:=h.low c (by simpa [cs] using hc);(exact AQ (by lia))
def aA:∀n:Nat,n<26->abc.cps.toList[n]? = some (97+n):=by decide +kernel
def R4 (h0:0<=i)(h1:i<26):AB abc.cps.toList i=some (97+i.toNat):=by have q:=AO (aA i.toNat (by lia));rw[D0 h0]at q;exact q
def YS (h1:97<=c)(h2:c<=122):(!(Builtin.Str.occurrences abc ⟨#[c]⟩ 0 abc.length 1).isEmpty)=true:=by
 have h:∀n:Nat,n<26->(!(Builtin.Str.occurrences abc ⟨#[97+n]⟩ 0 abc.length 1).isEmpty)=true:=by decide +kernel
 have:=h (c-97) (by lia);rw[show 97+(c-97)=c by lia]at this;exact this
theorem Dg (x:Str):∀ys:List Str,CM (.str x) (ys.map V.str)=decide (x∈ys)
 | []=>rfl
 | y::ys=>by
  show(DU (.str y) (.str x) || CM (.str x) (ys.map V.str))=_;rw[Dg x ys];by_cases h:y=x
  ·subst h;simp[DU]
  have h':¬x=y:=λe=>h e.symm;simp[DU,h,h']
theorem flat_strs:∀ys:List Str,(ys.map V.str).all Er=true
 | []=>rfl
 | _::ys=>by rw[Bj,Ls,flat_strs ys];rfl
def Bw:List Ro->List (Ag×V)
 | []=>[]
 | .bx n::r=>(Sum.inr n,.bl true)::Bw r
 | .lk n _::r=>(Sum.inr n,.bl true)::Bw r
 | _::r=>Bw r
def BD:List Ro->List (Ag×V)
 | []=>[]
 | .lk n k::r=>(Sum.inr n,.str k)::BD r
 | _::r=>BD r
def CU (rs:List Ro):List (Ag×V):=(ths rs).map λx=>(Sum.inr x.1,.str x.2)
theorem FV:∀a b:List Ro,Bw (a++b)=Bw a++Bw b
 | [],_=>rfl
 | .pl n::r,b=>by simp[Bw,FV r b]
 | .bx n::r,b=>by simp[Bw,FV r b]
 | .lk n k::r,b=>by simp[Bw,FV r b]
 | .th n s::r,b=>by simp[Bw,FV r b]
theorem F0:∀a b:List Ro,BD (a++b)=BD a++BD b
 | [],_=>rfl
 | .pl n::r,b=>by simp[BD,F0 r b]
 | .bx n::r,b=>by simp[BD,F0 r b]
 | .lk n k::r,b=>by simp[BD,F0 r b]
 | .th n s::r,b=>by simp[BD,F0 r b]
theorem Jm:∀rs:List Ro,(Bw rs).length<=rs.length
 | []=>AA _
 | .pl n::r=>by have:=Jm r;simp[Bw];lia
 | .bx n::r=>by have:=Jm r;simp[Bw];lia
 | .lk n k::r=>by have:=Jm r;simp[Bw];lia
 | .th n s::r=>by have:=Jm r;simp[Bw];lia
theorem Jp:∀rs:List Ro,(BD rs).length<=rs.length
 | []=>AA _
 | .pl n::r=>by have:=Jp r;simp[BD];lia
 | .bx n::r=>by have:=Jp r;simp[BD];lia
 | .lk n k::r=>by have:=Jp r;simp[BD];lia
 | .th n s::r=>by have:=Jp r;simp[BD];lia
theorem G9 :∀{rs:List Ro},x∉rs.map Ro.name->Aw (Bw rs) (Sum.inr x:Ag)=none
 | [],_=>rfl
 | .pl n::r,h=>G9 (rs:=r) λz=>h (AR _ z)
 | .th n s::r,h=>G9 (rs:=r) λz=>h (AR _ z)
 | .bx n::r,h=>by show Aw ((Sum.inr n,.bl true)::Bw r) _=none;rw[A7 (λe=>h (by rw[Di e];exact AZ))];exact G9 (rs:=r) λz=>h (AR _ z)
 | .lk n k::r,h=>by show Aw ((Sum.inr n,.bl true)::Bw r) _=none;rw[A7 (λe=>h (by rw[Di e];exact AZ))];exact G9 (rs:=r) λz=>h (AR _ z)
theorem FZ :∀{rs:List Ro},x∉rs.map Ro.name->Aw (BD rs) (Sum.inr x:Ag)=none
 | [],_=>rfl
 | .pl n::r,h=>FZ (rs:=r) λz=>h (AR _ z)
 | .th n s::r,h=>FZ (rs:=r) λz=>h (AR _ z)
 | .bx n::r,h=>FZ (rs:=r) λz=>h (AR _ z)
 | .lk n k::r,h=>by show Aw ((Sum.inr n,.str k)::BD r) _=none;rw[A7 (λe=>h (by rw[Di e];exact AZ))];exact FZ (rs:=r) λz=>h (AR _ z)
def Yp (rs:List Ro)(i:Nat)(n s:Str):Bw (rs.take i++.th n s::rs.drop i)=Bw rs:=by rw[FV];show Bw (rs.take i)++Bw (rs.drop i)=_;rw[<- FV,C0]
def YA (rs:List Ro)(i:Nat)(n s:Str):BD (rs.take i++.th n s::rs.drop i)=BD rs:=by rw[F0];show BD (rs.take i)++BD (rs.drop i)=_;rw[<- F0,C0]
end Rk
namespace Rk
open PySem PySem.Spec PyProof.Rows L2 Tx
def semi:Str := "; "
def ZL:cs semi=[59,32]:=by decide +kernel
def J2:List (List Nat)->List Nat
 | []=>[]
 | [a]=>a
 | a::b::r=>a++59::32::J2 (b::r)
theorem Ru:∀{a b u v:List Nat},59∉a->59∉b->a++59::u=b++59::v->a=b/\u=v
 | [],[],u,v,_,_,h=>⟨rfl,by simpa using h⟩
 | [],y::b,u,v,_,hb,h=>by simp only[JU,Ew,Ea]at h;exact absurd (AD.mpr (.inl h.1)) hb
 | x::a,[],u,v,ha,_,h=>by simp only[JU,Ew,Ea]at h;exact absurd (AD.mpr (.inl h.1.symm)) ha
 | x::a,y::b,u,v,ha,hb,h=>by simp only[Ew,Ea]at h;obtain⟨e1,e2⟩:=Ru (λz=>ha (AR _ z)) (λz=>hb (AR _ z)) h.2;exact⟨by rw[h.1,e1],e2⟩
theorem Sq:∀{ps ws:List (List Nat)},ps≠[]->ws≠[]->(∀p∈ps,59∉p)->(∀w∈ws,59∉w)->J2 ps=J2 ws->ps=ws
 | [],_,h,_,_,_,_=>absurd rfl h
 | _::_,[],_,h,_,_,_=>absurd rfl h
 | [a],[b],_,_,_,_,e=>by rw[show a=b from e]
 | [a],b::c::r,_,_,ha,_,e=>by have e':a=b++59::32::J2 (c::r):=e;exact absurd (by rw[e'];simp) (ha a (AZ ..))
 | a::c::r,[b],_,_,_,hb,e=>by have e':a++59::32::J2 (c::r)=b:=e;exact absurd (by rw[<- e'];simp) (hb b (AZ ..))
 | a::c::r,b::d::t,_,_,ha,hb,e=>by have e':a++59::32::J2 (c::r)=b++59::32::J2 (d::t):=e;obtain⟨e1,e2⟩:=Ru (ha a (AZ ..)) (hb b (AZ ..)) e';rw[e1,Sq (HE _ _) (HE _ _) (λp hp=>ha p (AR _ hp)) (λp hp=>hb p (AR _ hp)) (Hz e2).2]
theorem Sr:∀{ps:List (List Nat)}{k:Nat},(∀p∈ps,59∉p)->(J2 ps)[k]? = some 59->(J2 ps)[k+1]? = some 32
 | [],k,_,h=>by simp[J2]at h
 | [a],k,ha,h=>absurd (BE (show a[k]? = some 59 from h)) (ha a (AZ ..))
 | a::b::r,k,ha,h=>by
  have h':(a++59::32::J2 (b::r))[k]? = some 59:=h;show(a++59::32::J2 (b::r))[k+1]? = some 32;by_cases hk:k<a.length
  ·rw[EW hk]at h';exact absurd (BE h') (ha a (AZ ..))
  rw[Ga (by lia)]at h' ⊢;obtain⟨j,rfl⟩:∃j,k=a.length+j:=⟨k-a.length,by lia⟩;have e1:a.length+j-a.length=j:=by lia
  have e2:a.length+j+1-a.length=j+1:=by lia
  rw[e1]at h';rw[e2];match j with
  | 0=>rfl
  | 1=>simp at h'
  | j+2=>
   have h2:(J2 (b::r))[j]? = some 59:=by simpa using h'
   have:=Sr (ps:=b::r) (k:=j) (λp hp=>ha p (AR _ hp)) h2;simpa using this
theorem NZ:∀ps:List Str,cs (Str.join semi ps)=J2 (ps.map cs)
 | []=>rfl
 | [a]=>rfl
 | a::b::r=>by show cs (a++semi++Str.join semi (b::r))=cs a++59::32::J2 (cs b::r.map cs);rw[Bk,Bk,NZ (b::r),ZL];simp
open StrLaws in
def RU (hf:∀k,(cs x)[k]? = some 59->(cs x)[k+1]? = some 32){k:Nat}(h:(cs x)[k]? = some 59):At x semi x.length k:=by
 have h2:=hf k h;have l2:semi.length=2:=by decide +kernel
 have hk:=(AK.mp h2).1;rw[BG]at hk;refine⟨by lia,?_⟩;rw[subAt_eq,l2]
 have e:(x.cps.toList.drop k).take 2=[59,32]:=by
  apply List.ext_getElem?;intro i;match i with
  | 0=>rw[LM (by lia),LH];exact h
  | 1=>rw[LM (by lia),LH];exact h2
  | i+2=>rw[List.getElem?_take_eq_none (by lia)];rfl
 rw[e];decide +kernel
open StrLaws in
def Nm (hf:∀k,(cs x)[k]? = some 59->(cs x)[k+1]? = some 32)(a b:Nat)(hn:∀k,a<=k->k<b->¬At x semi x.length k):59∉(Builtin.Str.strSub x a b).cps.toList:=by
 intro hm;rw[strSub_toList]at hm;(obtain⟨j,hj⟩:=Gk hm);have hlt:j<b-a:=by (have h1:j<((x.cps.toList.drop a).take (b-a)).length:=(AK.mp hj).1);simp at h1;lia
 (rw[LM hlt,LH]at hj);exact hn (a+j) (by lia) (by lia) (RU hf hj)
open StrLaws in
theorem Qp (hf:∀k,(cs x)[k]? = some 59->(cs x)[k+1]? = some 32):∀(cuts:List Nat) (a f:Nat),ChainG x semi x.length a cuts f->(∀k,f<=k->¬At x semi x.length k)->∀p∈partsFrom x semi.length a cuts,59∉cs p
 | [],a,f,h,hno,p,hp=>by have e:f=a:=h;subst e;rw[AW.mp hp];exact Nm hf f x.length λk h1 _=>hno k h1
 | d::r,a,f,h,hno,p,hp=>by
  rcases(AD.mp hp)with rfl | hq
  ·exact Nm hf a d h.2.2.1
  exact Qp hf r _ f h.2.2.2 hno p hq
open StrLaws in
def T3 (hf:∀k,(cs x)[k]? = some 59->(cs x)[k+1]? = some 32):∀p∈Txt.split x semi,59∉cs p:=by
 obtain⟨f,hG,hn⟩:=occ_tight x semi (by decide +kernel);have ks:Builtin.Str.strKind semi=1:=by decide +kernel
 unfold Txt.split;split
 ·rename_i hc;intro p hp;rw[AW.mp hp];intro hm;(obtain⟨j,hj⟩:=Gk hm);have hA:=RU hf hj;(rw[Oi,Fq,Fq]at hc);rcases hc with h | h
  ·have:=hA.1;lia
  rw[ks]at h
  have:1<=Builtin.Str.strKind x:=by
   unfold Builtin.Str.strKind;split
   ·lia
   split <;> lia
  lia
 split
 ·rename_i he;intro p hp;rw[AW.mp hp];have e0:Builtin.Str.occurrences x semi 0 x.length (x.length+1)=[]:=List.isEmpty_iff.mp he;rw[e0]at hG;have ef:f=0:=hG;subst ef;rw[<- sub_whole x];exact Nm hf 0 x.length λk h1 _=>hn k h1
 rw[partsBetween_eq];exact Qp hf _ 0 f hG hn
def T1 (h0:ps≠[])(hb:∀p∈ps,59∉cs p):Txt.split (Txt.join semi ps) semi=ps:=by
 have hx:cs (Txt.join semi ps)=J2 (ps.map cs):=by rw[<- NZ];exact BB cs (OD semi ps)
 have hb':∀w∈ps.map cs,59∉w:=λw hw=>by obtain⟨v,hv,rfl⟩:=B0.mp hw;exact hb v hv
 have hf:∀k,(cs (Txt.join semi ps))[k]? = some 59->(cs (Txt.join semi ps))[k+1]? = some 32:=λk h=>by rw[hx]at h ⊢;exact Sr hb' h
 have hp:=T3 hf;have hj:=StrLaws.join_split (Txt.join semi ps) semi;have n0:=split_pos (Txt.join semi ps) semi;have n1:Txt.split (Txt.join semi ps) semi≠[]:=λz=>by rw[z]at n0;exact absurd n0 (by decide)
 refine NF (Sq (by simpa using n1) (by simpa using h0) (λw hw=>?_) hb' ?_)
 ·obtain⟨v,hv,rfl⟩:=B0.mp hw;exact hp v hv
 rw[<- NZ,hj,hx]
def J9 (h0:ws≠[])(hb:∀w∈ws,32∉cs w):Txt.split (Txt.join Bt ws) Bt=ws:=by refine Pl h0 ?_ hb;rw[<- Lf];exact BB cs (OD Bt ws)
def Lo (p:Str×Bool×Option Str)(l:Str):Prop:=l = "open" \/ (l = "shut" /\ p.2.1=true)\/(l = "locked" /\ p.2.2.isSome=true)
theorem Jl:∀{rs:List Ro}{p:Str×Bool×Option Str},(rs.map Ro.name).Nodup->p∈plc rs->(Aw (Bw rs) (Sum.inr p.1:Ag)).isSome=true->p.2.1=true
 | [],_,_,h,_=>nomatch h
 | .th n s::r,p,nd,h,e=>Jl (rs:=r) (BU.mp nd).2 h e
 | .pl n::r,p,nd,h,e=>by
  rcases AD.mp (show p∈(n,false,none)::plc r from h)with z | z
  ·have hn:n∉r.map Ro.name:=(BU.mp nd).1;have e':(Aw (Bw r) (Sum.inr p.1:Ag)).isSome=true:=e;rw[z,G9 hn]at e';cases e'
  exact Jl (rs:=r) (BU.mp nd).2 z e
 | .bx n::r,p,nd,h,e=>by
  rcases AD.mp (show p∈(n,true,none)::plc r from h)with z | z
  ·rw[z]
  have hne:n≠p.1:=λq=>(BU.mp nd).1 (by rw[show Ro.name (.bx n)=n from rfl,q];exact Ji (EV z));have e':(Aw ((Sum.inr n,V.bl true)::Bw r) (Sum.inr p.1:Ag)).isSome=true:=e;rw[A7 (λq=>hne (Di q))]at e';exact Jl (rs:=r) (BU.mp nd).2 z e'
 | .lk n k::r,p,nd,h,e=>by
  rcases AD.mp (show p∈(n,true,some k)::plc r from h)with z | z
  ·rw[z]
  have hne:n≠p.1:=λq=>(BU.mp nd).1 (by rw[show Ro.name (.lk n k)=n from rfl,q];exact Ji (EV z));have e':(Aw ((Sum.inr n,V.bl true)::Bw r) (Sum.inr p.1:Ag)).isSome=true:=e;rw[A7 (λq=>hne (Di q))]at e';exact Jl (rs:=r) (BU.mp nd).2 z e'
theorem Jo:∀{rs:List Ro}{p:Str×Bool×Option Str},(rs.map Ro.name).Nodup->p∈plc rs->(Aw (BD rs) (Sum.inr p.1:Ag)).isSome=true->p.2.2.isSome=true
 | [],_,_,h,_=>nomatch h
 | .th n s::r,p,nd,h,e=>Jo (rs:=r) (BU.mp nd).2 h e
 | .pl n::r,p,nd,h,e=>by
  rcases AD.mp (show p∈(n,false,none)::plc r from h)with z | z
  ·have hn:n∉r.map Ro.name:=(BU.mp nd).1;have e':(Aw (BD r) (Sum.inr p.1:Ag)).isSome=true:=e;rw[z,FZ hn]at e';cases e'
  exact Jo (rs:=r) (BU.mp nd).2 z e
 | .bx n::r,p,nd,h,e=>by
  rcases AD.mp (show p∈(n,true,none)::plc r from h)with z | z
  ·have hn:n∉r.map Ro.name:=(BU.mp nd).1;have e':(Aw (BD r) (Sum.inr p.1:Ag)).isSome=true:=e;rw[z,FZ hn]at e';cases e'
  exact Jo (rs:=r) (BU.mp nd).2 z e
 | .lk n k::r,p,nd,h,e=>by
  rcases AD.mp (show p∈(n,true,some k)::plc r from h)with z | z
  ·rw[z];rfl
  have hne:n≠p.1:=λq=>(BU.mp nd).1 (by rw[show Ro.name (.lk n k)=n from rfl,q];exact Ji (EV z));have e':(Aw ((Sum.inr n,V.str k)::BD r) (Sum.inr p.1:Ag)).isSome=true:=e;rw[A7 (λq=>hne (Di q))]at e';exact Jo (rs:=r) (BU.mp nd).2 z e'
def Al (rs:List Ro)(x l:Str):Prop:=l = "open" \/ (l = "shut" /\ (Aw (Bw rs) (Sum.inr x:Ag)).isSome=true)\/(l = "locked" /\ (Aw (BD rs) (Sum.inr x:Ag)).isSome=true)
def Al.lo (g:Good rs) (h:p∈plc rs)(a:Al rs p.1 l):Lo p l:=by
 rcases a with a | ⟨a,b⟩ | ⟨a,b⟩
 ·exact .inl a
 ·exact .inr (.inl ⟨a,Jl g.nd h b⟩)
 exact .inr (.inr ⟨a,Jo g.nd h b⟩)
theorem Py {α:Type}{a b:List α}{x:α}:∀{xss:List (List α)}{j:Nat},xss[j]? = some (a++b)->((xss.set j (a++x::b)).flatten).Perm (x::xss.flatten)
 | [],_,h=>by simp at h
 | y::r,0,h=>by
  have e:y=a++b:=by simpa using h
  subst e;rw[List.set_cons_zero,F5,F5];have:(a++x::b++r.flatten)=a++x::(b++r.flatten):=by simp
  rw[this,DZ];exact JV
 | y::r,j+1,h=>by rw[List.set_cons_succ,F5,F5];have ih:=Py (a:=a) (b:=b) (x:=x) (xss:=r) (j:=j) (by simpa using h);exact(EY y ih).trans JV
theorem NH {α:Type}:∀{xss:List (List α)}{h:List α},h∈xss->h.length<=xss.flatten.length
 | y::r,h,hm=>by
  rw[F5,AX];rcases(AD.mp hm)with e | e
  ·rw[e];lia
  have:=NH e;lia
end Rk
namespace SK
open PySem PyProof.Rows
def dd {κ:Type}[DecidableEq κ](val:Nat->κ):Nat->List κ
 | 0=>[]
 | i+1=>if val i∈dd val i then dd val i else dd val i++[val i]
section
variable {κ:Type} [DecidableEq κ] {val:Nat->κ}
theorem Rj:∀i:Nat,(dd val i).length<=i
 | 0=>AA _
 | i+1=>by
  have ih:=Rj i;show(if val i∈dd val i then dd val i else dd val i++[val i]).length<=i+1;split
  ·lia
  rw[AX];show(dd val i).length+1<=i+1;lia
theorem NW:∀{i:Nat}{x:κ},x∈dd val i->∃j,j<i/\x=val j
 | 0,_,h=>nomatch h
 | i+1,x,h=>by
  have h':x∈(if val i∈dd val i then dd val i else dd val i++[val i]):=h;split at h'
  ·obtain⟨j,hj,e⟩:=NW h';exact⟨j,by lia,e⟩
  rcases Cc.mp h' with z | z
  ·obtain⟨j,hj,e⟩:=NW z;exact⟨j,by lia,e⟩
  exact⟨i,by lia,AW.mp z⟩
theorem dd_full (inj:∀i j,i<n->j<n->val i=val j->i=j):∀i:Nat,i<=n->(dd val i).length=i
 | 0,_=>rfl
 | i+1,h=>by
  have ih:=dd_full inj i (by lia);show(if val i∈dd val i then dd val i else dd val i++[val i]).length=i+1;rw[Ai,AX,ih]
  ·rfl
  intro z;obtain⟨j,hj,e⟩:=NW z;have:=inj i j (by lia) (by lia) e;lia
def ZC (i:Nat)(x:κ):decide (x∈dd val (i+1))=(decide (x∈dd val i) || decide (x=val i)):=by
 show decide (x∈(if val i∈dd val i then dd val i else dd val i++[val i]))=_;by_cases h:val i∈dd val i
 ·rw[As h];by_cases e:x=val i
  ·subst e;simp[h]
  simp[e]
 rw[Ai h];simp[Cc]
def ZD (i:Nat):(dd val (i+1)).length=if decide (val i∈dd val i)=true then(dd val i).length else(dd val i).length+1:=by
 show(if val i∈dd val i then dd val i else dd val i++[val i]).length=_;by_cases h:val i∈dd val i
 ·rw[As h,As (AQ h)]
 rw[Ai h,Ai (by simpa using h),AX];rfl
end
section
variable {prog:Program}{w:World}{κ:Type} [DecidableEq κ] {knd:KeyKind prog w κ}{A:Around}{R:Result->Shared->Prop}{I:Addr}{fp wr:List Addr}{G:Array GenState->Array GenState->Prop}{n:Nat}{P:Nat->Value->Prop}{St:Nat->Shared->Prop}
def kept {S:Addr}{h h':Heap}{f:κ->Bool}{m:Nat}(q:h.SetOf knd S f m)(e:∀o,h.get? S=some o->h'.get? S=some o):h'.SetOf knd S f m:=by obtain⟨o,es,ep,t,ho,r⟩:=q;exact⟨o,es,ep,t,e o ho,r⟩
def Rw {S:Addr}{h:Heap}{f g:κ->Bool}{m k:Nat}(q:h.SetOf knd S f m)(e:∀x,f x=g x)(em:m=k):h.SetOf knd S g k:=by have:f=g:=funext e;subst this em;exact q
def Zl (W:WalksS prog w A.in1 I fp wr G n P St)(S:Addr)(nS:S∉fp)(val:Nat->κ)(hv:∀i v,P i v->knd.is (val i) v=true/\v.scannable=true)(hb:n+1<scanBound) :
  ∀(k i:Nat) (s:Shared),n-i=k->i<=n->St i s->s.heap.SetOf knd S (λx=>decide (x∈dd val i)) (dd val i).length ->
   (∀s',Moved (S::wr) G s s'->s'.heap.SetOf knd S (λx=>decide (x∈dd val n)) (dd val n).length->R (.ok (.ret .none)) s') ->
   (codeAny (model prog w) A (.builtin "set.update.loop" ⟨[.ref S,.ref I],[]⟩) R s):=by
 have nw:S∉wr:=λh=>nS (W.sub _ h)
 have sub:∀b∈wr,b∈S::wr:=λb z=>AR _ z
 intro k
 induction k with
 | zero=>
  intro i s hk hi st hS fin;obtain rfl:i=n:=by lia
  refine Fo Sd ?_;rw[Hn Og _];refine Ae (m:=pyNext (.ref I)) (W.done s _ _ st λs1 hm=>?_);exact An (fin s1 (hm.mono sub) (kept hS λo e=>hm.heap S o nw e))
 | succ k ih=>
  intro i s hk hi st hS fin;have lt:i<n:=by lia
  refine Fo Sd ?_;rw[Hn Og _];refine Ae (m:=pyNext (.ref I)) (W.item i s _ _ lt st λv s1 hP st1 hm=>?_);obtain⟨key,sc⟩:=hv i v hP;refine Ae (m:=holding [v] (setAdd S v)) (CZ ?_);unfold setAdd;refine CZ (Ae (knd.pyHash (k:=val i) key ?_));have room:(dd val i).length+1<scanBound:=by have:=Rj (val:=val) i;lia
  refine wpAny_setAddHashed_of (knd:=knd) (s:={ s1 with toks:=s1.toks+1 }) key sc (kept hS λo e=>hm.heap S o nw e) room λh2 sb hS2=>?_;have hS3:h2.SetOf knd S (λx=>decide (x∈dd val (i+1))) (dd val (i+1)).length:=Rw hS2 (λx=>(ZC i x).symm) (ZD i).symm;have oth:∀b o,b≠S->s1.heap.get? b=some o->h2.get? b=some o:=λb o z e=>(sb.2 b z).trans e;refine An ⟨JO Og _,ih (i+1) _ (by lia) lt (W.frame _ s1 h2 (s1.toks+1) st1 (Ft _) λb hb o e=>oth b o (λz=>nS (z ▸ hb)) e) hS3 λs2 hm2 q=>?_⟩;refine fin s2 (Moved.trans W.gtrans ((hm.mono sub).then_heap (Ft _) λb o hb e=>oth b o (λz=>hb (z ▸ AZ)) e) hm2) q
end
section
variable {prog:Program}{w:World}{κ:Type} [DecidableEq κ] {knd:KeyKind prog w κ}{A:Around}{E:Value->Shared->Prop}{s:Shared}
abbrev Fk (led:Bool):Obj:={ cls:=.type "set",dict:=none,data:=.set #[] 0 (.fresh 0 0 led) }
set_option maxHeartbeats 3300000 in
def make {val:Nat->κ} (hh:A.handled=none)(hl:s.heap.IsList l items)(hv:∀i v,items[i]? = some v->knd.is (val i) v=true/\v.scannable=true)(hb:items.size+1<scanBound)
  (q:∀(h':Heap) (tk:Nat),h'.SetOf knd s.heap.objs.size (λx=>decide (x∈dd val items.size)) (dd val items.size).length->(∀b o,s.heap.get? b=some o->h'.get? b=some o)->Q (.ref s.heap.objs.size) { s with heap:=h',toks:=tk }) :
  (wpAny (model prog w) A (call (.type "set") [.ref l]) Q E s):=by
 obtain⟨c,tl,hmro⟩:=Fs.mro
 have hmade:=Fs.made
 have hsub:=Fs.sub
 refine JJ (codeAny_of_tree (show wpAny _ _ (callAny (.type "set") _) _ _ _ from ?_))
 refine An ⟨Code.quiet_builtin _ (by decide +kernel),Fo PySem.F.entry_type_call ?_⟩
 (rw[Around.under_plain (weight_type_call_type "set" [.ref l] []) rfl])
 have h1:=Fs.notType
 have h2:=Fs.canCreate
 have hct:=PySem.F.typeCall_set_1 (.ref l)
 (repeat (any_goals (first | assumption | wp_step)))
 refine Gh (code_set_new_1 (.ref l) (E:=E) (Q₁:=λob s1=>∃led:Bool,ob=.ref s.heap.objs.size/\s1={ s with heap:=s.heap.push { cls:=.type "set",dict:=none,data:=.set #[] 0 (.fresh 0 0 led) } }) λled=>⟨led,rfl,rfl⟩) λr s1 hr=>?_
 cases r with
 | error e=>exact hr
 | ok fl=>
  cases fl with
  | ret ob=>
   obtain⟨led,rfl,rfl⟩:=hr;have hS:(s.heap.push (Fk led)).get? s.heap.objs.size=some (Fk led):=BI _ rfl;have hT:Shared.TypeIs { s with heap:=s.heap.push (Fk led) } (.ref s.heap.objs.size) "set" := ⟨_,hS,rfl⟩;have hli:=Fs.init.lookup;have hbi:=Fs.init.bind (.ref s.heap.objs.size);(repeat (any_goals (first | assumption | wp_step)));refine Gh (OB (R:=wants (λr s2=>r=.none/\∃h' tk,s2={ s with heap:=h',toks:=tk }/\h'.SetOf knd s.heap.objs.size (λx=>decide (x∈dd val items.size)) (dd val items.size).length /\ (∀b o,s.heap.get? b=some o->h'.get? b=some o)) E) Fs.init.plain PySem.F.entry_set_init (check_set_init_1 hT ?_)) λr2 s2 hr2=>?_
   ·obtain⟨⟨ocls,odict,odata,oslots⟩,hol,hcl,nl,hdl⟩:=hl;simp only at hcl hdl;subst hcl hdl;have hol':(s.heap.push (Fk led)).get? l=some { cls:=.type "list",dict:=odict,data:=.seq items nl,slots:=oslots }:=Bf _ hol;have x1:=PySem.F.sub_list_set;have x2:=PySem.F.sub_list_frozenset;have x3:(Value.type "list" == Value.type "dict")=false:=by decide
    have hl1:(s.heap.push (Fk led)).IsList l items:=⟨_,hol',rfl,nl,rfl⟩;(unfold Builtin.«set.__init__» noKeywords Builtin.Frozenset.updateFrom);generalize hPI:pyIter=PI;wp_walk;subst hPI;(refine Oo hl1 ?_);(refine Ae (wpAny_runValue ?_));have lt:l<s.heap.objs.size:=A3 hol;have sz:(s.heap.push (Fk led)).objs.size=s.heap.objs.size+1:=JS ..;(have hh3:A.in1.in1.in1.handled=none:=by simp[hh]);have ne1:l≠(s.heap.push (Fk led)).objs.size:=by rw[sz];exact Bo (HA lt)
    have nS:s.heap.objs.size∉[(s.heap.push (Fk led)).objs.size,l]:=by rw[sz];simp only[AD,B6,B4,not_or];exact⟨Bo (JM _),ne_of_gt lt⟩
    refine Zl (knd:=knd) ((Walks.list hh3 _ l ne1 items).toS) s.heap.objs.size nS val hv hb (items.size-0) 0 _ (by lia) (Be _) ⟨⟨_,BI _ rfl,rfl,rfl⟩,hl1.push _⟩ ?_ λs3 hm q3=>?_
    ·have g:=Bf ({ cls:=.type "list_iterator",data:=.fields #[.ref l,.int 0 0] }:Obj) hS;exact Rw ((PyProof.Rows.setObjOf_fresh (knd:=knd) led).setOf g (by unfold scanBound;lia)) (λx=>by simp[dd]) rfl
    obtain⟨h3,g3,d3,tk3,os3⟩:=s3;obtain⟨m1,m2,m3,m4,m5⟩:=hm;have eg:g3=s.gens:=m2;have ed:d3=s.drawn:=m3;have es:os3=s.os:=m4;subst eg ed es;refine An (An ⟨rfl,h3,tk3,rfl,q3,λb o e=>m1 b o ?_ (Bf _ (Bf _ e))⟩);have lb:b<s.heap.objs.size:=A3 e;rw[sz];simp only[AD,B6,B4,not_or];exact⟨Bo lb,Bo (HA lb)⟩
   cases r2 with
   | error e=>exact hr2
   | ok fl2=>
    cases fl2 with
    | ret r=>obtain⟨rfl,h',tk,rfl,a1,a2⟩:=hr2;(repeat (any_goals (first | assumption | wp_step)));exact q _ _ a1 a2
    | _=>exact hr2.elim
  | _=>exact hr.elim
end
end SK
namespace L2
open PySem PySem.Spec PyProof.Rows
theorem L7:∀{xs:List V}{us:List Value},xs.length=us.length->(∀(i:Nat) x u,xs[i]? = some x->us[i]? = some u->RelV x u)->Vals xs us
 | [],[],_,_=>.nil
 | [],_::_,h,_=>by(simp at h)
 | _::_,[],h,_=>by(simp at h)
 | x::xs,u::us,h,r=>.cons (r 0 x u rfl rfl) (L7 (by simpa using h) λi y v hy hv=>r (i+1) y v (by simpa using hy) (by simpa using hv))
theorem KV.get:∀{kvs:List (Ag×V)}{vs:List (Ag×Value)}{i:Nat}{k:Ag}{u:Value},KV kvs vs->vs[i]? = some (k,u)->∃v,kvs[i]? = some (k,v)/\RelV v u
 | _,_,_,_,_,.nil,e=>by simp at e
 | _,_,0,_,_,.cons (a:=p) r _,e=>by simp at e;subst e;obtain⟨e1,e2⟩:=r;obtain⟨p1,p2⟩:=p;cases e1;exact⟨p2,rfl,e2⟩
 | _,_,i+1,_,_,.cons _ t,e=>by obtain⟨v,h1,h2⟩:=KV.get (i:=i) t (by simpa using e);exact⟨v,by simpa using h1,h2⟩
section
variable {X:Cx}
def RJ (hc:X.calm=true):Cw X (.type "list") (λxs H Q=>∃p kvs,xs=[.ref p]/\Rd H p (.dK kvs)/\∀l,H l=none->Q (.ref l) (Ac H l (.lst (kvs.map λkv=>kV kv.1)))):=by
 intro pins s σ H xs us Q I r h;obtain⟨p,kvs,rfl,hp,q⟩:=h;obtain⟨u,rfl,ru⟩:=Da r;cases ru;obtain⟨hz,hm,vs,hkv,hd⟩:=F2 I.hok hp;obtain⟨ep,hat⟩:=hd.dictAt;have hl:=hkv.length;refine PySem.W.kdl_call (PySem.W.kdl_dict (knd:=BS X.prog X.w) (kvs:=vs) (ep:=ep) hm) (I.ok.hd hc) hat (by lia) λh' tk acc c hk hS hacc=>?_;refine⟨.ref _,_,I.laid (a:=s.heap.objs.size) (o:=.lst (kvs.map λkv=>kV kv.1)) hk (AA _) ⟨by rw[Ar];exact hz,acc.toList,c,L7 ?_ λi x u hx hu=>?_,hS⟩,rfl,q _ (I.hok.fresh (AA _))⟩
 ·have el:acc.toList.length=acc.size:=by simp
  rw[Ar,el,hacc.1,hl]
 obtain⟨k,z,e1,e2⟩:=hacc.2 i u (by simpa using hu);obtain⟨v,e3,_⟩:=KV.get hkv e1;rw[A6,e3]at hx;have hx':x=kV k:=(Bx hx).symm;subst hx';rcases Eo (show Fi k u=true from e2)with⟨j,t,rfl,rfl⟩ | ⟨y,t,rfl,rfl⟩
 ·exact⟨t,rfl⟩
 exact⟨t,rfl⟩
def RK (hc:X.calm=true):Cw X (.builtin "all") (λxs H Q=>∃(p:Addr) (bs:List Bool),xs=[.ref p]/\SqL X.K H p (bs.map V.bl)/\Q (.bl (bs.all λb=>b)) H):=by
 intro pins s σ H xs us Q I r h;obtain⟨p,bs,rfl,hp,q⟩:=h;obtain⟨u,rfl,ru⟩:=Da r;cases ru;obtain⟨its,rv,pl,hz⟩:=I.list hp;have hlen:=rv.length;rw[Ar]at hlen;have hlt:p<s.heap.objs.size:=by obtain⟨o,n,e,_⟩:=pl;exact A3 e
 refine call_all_walk (Oo pl.isList ⟨s.heap.objs.size,_,_,_,_,_,λi=>bs.getD i true,rfl,Walks.list (show X.A.in1.handled=none from I.ok.hd hc) _ p (Bo hlt) its.toArray,⟨⟨_,BI _ rfl,rfl,rfl⟩,pl.isList.push _⟩,λi v s2 Q2 E2 hP hQ=>?_,λh' tk hk=>?_⟩)
 ·have hi:its[i]? = some v:=by simpa using hP
  have hib:i<bs.length:=by have:=(AK.mp hi).1;lia
  obtain⟨u',hu',ru⟩:=rv.get (i:=i) (x:=.bl bs[i]) (by simp[hib]);rw[hi]at hu';cases hu';cases ru;refine EU ?_;have e:bs.getD i true=bs[i]:=by simp[List.getD,hib]
  rw[<- e];exact hQ
 refine⟨.bl _,H,I.kept (t':=tk) (λb o e=>hk b o ?_ (Bf _ e)),rfl,?_⟩
 ·intro z;rw[AW]at z;exact absurd (A3 e) (by rw[z];exact EC _)
 have e:(List.range its.toArray.size).all (λi=>bs.getD i true)=bs.all λb=>b:=by
  rw[BH,<- hlen];(rw[HD,DW,DW]);constructor
  ·intro a b hb;(obtain⟨i,hi,rfl⟩:=List.getElem_of_mem hb);have:=a i (Gc.mpr hi);simpa [List.getD,hi] using this
  intro a i hi;(have hi':=Gc.mp hi);have:=a bs[i] (Dy hi');simpa [List.getD,hi'] using this
 rw[e];exact q
def Gy (P:Program)(w:World)(a:Addr)(n:Nat):HO:=.ext λh=>∃S,h.SetOf (BS P w) a S n
def Cv (ks:List Ag)(i:Nat):Ag:=ks.getD i (.inl 0)
def N4 (hc:X.calm=true):Cw X (.type "set") (λxs H Q=>∃p ks,xs=[.ref p]/\SqL X.K H p (ks.map kV)/\ks.length<=1000/\∀a,H a=none->Q (.ref a) (Ac H a (Gy X.prog X.w a (SK.dd (Cv ks) ks.length).length))):=by
 intro pins s σ H xs us Q I r h;obtain⟨p,ks,rfl,hp,hk,q⟩:=h;obtain⟨u,rfl,ru⟩:=Da r;cases ru;obtain⟨its,rv,pl,hz⟩:=I.list hp;have hlen:=rv.length;rw[Ar]at hlen;refine SK.make (knd:=BS X.prog X.w) (val:=Cv ks) (I.ok.hd hc) pl.isList (λi v hv=>?_) (by rw[BH];unfold scanBound;lia) λh' tk hS kp=>?_
 ·have hi:its[i]? = some v:=by simpa using hv
  have hib:i<ks.length:=by have:=(AK.mp hi).1;lia
  obtain⟨u',hu',ru⟩:=rv.get (i:=i) (x:=kV ks[i]) (by simp[hib]);rw[hi]at hu';cases hu';have e:Cv ks i=ks[i]:=by simp[Cv,List.getD,hib]
  rw[e];refine⟨EL ru,?_⟩;cases hkk:ks[i]with
  | inl j=>rw[hkk]at ru;obtain⟨t,rfl⟩:=ru;rfl
  | inr y=>rw[hkk]at ru;obtain⟨t,rfl⟩:=ru;rfl
 have es:its.toArray.size=ks.length:=by simp[hlen]
 rw[es]at hS;refine⟨.ref _,_,I.laid (a:=s.heap.objs.size) (o:=Gy X.prog X.w s.heap.objs.size (SK.dd (Cv ks) ks.length).length) kp (AA _) ⟨⟨_,hS⟩,?_,λh1 h2 f1 e=>?_⟩,rfl,q _ (I.hok.fresh (AA _))⟩
 ·obtain⟨o,_,_,_,e,_⟩:=hS;exact⟨o,e⟩
 obtain⟨S,z⟩:=f1;exact⟨S,SK.kept z e⟩
def N6:Cw X (.builtin "len") (λxs H Q=>∃a n,xs=[.ref a]/\H a=some (Gy X.prog X.w a n)/\Q (.int n) H):=by intro pins s σ H xs us Q I r h;obtain⟨a,n,rfl,ha,q⟩:=h;obtain⟨u,rfl,ru⟩:=Da r;cases ru;obtain⟨⟨S,o,es,ep,t,ho,ex,hd,_,_,hb,hf,hn⟩,_,_⟩:=I.hok a _ ha;refine call_len_set ho ex hd hf (by unfold scanBound at hb;lia) ⟨.int n,H,I.tok _,⟨_,by rw[hn]⟩,q⟩
end
def Ss (x:Str):It:=⟨λi _=>i<x.cps.size,λi H v H'=>H'=H/\∃c,x.cps[i]? = some c/\v=.str ⟨#[c]⟩,λi _=>x.cps.size<=i⟩
theorem SO {P:Program}{w:World}{K:W.Frag}{tg:Expr}(it:Addr)(x:Str)(t:Tok):Gn P w K tg (Ss x) [it] it (λi h=>h.IsStrIter it "str_ascii_iterator" x t i) where
 mem:=by simp
 obj:=λi h st b hb=>by
  have e:b=it:=by simpa using hb
  subst e;obtain⟨o,e,c,d⟩:=st;exact⟨o,e,λv z=>by rw[d]at z;cases z⟩
 keep:=λi h h' st k=>by obtain⟨o,e,r⟩:=st;exact⟨o,k it (by simp) o e,r⟩
 item:=by intro X hP hw hK hc i pins s σ H E I hf st hg;subst hP hw hK;obtain⟨f0,f1,f2,f3,f4,f5⟩:=hf it (by simp);have hi:i<x.cps.size:=hg;refine wpAny_pyNext_ascii_item st (c:=x.cps[i]) (by simp[hi]) λh' st' sb=>?_;have I1:Inv X pins σ H { s with heap:=h',toks:=s.toks+1 }:=I.turned (λb o hb e=>(sb.2 b hb).trans e) f0 f1 f3 f4 f5;obtain⟨o,e,c,d⟩:=id st';exact⟨_,rfl,Lc (s:={ s with heap:=h',toks:=s.toks+1 }) e c d (by decide) ⟨.str ⟨#[x.cps[i]]⟩,H,I1,⟨_,rfl⟩,⟨rfl,_,by simp[hi],rfl⟩,st',λb hb=>(hf b hb).1⟩⟩
 done:=by intro X hP hw hK hc i pins s σ H E I hf st hg;subst hP hw hK;obtain⟨f0,f1,f2,f3,f4,f5⟩:=hf it (by simp);have hi:x.cps.size<=i:=hg;exact wpAny_pyNext_ascii_end (I.ok.hd hc) st (by simp[hi]) λh' eb=>⟨rfl,I.turned (t':=s.toks) (λb o hb e=>eb b o hb e) f0 f1 f3 f4 f5⟩
 self:=λ_ _ _ _ _ st h=>wpAny_pyIter_striter_ascii st h
def YU (tl:TE):TI:=λσ H R=>tl σ H λv H1=>∃x,v=.str x/\x.cps.all (· < 128)=true/\R (Ss x) H1
def Vm (hl:PE X l tl):PI X tg l (YU tl):=by
 intro pins s σ H R I h;refine Ao (hl pins s σ H _ I h) λv s1 hp0=>?_;obtain⟨y,H1,I1,r1,q1⟩:=hp0;obtain⟨x,e,ha,q⟩:=q1;subst e;obtain⟨t,rfl⟩:=r1;refine wpAny_pyIter_ascii ha ⟨s1.heap.objs.size,[s1.heap.objs.size],_,_,H1,rfl,I1.kept (t':=s1.toks) λb o e=>Bf _ e,SO _ x t,⟨_,BI _ rfl,rfl,rfl⟩,λb hb=>?_,q⟩;have e:b=s1.heap.objs.size:=by simpa using hb
 subst e;exact I1.fpOk (AA _) (I1.hok.fresh (AA _))
end L2
namespace ZN
open PySem PyProof.Rows
end ZN
namespace L2
open PySem PySem.Spec PyProof.Rows
theorem KV.get2:∀{kvs:List (Ag×V)}{vs:List (Ag×Value)}{i:Nat}{k:Ag}{v:V},KV kvs vs->kvs[i]? = some (k,v)->∃u,vs[i]? = some (k,u)/\RelV v u
 | _,_,_,_,_,.nil,e=>by simp at e
 | _,_,0,_,_,.cons (b:=p) r _,e=>by simp at e;subst e;obtain⟨e1,e2⟩:=r;obtain⟨p1,p2⟩:=p;cases e1;exact⟨p2,rfl,e2⟩
 | _,_,i+1,_,_,.cons _ t,e=>by obtain⟨v,h1,h2⟩:=KV.get2 (i:=i) t (by simpa using e);exact⟨v,by simpa using h1,h2⟩
def Gs (v a:Addr):HO:=.ext λh=>h.IsValuesView v a
section
variable {X:Cx}
def Ya:HI X "dict.values" (λx xs H Q=>∃a kvs,x=.ref a/\xs=[]/\H a=some (.dK kvs)/\∀v,H v=none->Q (.ref v) (Ac H v (Gs v a))):=by intro pins s σ H x xs v us Q I rx rv h;obtain⟨a,kvs,rfl,rfl,ha,q⟩:=h;cases rx;cases rv;obtain⟨hz,hm,vs,hkv,hd⟩:=Hi I.hok ha;refine call_meetsIn PySem.F.slot_dict_values hd.typeIs PySem.F.entry_dict_values (PySem.F.args_dict_values_1 _) (meets_dict_values (BS X.prog X.w) a hm) ⟨⟨vs,hd⟩,?_⟩;refine⟨.ref s.heap.objs.size,_,I.laid (t':=s.toks) (o:=Gs s.heap.objs.size a) (λb o e=>Bf _ e) (AA _) ⟨⟨_,BI _ rfl,rfl,rfl⟩,⟨_,BI _ rfl⟩,λh1 h2 f e=>?_⟩,rfl,q _ (I.hok.fresh (AA _))⟩;obtain⟨o,ho,r⟩:=f;exact⟨o,e o ho,r⟩
def Inv.freeze (I:Inv X pins σ H s)(ha:H a=some (.dK kvs))(ho:s.heap.get? a=some o):Inv X pins σ (Ac H a (.frz o (.dK kvs))) s:=by
 have hne:∀b,H b=none->b≠a:=λb e z=>by rw[z,ha]at e;cases e
 have keep:∀b u,H b=some u->u≠.dK kvs->Ac H a (.frz o (.dK kvs)) b=some u:=λb u e d=>by rw[Aj (BJ e ha d)];exact e
 have st:Inv X pins σ (Ac H a (.frz o (.dK kvs))) { s with heap:=s.heap,gens:=s.gens,drawn:=s.drawn,toks:=s.toks }:=by
  refine I.step (g':=s.gens) (t':=s.toks) (d':=s.drawn) (ch:=[]) (λb hb=>nomatch hb) (λb o _ _ _ e _=>e) (λb o _ _ _ e _=>⟨o.slots,e⟩) (λb o _ e n=>by rw[Aj (hne b n)];exact n) (λb o _ e=>⟨o,e⟩)
   (λb xs e=>keep b _ e (by intro z;cases z)) (λb o u e=>keep b _ e (by intro z;cases z)) (λb ps e=>⟨#[],by rw[keep b _ e (by intro z;cases z)];simp⟩) (λm hm=>hm) (λb u e=>?_) I.bare
  by_cases hb:b=a
  ·subst hb;rw[Ak]at e;cases e;exact⟨ho,I.hok _ _ ha⟩
  rw[Aj hb]at e;exact(I.hok b u e).stay (λc v _ q=>q) (λc q=>keep c _ q (by intro z;cases z)) λc xs q=>keep c _ q (by intro z;cases z)
 exact st
end
def J0 (a:Addr)(o:Obj)(kvs:List (Ag×V)):It:=
 ⟨λi H=>i<kvs.length/\H a=some (.frz o (.dK kvs)),λi H x H'=>H'=H/\∃k,kvs[i]? = some (k,x),λi H=>kvs.length<=i/\H a=some (.frz o (.dK kvs))⟩
def Re (I:Inv X pins σ H s)(ha:H a=some (.frz o (.dK kvs)))(hd:o.data=.dict es ep) :
  ∃vs,KV kvs vs/\s.heap.DictAt (BS X.prog X.w) a vs ep:=by
 obtain⟨ho,hz,hm,vs,hkv,o',es',ep',ho',ex,hd',r⟩:=I.hok a _ ha
 rw[ho]at ho'
 cases ho'
 rw[hd]at hd'
 cases hd'
 exact⟨vs,hkv,o,es,ho,ex,hd,r⟩
theorem SN {P:Program}{w:World}{K:W.Frag}{tg:Expr}(it a:Addr)(o:Obj)(kvs:List (Ag×V))(es:Array DictEntry)(ep:Nat)(hd:o.data=.dict es ep) :
  Gn P w K tg (J0 a o kvs) [it] it (λi h=>h.IsValIter it a i kvs.length ep) where
 mem:=by simp
 obj:=λi h st b hb=>by
  have e:b=it:=by simpa using hb
  subst e;obtain⟨o,e,c,d⟩:=st;exact⟨o,e,λv z=>by rw[d]at z;cases z⟩
 keep:=λi h h' st k=>by obtain⟨o,e,r⟩:=st;exact⟨o,k it (by simp) o e,r⟩
 item:=by intro X hP hw hK hc i pins s σ H E I hf st hg;subst hP hw hK;obtain⟨f0,f1,f2,f3,f4,f5⟩:=hf it (by simp);obtain⟨hi,ha⟩:=hg;obtain⟨vs,hkv,hat⟩:=Re I ha hd;have hl:=hkv.length;have hx:kvs[i]? = some (kvs[i].1,kvs[i].2):=Bi hi;obtain⟨u,hu,ru⟩:=KV.get2 hkv hx;rw[hl]at st;refine wpAny_pyNext_values_item (knd:=BS X.prog X.w) st hat hu λh' st' sb=>?_;have I1:Inv X pins σ H { s with heap:=h' }:=I.turned (t':=s.toks) (λb o hb e=>(sb.2 b hb).trans e) f0 f1 f3 f4 f5;obtain⟨o',e,c,d⟩:=id st';rw[<- hl]at st';exact⟨u,rfl,Lc (s:={ s with heap:=h' }) e c d (by decide) ⟨kvs[i].2,H,I1,ru,⟨rfl,_,hx⟩,st',λb hb=>(hf b hb).1⟩⟩
 done:=by intro X hP hw hK hc i pins s σ H E I hf st hg;subst hP hw hK;obtain⟨f0,f1,f2,f3,f4,f5⟩:=hf it (by simp);obtain⟨hi,ha⟩:=hg;obtain⟨vs,hkv,hat⟩:=Re I ha hd;have hl:=hkv.length;rw[hl]at st;exact wpAny_pyNext_values_end (knd:=BS X.prog X.w) (I.ok.hd hc) st hat (getElem?_eq_none (by lia)) λh' eb=>⟨rfl,I.turned (t':=s.toks) (λb o hb e=>eb b o hb e) f0 f1 f3 f4 f5⟩
 self:=λ_ _ _ _ _ st h=>wpAny_pyIter_valiter st h
def YT (tl:TE):TI:=λσ H R=>tl σ H λx H1=>∃v a kvs,x=.ref v/\H1 v=some (Gs v a)/\H1 a=some (.dK kvs)/\∀o,R (J0 a o kvs) (Ac H1 a (.frz o (.dK kvs)))
def Vl (hl:PE X l tl):PI X tg l (YT tl):=by
 intro pins s σ H R I h;refine Ao (hl pins s σ H _ I h) λu s1 hp0=>?_;obtain⟨x,H1,I1,r1,q1⟩:=hp0;obtain⟨v,a,kvs,rfl,hv,ha,q⟩:=q1;cases r1;obtain⟨hz,hm,vs,hkv,o,es,ep,ho,ex,hd,r⟩:=Hi I1.hok ha;have hat:s1.heap.DictAt (BS X.prog X.w) a vs ep:=⟨o,es,ho,ex,hd,r⟩;obtain⟨view,_,_⟩:=I1.hok v _ hv;have hl':=hkv.length;refine wpAny_pyIter_values (knd:=BS X.prog X.w) view hat ⟨s1.heap.objs.size,[s1.heap.objs.size],_,_,Ac H1 a (.frz o (.dK kvs)),rfl,(I1.freeze ha ho).kept (t':=s1.toks) (λb o e=>Bf _ e),SN _ a o kvs es ep hd,⟨_,BI _ rfl,rfl,by rw[hl'] <;> rfl⟩,λb hb=>?_,q o⟩;have e:b=s1.heap.objs.size:=by simpa using hb
 subst e;exact(I1.freeze ha ho).fpOk (AA _) ((I1.freeze ha ho).hok.fresh (AA _))
def HG (K:W.Frag)(v:V)(d:PyData):Prop:=∀(h:Heap) (u:Value),K.In h->RelV v u->∃as,Reads h u d as
def CO:List Value->Option (List V)
 | []=>some []
 | u::r=>match CY u,CO r with
  | some v,some vs=>some (v::vs)
  | _,_=>none
def Eg (h:CY u=some v):RelV v u:=by
 cases u with
 | none=>cases h;rfl
 | bool b=>cases h;rfl
 | int i t=>cases h;exact⟨t,rfl⟩
 | str x t=>cases h;exact⟨t,rfl⟩
 | bytes b t=>cases h;exact⟨t,rfl⟩
 | float b t=>cases h;exact⟨t,rfl⟩
 | ref a=>cases h;rfl
 | type n=>cases h;rfl
 | _=>cases h
theorem C2:∀{us:List Value}{vs:List V},CO us=some vs->Vals vs us
 | [],_,h=>by cases h;exact .nil
 | u::r,vs,h=>by
  unfold CO at h;cases e1:CY u with
  | none=>rw[e1]at h;cases h
  | some v=>
   cases e2:CO r with
   | none=>rw[e1,e2]at h;cases h
   | some ws=>rw[e1,e2]at h;cases h;exact .cons (Eg e1) (C2 e2)
def Q3:V->Option PyData
 | .non=>some .none
 | .int i=>some (.int i)
 | .str x=>some (.str x)
 | _=>none
def UW (e:Q3 v=some d)(r:RelV v u):∃as,Reads h u d as:=by
 cases v with
 | non=>cases e;cases r;exact⟨_,.none⟩
 | int i=>cases e;obtain⟨t,rfl⟩:=r;exact⟨_,.int i t⟩
 | str x=>cases e;obtain⟨t,rfl⟩:=r;exact⟨_,.str x t⟩
 | _=>cases e
theorem PV :∀{vs:List V}{ds:List PyData}{us:List Value},Vals vs us->Paired (λv d=>∀u,RelV v u->∃as,Reads h u d as) vs ds->∃as,ReadsAll h us ds as
 | _,_,_,.nil,.nil=>⟨_,.nil⟩
 | _,_,_,.cons r1 r2,.cons p1 p2=>by obtain⟨as,a⟩:=p1 _ r1;obtain⟨bs,b⟩:=PV r2 p2;exact⟨_,.cons a b⟩
def Io {K:W.Frag}{a:Addr}{od:Option Addr}{its:Array Value}{n:Nat}{sl:Array (Option Value)}{vs:List V}{ds:List PyData}(l:K.lookup a=some ⟨.type "tuple",od,.seq its n,sl⟩)(ab:CO its.toList=some vs)(r:Paired (HG K) vs ds):HG K (.ref a) (.tuple ds):=by
 intro h u kin ru;cases ru
 have go:∀{vs:List V}{ds:List PyData},Paired (HG K) vs ds->Paired (λv d=>∀u,RelV v u->∃as,Reads h u d as) vs ds:=by
  intro vs ds p;induction p with
  | nil=>exact .nil
  | cons a _ ih=>exact .cons (λu ru=>a h u kin ru) ih
 obtain⟨as,q⟩:=PV (h:=h) (C2 ab) (go r);exact⟨as,.tuple (kin a _ l) rfl rfl q⟩
def Fc {K:W.Frag}{v:V}{d:PyData}(e:Q3 v=some d):HG K v d:=λ_ _ _ r=>UW e r
section
variable {X:Cx}
def U3 (K:W.Frag):R2:=λx y H Q=>∃d ds,RdV H x d/\HG K y (.tuple ds)/\PySem.SeqAt.shaped d=true/\PySem.SeqAt.shaped (PyData.tuple ds)=true/\Q (.bl (!ds.any λe=>PyData.eqv e d)) H
def Qr (hu:X.A.units+65<cLine):By X (compareOp .NotIn) (U3 X.K):=by intro pins s σ H x y v u Q I rx ry h;obtain⟨d,ds,r1,r2,h1,h2,q⟩:=h;obtain⟨as,a⟩:=r1.reads I.hok rx;obtain⟨bs,b⟩:=r2 s.heap u I.kIn ry;exact PySem.SeqAt.notIn_tuple_reads b a (OM h2) (OM h1) (room_in_shaped h1 hu) ⟨.bl _,H,I,rfl,q⟩
def Q9 (x:Str):Str.empty++x=x:=by
 cases x with | mk a=>
 show Str.mk (#[]++a)=Str.mk a;rw[Array.empty_append]
end
def Hj:bootBuiltins "list" = some (.type "list"):=by decide +kernel
def N8:bootBuiltins "set" = some (.type "set"):=by decide +kernel
def RL:bootBuiltins "all" = some (.builtin "all"):=by decide +kernel
end L2
namespace ZN
open PySem PyProof.Rows
end ZN
namespace L2
open PySem PySem.Spec PyProof.Rows
end L2
namespace ZN
open PySem PyProof.Rows
end ZN
namespace L2
open PySem PySem.Spec PyProof.Rows
section
variable {X:Cx}
def P0 {P:Program}{w:World}{H:Hp}{h:Heap}(ok:HOk P w H h){a:Addr}{xs:List Str}(e:H a=some (.lst (xs.map V.str))):∃as,Reads h (.ref a) (.list (xs.map PyData.str)) as:=by obtain⟨z,its,n,r,ho⟩:=ok a _ e;obtain⟨as,ra⟩:=RdVs.reads ok (RdVs.strs (H:=H) xs) r;exact⟨_,.list ho rfl rfl (by simpa using ra)⟩
end
def Rq {k:Nat}(h:k<=xs.length):A5 xs (some ((k:Nat):Int)) none=xs.drop k:=by unfold A5;rw[HT.sIx_none,HT.sIx_nat,Oh h];refine Fp ?_;rw[DY];exact AA _
end L2
namespace L2
open PySem PySem.Spec PyProof.Rows PySem.W
section
variable {P:Program}{w:World}
def ObjOk.there (x:ObjOk P w H h a o):∃ob,h.get? a=some ob:=by
 cases o with
 | lst xs=>obtain⟨_,_,_,_,e⟩:=x;exact⟨_,e⟩
 | tup xs=>obtain⟨_,_,_,ob,e,_⟩:=x;exact⟨_,e⟩
 | dK kvs=>obtain⟨_,_,_,_,o,_,_,e,_⟩:=x;exact⟨_,e⟩
 | dT kvs=>obtain⟨_,_,_,_,o,_,_,e,_⟩:=x;exact⟨_,e⟩
 | set S n=>obtain⟨o,_,_,_,e,_⟩:=x;exact⟨_,e⟩
 | ins C dx fs=>obtain⟨_,_,_,e,_⟩:=x;exact⟨_,e⟩
 | own y=>exact x
 | xd fs=>obtain⟨_,⟨_,_,_,e,_⟩,_⟩:=x;exact⟨_,e⟩
 | rng lo hi=>obtain⟨_,_,_,e⟩:=x;exact⟨_,e⟩
 | frz ob u=>obtain⟨e,_⟩:=x;exact⟨_,e⟩
 | tbl ps=>exact⟨_,x⟩
 | met f y=>exact⟨_,x⟩
 | ext φ=>obtain⟨_,e,_⟩:=x;exact e
structure HM (P:Program)(w:World)(outer:List Env)(H:Hp)(s:Shared)(a:Addr)(H':Hp)(B:Heap)(s':Shared):Prop where
 os:s'.os=s.os
 bare:AllBare s'.gens
 un:Un (Bn outer) [] H H' s.heap s'.heap
 hok:HOk P w H' s'.heap
 funs:s'.heap.FunFrames B outer
 new:H' a=none
 fresh:s.heap.get? a=none
 k1:∀b o,s.heap.get? b=some o->H b=none->b∉Bn outer->B.get? b=some o
 k2:∀c v,H' c≠none->s'.heap.get? c=some v->B.get? c=some v
 k3:∀b o,s.heap.get? b=some o->b∉Bn outer->∃o',B.get? b=some o'
def CXe (P:Program)(w:World):C9:=λouter H s E e s'=>∃(a C t:Addr) (H':Hp) (B:Heap),e=.ref a/\HM P w outer H s a H' B s'/\Heap.FlyingW B outer a (.ref C) (.ref t) s'.heap/\E e (some C) H'
def Q1 (I:Inv X pins σ H s)(hex:X.ex=[])(hst:X.stack=env::outer)(hout:X.outer=outer)(hf:env.frame=some X.env.locals)
  (F:HM X.prog X.w X.stack H s a H' B s'){t:Addr}(hfl:Heap.FlyingW B outer a (.ref C) (.ref t) h')(ups:s'.heap.UpToSlots h'):HM X.prog X.w outer X.H₀ X.s₀ a H' B { s' with heap:=h' }:=by
 subst hout
 have hsub:∀b,b∈X.fs->b∈Bn X.stack:=λb hb=>by rw[hst];unfold Bn;rw[Fn,hf];exact AR _ hb
 have hmem:∀b,b∈Bn X.stack->b=X.env.locals\/b∈X.fs:=λb hb=>by rw[hst]at hb;unfold Bn at hb;rw[Fn,hf]at hb;exact AD.mp hb
 have hold:∀b o,X.s₀.heap.get? b=some o->b≠X.env.locals:=λb o e z=>by have h1:=A3 e;rw[z]at h1;exact absurd (Cf h1 I.ok.above) (EC _)
 have nex:∀b:Addr,b∉X.ex:=λb z=>by rw[hex]at z;cases z
 have hout2:∀b o,X.s₀.heap.get? b=some o->b∉X.fs->b∉Bn X.stack:=λb o e hb z=>by
  rcases hmem b z with q | q
  ·exact hold b o e q
  exact hb q
 have k1:∀b o,X.s₀.heap.get? b=some o->X.H₀ b=none->b∉X.fs->B.get? b=some o:=λb o e n hb=>F.k1 b o (I.base.keep b o e n hb (nex b)) (I.base.free b o e n (nex b)) (hout2 b o e hb)
 have hok:HOk X.prog X.w H' h':=λb u e=>(F.hok b u e).stay (λc v hc q=>hfl.1 c v (F.k2 c v (by
  rcases hc with z | z
  ·rw[z,e];intro z;cases z
  rw[z];intro z;cases z) q)) (λ_ q=>q) λ_ _ q=>q
 have slot:∀b o,X.s₀.heap.get? b=some o->X.H₀ b=none->b∈X.fs->∃sl,h'.get? b=some { o with slots:=sl }:=λb o e n hb=>by obtain⟨sl,e1⟩:=I.base.slot b o e n hb (nex b);obtain⟨sl2,e2⟩:=F.un.slot b _ e1 (I.base.free b o e n (nex b)) (hsub b hb) (by simp);obtain⟨_,o',ho',hd⟩:=F.funs.mem (hsub b hb);rw[e2]at ho';cases ho';obtain⟨sl3,e3⟩:=ups b _ e2 hd;exact⟨sl3,e3⟩
 have free:∀b o,X.s₀.heap.get? b=some o->X.H₀ b=none->H' b=none:=λb o e n=>by obtain⟨sl,e1⟩:=I.base.any e n (nex b);exact F.un.free b _ e1 (I.base.free b o e n (nex b)) (by simp)
 have there:∀b o,X.s₀.heap.get? b=some o->∃o',h'.get? b=some o':=λb o e=>by
  by_cases hb:b∈X.fs
  ·have n:=I.ok.frf b hb;obtain⟨sl,q⟩:=slot b o e n hb;exact⟨_,q⟩
  obtain⟨o1,e1⟩:=I.base.there b o e (nex b);obtain⟨o2,e2⟩:=F.k3 b o1 e1 (hout2 b o e hb);exact⟨o2,hfl.1 b o2 e2⟩
 refine⟨F.os.trans I.os,F.bare,⟨λb o e n hb _=>hfl.1 b o (k1 b o e n hb),λb o e n hb _=>slot b o e n hb,λb o e n _=>free b o e n,λb o e _=>there b o e,λb xs q=>F.un.tups b xs (I.base.tups b xs q),λb o u q=>F.un.frzs b o u (I.base.frzs b o u q),λb ps q=>?_⟩,hok,hfl.2.2.1,F.new,?_,k1,λc v hc q=>?_,λb o e hb=>?_⟩
 ·obtain⟨m1,q1⟩:=I.base.tbls b ps q;obtain⟨m2,q2⟩:=F.un.tbls b _ q1;exact⟨m1++m2,by rw[q2,Ox]⟩
 ·cases z:X.s₀.heap.get? a with
  | none=>rfl
  | some o=>obtain⟨o',e'⟩:=I.base.there a o z (nex a);rw[F.fresh]at e';cases e'
 ·cases hu:H' c with
  | none=>exact absurd hu hc
  | some u=>obtain⟨v',hv'⟩:=(F.hok c u hu).there;have hB:=F.k2 c v' hc hv';have q':h'.get? c=some v:=q;rw[hfl.1 c v' hB]at q';cases q';exact hB
 obtain⟨o1,e1⟩:=I.base.there b o e (nex b)
 exact F.k3 b o1 e1 (hout2 b o e hb)
def Cg {P:Program}{w:World}{K:W.Frag}{mg:Str->Option Value}{base:Heap}{N:List Str}{qual:Str}{scope:Scope}{f:Addr}{cd:Value}{A:Around}{outer:List Env}{s0:Shared}{H0:Hp}{E:XK} :
  C1 (CXe P w) (Cn (CXe P w) P w K mg base N qual scope f cd A outer s0 H0 E) E:=by
 intro pins σ H s e s' I h
 obtain⟨a,C,t,H',B,rfl,F,hfl,q⟩:=h
 exact wpAny_leaves_onW I.ok.frames rfl hfl λh' hfl' ups=>⟨a,C,t,H',B,rfl,Q1 I rfl rfl rfl rfl F hfl' ups,hfl',q⟩
def L6 (h:Heap)(C:Addr)(bmB:List Value)(newId:String)(bm:List Value):Prop:=
 ∃(N:Addr) (nm qn:Str) (bs:List Value) (hdct:Bool) (sn:List Str) (sub:List Value) (ab:Bool) (col:Option Bool) (dd:Option Addr) (k0 k1 k2 k3 k5:Option Value) (mN:Str->Option Value),
  h.get? C=some (excClassObj nm qn C N bs bm hdct sn sub ab col dd k0 k1 k2 k3 k5 newId)/\h.Ns N mN/\mN "__init__" = none/\OwnTail h bmB bm
def K4 {K:Frag}{h:Heap}{C:Addr}{bmB:List Value}{newId:String}(X:K.In h)(g:excIn K C bmB newId=true):∃bm,L6 h C bmB newId bm:=by
 unfold excIn at g;split at g
 ·rename_i dict0 cls0 slots0 BN;split at g
  ·rename_i first0 tail0 a0 a1 a2 a3 new0 a5 mro0 list0;have g':=g;simp only[Ce,Fv,not_eq_true']at g';obtain⟨⟨⟨⟨⟨r1,r2⟩,r3⟩,r4⟩,r5⟩,r6⟩:=g';subst r1 r2;obtain⟨c1,c2,c3,c4,c5,c6,c7,c8,c9,c10,c11⟩:=cls0;dsimp only at mro0 r3 r5 r6;subst mro0 r3;have slots1:slots0=#[a0,a1,a2,a3,some (.builtin new0),a5]:=Lz.mp list0;subst slots1;exact⟨tail0,c4,c1,c5,c2,c6,c7,c8,c9,c10,dict0,a0,a1,a2,a3,a5,_,X _ _ BN,.of_isNs (isNs_of_in X r5),nsMap_none_of_in X r5 r6,tail_of_in X r4⟩
  cases g
 cases g
abbrev BK:List Value:=[.type "ValueError",.type "Exception",.type "BaseException",.type "object"]
def Ta (t:TA)(E:XK)(C:Addr):TS:=λ_ σ H=>t σ H λvs H1=>vs.length<=1000/\∀a,H1 a=none->E (.ref a) (some C) H1
def Fe {P:Program}{w:World}{K:W.Frag}{mg:Str->Option Value}{base:Heap}{N:List Str}{qual:Str}{scope:Scope}{f:Addr}{cd:Value}{A:Around}{outer:List Env}{s0:Shared}{H0:Hp}{E:XK}{C:Addr}{x:Str}{np cpos pos:Pos}{e₀:Expr}{es:List Expr}{t:TA}
  (ow:excIn K C BK "ValueError.__new__" = true)(hg:Gl (Cn (CXe P w) P w K mg base N qual scope f cd A outer s0 H0 E) x)(hm:mg x=some (.ref C))(ha:PA (Cn (CXe P w) P w K mg base N qual scope f cd A outer s0 H0 E) (e₀::es) t)
  (he:starEach (e₀::es) (envOfC qual scope s0.heap.objs.size f cd)=(false,eval e₀ (envOfC qual scope s0.heap.objs.size f cd))::starEach es (envOfC qual scope s0.heap.objs.size f cd):=by rfl)
  (hpl:(backTo cpos (starEach es (envOfC qual scope s0.heap.objs.size f cd))).any (·.1)=false:=by rfl)(hdb:(x == ("__debug__" : Str))=false:=by decide) :
  PS (Cn (CXe P w) P w K mg base N qual scope f cd A outer s0 H0 E) (.Raise (some (.Call (.Name x np) (e₀::es) [] cpos)) none pos) (Ta t E C):=by
 intro pins s σ H D I hw
 obtain⟨bm,NN,nm,qn,bs,hdct,sn,sub,ab,col,dd,k0,k1,k2,k3,k5,mN,hC,hN,hni,TL⟩:=K4 I.ok.mod.kin ow
 refine wpAny_Raise_call_subT (C:=C) (nm:=nm) (q:=qn) (N:=NN) (bs:=bs) (bm:=bm) (hdct:=hdct) (sn:=sn) (sub:=sub) (ab:=ab) (col:=col) (dd:=dd) (k0:=k0) (k1:=k1) (k2:=k2) (k3:=k3) (k5:=k5)
  OF (mN:=mN) (TL.hasType OF.hasBase) (I.ok.hd rfl) ?_ hni (Hc I hg hm ⟨rfl,?_⟩ hdb)
 ·show(backTo cpos (starEach (e₀::es) (envOfC qual scope s0.heap.objs.size f cd))).any (·.1)=false;rw[he];show(false || (backTo cpos (starEach es (envOfC qual scope s0.heap.objs.size f cd))).any (·.1))=false;rw[hpl];rfl
 have h0:=ha cpos pins s σ H _ I hw
 show wpAny (model P w) _ (evalArgs (.ref C) true (backTo cpos (starEach (e₀::es) (envOfC qual scope s0.heap.objs.size f cd))) []) _ _ s
 have h1:wpAny (model P w) (A.deeper (envOfC qual scope s0.heap.objs.size f cd)) (spliced (backTo cpos (starEach (e₀::es) (envOfC qual scope s0.heap.objs.size f cd)))) _ _ s:=h0
 rw[he]at h1 ⊢
 refine OC (BL h1 (λus s2 hp0=>?_) λ_ _ y=>y)
 obtain⟨vs,H1,I1,r,hz,q⟩:=hp0
 have hus:=r.length
 have aa:sizeLine=16777216:=AM
 refine⟨rfl,by show us.length<=sizeLine;lia,I1.bk _ _ hC,hN.keeps I1.bk,TL.keeps I1.bk,λh' e hx=>?_⟩
 have hin:∀env∈(envOfC qual scope s0.heap.objs.size f cd::outer),∀b,env.frame=some b->b∈Bn (envOfC qual scope s0.heap.objs.size f cd::outer):=λenv hm b hb=>mem_filterMap.mpr ⟨env,hm,hb⟩
 have funs:s2.heap.FunFrames (hideAll s2.heap (Bn (envOfC qual scope s0.heap.objs.size f cd::outer))) (envOfC qual scope s0.heap.objs.size f cd::outer):=funFrames_hide I1.stack hin
 have hfree:=I1.stkFree
 have hnew:H1 e=none:=by
  cases z:H1 e with
  | none=>rfl
  | some u=>obtain⟨ob,q⟩:=(I1.hok e u z).there;rw[hx.new]at q;cases q
 refine wpAny_leaves_madeW I1.ok.frames rfl (λb o q=>of_hideAll _ q) funs hx λh'' t' hfl htup hnt ups=>?_
 refine⟨e,C,t',H1,_,rfl,Q1 (s':={ s2 with heap:=h' }) I1 rfl rfl rfl rfl ⟨rfl,I1.bare,Un.kept hx.keeps,I1.hok.kept hx.keeps,funs.of_keeps (λb o hb _=>⟨o,hx.keeps b o hb,rfl⟩),hnew,hx.new,λb o q _ hb=>JN _ q hb,λc v hc q=>?_,λb o q hb=>⟨o,JN _ q hb⟩⟩ hfl ups,hfl,q e hnew⟩
 cases z:H1 c with
 | none=>exact absurd z hc
 | some u=>obtain⟨ob,q2⟩:=(I1.hok c u z).there;have q3:h'.get? c=some v:=q;rw[hx.keeps c ob q2]at q3;cases q3;exact JN _ q2 λhb=>by have:=hfree c hb;rw[z]at this;cases this
end
abbrev Cx.at' (X:Cx)(pn:List (Addr×Obj))(xe:Value->Shared->Prop):Cx:={ X with pn:=pn,xe:=xe }
abbrev Cx.held (X:Cx)(a:Addr)(xe:Value->Shared->Prop):Cx:={ X with A:=X.A.mark (some (.ref a)),calm:=false,xe:=xe }
section
variable {X:Cx}{pins:List (Addr×Obj)}{σ:St}{H:Hp}{s:Shared}
def Inv.at' (I:Inv X pins σ H s)(xe:Value->Shared->Prop):Inv (X.at' (X.pn++pins) xe) [] σ H s:=
 ⟨⟨I.ok.mod,I.ok.kind,I.ok.glob,I.ok.blt,I.ok.above,I.ok.inj,I.ok.has,I.ok.cab,I.ok.hd,I.ok.frames,I.ok.stk,I.ok.exf,I.ok.bs,I.ok.bsz,I.ok.noex,I.ok.exfs,I.ok.funs,I.ok.frf⟩,I.os,I.bare,I.base,I.loc,I.cell,I.free,I.freeC,λp hp=>I.pin p (by rw[CP]at hp;exact hp),I.hok,I.len⟩
def Inv.unat (ok:X.Ok)(I:Inv (X.at' (X.pn++pins) xe) pins' σ H s):Inv X pins σ H s:=
 ⟨ok,I.os,I.bare,I.base,I.loc,I.cell,I.free,I.freeC,λp hp=>I.pin p (F4 _ hp),I.hok,I.len⟩
def Inv.held (I:Inv X pins σ H s)(a:Addr)(xe:Value->Shared->Prop):Inv (X.held a xe) pins σ H s:=
 ⟨⟨I.ok.mod,I.ok.kind,I.ok.glob,I.ok.blt,I.ok.above,I.ok.inj,I.ok.has,I.ok.cab,(λz=>nomatch z),I.ok.frames,I.ok.stk,I.ok.exf,I.ok.bs,I.ok.bsz,I.ok.noex,I.ok.exfs,I.ok.funs,I.ok.frf⟩,I.os,I.bare,I.base,I.loc,I.cell,I.free,I.freeC,I.pin,I.hok,I.len⟩
def Inv.unheld (ok:X.Ok)(I:Inv (X.held a xe) pins σ H s):Inv X pins σ H s:=
 ⟨ok,I.os,I.bare,I.base,I.loc,I.cell,I.free,I.freeC,I.pin,I.hok,I.len⟩
def J4 (I:Inv X pins σ H s)(hN:X.N.Nodup)(hi:X.N[i]? = some x)(hk:X.env.kindOf x=some .local)
  (h:∀s',Inv X pins (σ.set i none) H s'->Q () s'):wpAny M A (do bindName X.env x .none;unbindBehindTheSuite X.env x pos) Q E s:=by
 obtain⟨m,hn,hl⟩:=id I.loc
 have hcls:(X.env.scope.kind == .class || (X.env.scope.kind == .module && X.env.locals != X.env.globals))=false:=by rw[I.ok.kind];rfl
 have hiσ:i<σ.length:=by rw[I.len];exact(AK.mp hi).1
 have cne:=I.cne
 refine wpAny_nameGoes_keeps hk hn hcls λh' v hn' hs=>?_
 obtain⟨oL,_,_,hoL,_⟩:=id hn
 have old:∀b o,X.s₀.heap.get? b=some o->b≠X.env.locals:=λb o e=>Bo (Cf (A3 e) I.ok.above)
 have hok:HOk X.prog X.w H h':=λb ob e=>(I.hok b ob e).stay (λc w' hc q=>(hs.2 c (λz=>by
  subst z;have hfree:=I.free;rcases hc with rfl | hc
  ·rw[hfree]at e;cases e
  rw[hfree]at hc;cases hc)).trans q) (λ_ q=>q) λ_ _ q=>q
 refine h { s with heap:=h',toks:=s.toks+1 } ⟨I.ok,I.os,I.bare,⟨λb o e n hb hx=>(hs.2 b (old b o e)).trans (I.base.keep b o e n hb hx),λb o e n hb hx=>?_,I.base.free,λb o e hx=>?_,I.base.tups,I.base.frzs,I.base.tbls⟩,⟨_,hn',λj y v' e1 e2 e3=>?_⟩,λy c e=>?_,I.free,I.freeC,λp hp=>?_,hok,by simpa using I.len⟩
 ·obtain⟨sl,e1⟩:=I.base.slot b o e n hb hx;exact⟨sl,(hs.2 b (old b o e)).trans e1⟩
 ·obtain⟨o',e1⟩:=I.base.there b o e hx;exact⟨o',(hs.2 b (old b o e)).trans e1⟩
 ·by_cases hj:j=i
  ·subst hj;rw[Gb hiσ]at e2;cases e2
  rw[F7 (Dm hj)]at e2;obtain⟨u',r',q⟩:=hl j y v' e1 e2 e3;refine⟨u',r',?_⟩;rcases q with⟨k,e⟩ | ⟨k,c,e,z⟩
  ·refine .inl ⟨k,?_⟩;have ne:y≠x:=λe=>hj (Ny hN e1 (e ▸ hi));simp[ne,e]
  exact .inr ⟨k,c,e,z.sameBut hs (cne y c e)⟩
 ·obtain⟨w',z⟩:=I.cell y c e;exact⟨w',z.sameBut hs (cne y c e)⟩
 obtain⟨e,n,ne,nf,d⟩:=I.pin p hp
 exact⟨(hs.2 p.1 ne).trans e,n,ne,nf,d⟩
end
section
variable {A:Around}{M:Model}{E:Value->Shared->Prop}
def Yg {h:Heap}{g:Array GenState}{d:Drawn}{t:Nat}{os:OsState}{e C G:Addr}{oe:Obj}{bmB bmC bmG:List Value}{n1 n2:String}{Q:Bool->Shared->Prop}(hC:L6 h C bmB n1 bmC)(hG:L6 h G bmB n2 bmG)
  (he:h.get? e=some oe)(hcls:oe.cls=.ref C)(hbase:bmG.contains (.type "BaseException")=true)(hsub:bmC.contains (.ref G)=true)(hq:Q true ⟨h,g,d,t,os⟩):wpAny M A (excMatches (.ref e) (.ref G)) Q E ⟨h,g,d,t,os⟩:=by
 obtain⟨N,nm,qn,bs,hdct,sn,sub,ab,col,dd,k0,k1,k2,k3,k5,mN,hC,_,_,_⟩:=hC
 obtain⟨N',nm',qn',bs',hdct',sn',sub',ab',col',dd',k0',k1',k2',k3',k5',mN',hG,_,_,_⟩:=hG
 have hcB:(Value.ref G::bmG).contains (.type "BaseException")=true:=by rw[Ot,hbase,Bool.or_true]
 have hcC:(Value.ref C::bmC).contains (.ref G)=true:=by rw[Ot,hsub,Bool.or_true]
 have f:=tc_notTuple
 unfold excMatches
 repeat (first | (with_reducible refine wpAny_loadPart_at he ?_;rw[hcls]) | with_reducible refine wpAny_loadPart_at hG ?_ | (with_reducible refine Oz hG ?_;rw[hcB]) | (with_reducible refine Oz hC ?_;rw[hcC]) | wp_step)
 exact hq
end
def Fl (a C:Addr):HO:=.ext λh=>∃o,h.get? a=some o/\o.cls=.ref C
section
variable {X:Cx}{pins:List (Addr×Obj)}{σ:St}{H:Hp}{s:Shared}
def Inv.track (I:Inv X pins σ H s)(hn:H a=none)(h0:X.s₀.heap.get? a=none)(hl:a≠X.env.locals)(hc:∀x c,X.env.cells.lookup x=some c->a≠c)(hp:∀p∈X.pn++pins,a≠p.1)(ho:∃o,s.heap.get? a=some o/\o.cls=.ref C) :
  Inv X pins σ (Ac H a (Fl a C)) s:=by
 have ne:∀{b:Addr}{u:HO},H b=some u->b≠a:=λe=>AL e hn
 refine⟨I.ok,I.os,I.bare,⟨I.base.keep,I.base.slot,λb o e n hx=>?_,I.base.there,λb xs q=>?_,λb o u q=>?_,λb ps q=>?_⟩,I.loc,I.cell,by rw[Aj hl.symm];exact I.free,λx c e=>by rw[Aj (hc x c e).symm];exact I.freeC x c e,λp hpm=>?_,λb u e=>?_,I.len⟩
 ·rw[Aj (λz=>by rw[z,h0]at e;cases e)];exact I.base.free b o e n hx
 ·have:=I.base.tups b xs q;rw[Aj (ne this)];exact this
 ·have:=I.base.frzs b o u q;rw[Aj (ne this)];exact this
 ·obtain⟨m,q2⟩:=I.base.tbls b ps q;exact⟨m,by rw[Aj (ne q2)];exact q2⟩
 ·obtain⟨e,n,ne',nf,d⟩:=I.pin p hpm;exact⟨e,by rw[Aj (hp p hpm).symm];exact n,ne',nf,d⟩
 by_cases hb:b=a
 ·subst hb;rw[Ak]at e;cases e;obtain⟨o,e1,e2⟩:=ho;refine⟨⟨o,e1,e2⟩,⟨o,e1⟩,λh1 h2 ⟨o',q1,q2⟩ k=>⟨o',k _ q1,q2⟩⟩
 rw[Aj hb]at e
 exact(I.hok b u e).stay (λ_ _ _ q=>q) (λc q=>by rw[Aj (ne q)];exact q) λc xs q=>by rw[Aj (ne q)];exact q
end
def Ze (F:HM P w outer H s a H' B s')(hfree:∀b∈Bn outer,H b=none)(k:B.StaysIn h')(ups:s'.heap.UpToSlots h') :
  Un (Bn outer) [] H H' s.heap h'/\HOk P w H' h':=by
 have slot:∀b o,s.heap.get? b=some o->H b=none->b∈Bn outer->∃sl,h'.get? b=some { o with slots:=sl }:=λb o e n hb=>by obtain⟨sl2,e2⟩:=F.un.slot b _ e n hb (by simp);obtain⟨_,o',ho',hd⟩:=F.funs.mem hb;rw[e2]at ho';cases ho';obtain⟨sl3,e3⟩:=ups b _ e2 hd;exact⟨sl3,e3⟩
 refine⟨⟨λb o e n hb _=>k b o (F.k1 b o e n hb),λb o e n hb _=>slot b o e n hb,F.un.free,λb o e _=>?_,F.un.tups,F.un.frzs,F.un.tbls⟩,λb u e=>(F.hok b u e).stay (λc v hc q=>k c v (F.k2 c v (by
  rcases hc with z | z
  ·rw[z,e];intro z;cases z
  rw[z];intro z;cases z) q)) (λ_ q=>q) λ_ _ q=>q⟩
 by_cases hb:b∈Bn outer
 ·obtain⟨sl,q⟩:=slot b o e (hfree b hb) hb;exact⟨_,q⟩
 obtain⟨o2,e2⟩:=F.k3 b o e hb
 exact⟨o2,k b o2 e2⟩
def mroIn (K:Frag)(C G:Addr):Bool:=match K.lookup C with
 | some ⟨_,_,.cls cd,_⟩=>(cd.mro.drop 1).contains (.ref G)
 | _=>false
def Vw {K:Frag}{h:Heap}{C G:Addr}{bmB:List Value}{newId:String}(X:K.In h)(e:excIn K C bmB newId=true)(m:mroIn K C G=true):∃bm,L6 h C bmB newId bm/\bm.contains (.ref G)=true:=by
 obtain⟨bm,x⟩:=K4 X e;refine⟨bm,x,?_⟩;obtain⟨N,nm,qn,bs,hdct,sn,sub,ab,col,dd,k0,k1,k2,k3,k5,mN,a1,a2,a3,a4⟩:=x;unfold mroIn at m;split at m
 ·rename_i BN;have:=X _ _ BN;rw[a1]at this;cases this;exact m
 cases m
def S2 (len j:Nat)(K:Frag)(G:Addr)(tb:XK->TS)(th:TS):TS:=λD σ H=>tb (λe c H'=>∃a C nC,e=.ref a/\c=some C/\excIn K C BK nC=true/\mroIn K C G=true /\ (H' a=none->th { nx:=λσ' H2=>D.nx (σ'.set j none) H2,rt:=D.rt,bk:=λσ' H2=>D.bk (σ'.set j none) H2,ct:=λσ' H2=>D.ct (σ'.set j none) H2 } ((replicate len none).set j (some (.ref a))) (Ac H' a (Fl a C)))) D σ H
def Vc (hex:X.ex=[])(hst:X.stack=X.env::X.outer)(hfr:X.env.frame=some X.env.locals)
  (owG:excIn X.K G BK nG=true)(hg:Gl X x)(hm:X.mg x=some (.ref G))(hN:X.N.Nodup)(hi:X.N[j]? = some n)(hk:X.env.scope.names.lookup n=some .local)
  (hb:∀pn xe E',C1 (CXe X.prog X.w) (X.at' pn xe) E'->PSs (X.at' pn xe) body (tb E'))(hs:∀a,PSs (X.held a λ_ _=>False) (b₀::suite) th)(hdb:(x == ("__debug__" : Str))=false:=by decide) :
  PS X (.Try body [.ExceptHandler (some (.Name x np)) (some n) (b₀::suite) hpos] [] [] pos) (S2 X.N.length j X.K G tb th):=by
 intro pins s σ H D I hw
 refine wpAny_Try_except (BL (hb (X.pn++pins) (λe s'=>∃σ1 H1 s1,Inv X pins σ1 H1 s1/\CXe X.prog X.w X.stack H1 s1 _ e s') _ (λpins1 σ1 H1 s1 e s' I1 h=>⟨σ1,H1,s1,I1.unat I.ok,h⟩) [] s σ H D (I.at' _) hw) (λf s1 h1=>?_) (λe s1 h1=>?_))
 ·cases f with
  | next=>obtain⟨σ',H',I',q⟩:=h1;exact AG pins s1 σ' H' D (I'.unat I.ok) q
  | brk=>obtain⟨σ',H',I',q⟩:=h1;exact⟨σ',H',I'.unat I.ok,q⟩
  | cont=>obtain⟨σ',H',I',q⟩:=h1;exact⟨σ',H',I'.unat I.ok,q⟩
  | ret u=>obtain⟨v,σ',H',I',r,q⟩:=h1;exact⟨v,σ',H',I'.unat I.ok,r,q⟩
 obtain⟨σ1,H1,s0,I1,a,C,t,H',B,rfl,F,hfl,a',C',nC,e1,e2,oc,sub,q⟩:=h1
 cases e1
 cases e2
 have hfree:=I1.stkFree
 have hframes:X.A.frames=some (X.env::X.outer):=by rw[<- hst];exact I1.ok.frames
 rw[hst]at hfl
 have hna:∀b o,s0.heap.get? b=some o->a≠b:=λb o e z=>by rw[<- z,F.fresh]at e;cases e
 refine wpAny_looks_onW hframes hfr hfl λh4 held4 ups4=>?_
 refine wpAny_landsW held4 λh5 hfl5 ups5=>?_
 have ups15:s1.heap.UpToSlots h5:=ups4.trans ups5
 have know:∀(h':Heap),B.StaysIn h'->s1.heap.UpToSlots h'->Inv X pins (replicate X.N.length none) H' { s1 with heap:=h' }:=λh' k ups=>by obtain⟨u,hok⟩:=Ze F hfree k ups;have I2:Inv X pins σ1 H' { s1 with heap:=h' }:=I1.call' (s':={ s1 with heap:=h' }) (ch:=[]) F.os u hok F.bare (λb z=>nomatch z);exact I2.weak (by rw[Ex];exact I1.len.symm) λi v e=>by rw[LJ]at e;split at e <;> cases e
 have I5:=know h5 hfl5.1 ups15
 obtain⟨bmC,exC,subC⟩:=Vw I5.kIn oc sub
 obtain⟨bmG,exG⟩:=K4 I5.kIn owG
 have hbaseG:bmG.contains (.type "BaseException")=true:=by obtain⟨_,_,_,_,_,_,_,_,_,_,_,_,_,_,_,_,_,_,_,tl⟩:=exG;exact tl.hasType OF.hasBase
 obtain⟨oe,hoe,hoc⟩:=hfl5.there
 refine wpAny_handleBy_cons (codeAny_handlers_test (Hc (X:=X.held a λ_ _=>False) (I5.held a _) hg hm ?_ hdb)) (by intro q;cases q)
 refine Yg exC exG hoe hoc hbaseG subC (codeAny_handlers_suite_as ?_)
 refine lands_againW hfl5 λh6 hfl6 ups6=>?_
 have I6:=know h6 hfl6.1 (ups15.trans ups6)
 obtain⟨m0,hn0,_⟩:=I1.loc
 obtain⟨oL,_,_,hoL,_⟩:=hn0
 have I7:=I6.track (a:=a) (C:=C) F.new (by
  cases z:X.s₀.heap.get? a with
  | none=>rfl
  | some o=>
   obtain⟨o',e'⟩:=I1.base.there a o z (by rw[hex];simp);rw[F.fresh]at e';cases e') (hna _ _ hoL) (λy c e=>by
   obtain⟨v,oc',hoc',_⟩:=I1.cell y c e;exact hna _ _ hoc') (λp hp=>hna _ _ (I1.pin p hp).1) hfl6.there
 have hIσ:j<(replicate X.N.length (none:Option V)).length:=by rw[Ex];exact(AK.mp hi).1
 refine Mh (X:=X.held a λ_ _=>False) (i:=j) (v:=.ref a) (I7.held a _) hN hi (.inl hk) rfl (λs7 I8=>?_) (.inr hk)
 refine BL (hs a pins s7 _ _ _ I8 (q F.new)) (λf s8 h8=>?_) (λ_ _ z=>z.elim)
 cases f with
 | next=>obtain⟨σ',H2,I9,q9⟩:=h8;exact J4 (X:=X) (I9.unheld I.ok) hN hi hk λs9 I10=>⟨_,H2,I10,q9⟩
 | brk=>obtain⟨σ',H2,I9,q9⟩:=h8;exact J4 (X:=X) (I9.unheld I.ok) hN hi hk λs9 I10=>⟨_,H2,I10,q9⟩
 | cont=>obtain⟨σ',H2,I9,q9⟩:=h8;exact J4 (X:=X) (I9.unheld I.ok) hN hi hk λs9 I10=>⟨_,H2,I10,q9⟩
 | ret u=>obtain⟨v,σ',H2,I9,r,q9⟩:=h8;exact J4 (X:=X) (I9.unheld I.ok) hN hi hk λs9 I10=>⟨v,_,H2,I10,r,q9⟩
section
variable {X:Cx}
def Iy (he:PE X e te)(ha:a.length<=1000) :
  PE X (.JoinedStr [.Constant (.str a) j p,.FormattedValue e 114 none p2] pos) (λσ H Q=>te σ H λv H1=>∃x,v=.str x/\(reprText x).length<=100000/\Q (.str (a++reprText x)) H1):=by
 intro pins s σ H Q I h
 have hs:sizeLine=16777216:=AM
 refine JoinedStr_many (JQ (Ao (Av (X:=X) (x:=a) (j:=j) (pos:=p) pins s σ H (λv H1=>v=.str a/\H1=H) I ⟨rfl,rfl⟩) λu s1 hp0=>?_))
 obtain⟨v,H1,I1,r1,e1,e2⟩:=hp0
 subst e1 e2
 obtain⟨t,rfl⟩:=r1
 have l1:(Str.empty++a).length<=sizeLine:=by rw[Q9];lia
 refine⟨l1,JQ (wpAny_FormattedValue_repr (Ao (he pins s1 σ H1 _ I1 h) λu2 s2 hp0=>?_))⟩
 obtain⟨v2,H2,I2,r2,x,e3,lx,q⟩:=hp0
 subst e3
 obtain⟨t2,rfl⟩:=r2
 have la:(a++reprText x).length=a.length+(reprText x).length:=by show(a.cps++(reprText x).cps).size=_;rw[Ol];rfl
 refine wpAny_pyReprObj_str ?_ (by lia)
 refine formatField_str (λt' tk=>?_) (by lia)
 have e4:Str.empty++a++reprText x=a++reprText x:=by rw[Q9]
 refine⟨by rw[e4];lia,joinParts_nil ⟨.str (a++reprText x),H2,(I2.tok _),⟨_,by rw[e4]⟩,q⟩ (by rw[e4];lia)⟩
def ZX:Cw X (.builtin "isinstance") (λxs H Q=>∃a C,xs=[.ref a,.ref C]/\H a=some (Fl a C)/\Q (.bl true) H):=by intro pins s σ H xs us Q I r h;obtain⟨a,C,rfl,ha,q⟩:=h;obtain⟨u1,u2,rfl,r1,r2⟩:=J3 r;cases r1;cases r2;obtain⟨⟨o,ho,hc⟩,_⟩:=I.hok a _ ha;refine call_isinstance_of ?_ (by intro e;cases e);(unfold Builtin.«isinstance.nested»);refine Ae (m:=typeOf (.ref a)) (Ly ho ?_);rw[hc];show wpAny _ _ (if (Value.ref C == Value.ref C)=true then _ else _) _ _ s;rw[As (HF _)];(repeat (first | refine An ?_ | refine Gg ?_ | refine Ae ?_));exact⟨.bl true,H,I,rfl,q⟩
def ZV (oc:excIn X.K C BK nC=true)(hty:typeOf (.type "ValueError")=pure (.type "type")):Cw X (.builtin "isinstance") (λxs H Q=>∃a,xs=[.ref a,.ty "ValueError"]/\H a=some (Fl a C)/\Q (.bl true) H):=by
 intro pins s σ H xs us Q I r h;obtain⟨a,rfl,ha,q⟩:=h;obtain⟨u1,u2,rfl,r1,r2⟩:=J3 r;cases r1;cases r2;obtain⟨⟨o,ho,hc⟩,_⟩:=I.hok a _ ha;obtain⟨bm,x⟩:=K4 I.kIn oc;obtain⟨N,nm,qn,bs,hdct,sn,sub,ab,col,dd,k0,k1,k2,k3,k5,mN,a1,a2,a3,a4⟩:=x;have hV:bm.contains (.type "ValueError")=true:=a4.hasType (by rfl);have hcV:(Value.ref C::bm).contains (.type "ValueError")=true:=by rw[Ot,hV,Bool.or_true]
 refine call_isinstance_of ?_ (by intro e;cases e);(unfold Builtin.«isinstance.nested»);refine Ae (m:=typeOf (.ref a)) (Ly ho ?_);rw[hc];show wpAny _ _ (if (Value.ref C == Value.type "ValueError")=true then _ else _) _ _ s;rw[Ai (by intro z;exact absurd (Ht z) (by intro z;cases z))];refine Ae (m:=typeOf (.type "ValueError")) (CC hty ?_);(show wpAny _ _ (if (Value.type "type" == Value.type "type")=true then _ else _) _ _ s);rw[As (by decide)];refine Ae (Ae (m:=isType (.type "ValueError")) (An (a:=true) ?_));refine Ae (m:=isInstance (.ref a) (.type "ValueError")) ?_;unfold isInstance;refine Ae (m:=typeOf (.ref a)) (Ly ho ?_);rw[hc];(obtain⟨hp,g,d,tk,os⟩:=s);refine Oz a1 ?_;rw[hcV];exact An (a:=true) (An ⟨.bl true,H,I,rfl,q⟩)
def Fun.okE {P:Program}{w:World}{K:W.Frag}{mg:Str->Option Value}{base:Heap}{x qual:Str}{st:Stmt}{f:Addr}{fd:FuncData}{N ps:List Str}{k:Nat}{sp:Sp}(F:Fun K x qual st f fd)(S:AF N ps (Aq st))(len:∀vs H Q E,sp vs H Q E->vs.length=ps.length)
  (hbody:∀(cdv:Value) (A:Around) (outer:List Env) (s:Shared) (H:Hp) (vs:List V) (Q:VK) (E:XK),Room k (A.deeper (envOfC qual (Aq st) s.heap.objs.size f cdv))->sp vs H Q E -> ∃t,PSs (Cn (CXe P w) P w K mg base N qual (Aq st) f cdv A outer s H E) (Cm st) t/\t { nx:=λ_ H'=>Q .non H',rt:=Q } (start N vs) H):FnOk P w K mg base (CXe P w) (k+1) f fd ps sp:=by
 obtain⟨oc,od,kV,doc,pm,an,cdv,ct,osl,rfl,lk,hcd⟩:=F.ex
 exact Q0 lk hcd S len λA outer s H vs Q E hr hsp=>hbody cdv A outer s H vs Q E hr hsp
end
end L2
namespace L2
open PySem PySem.Spec PyProof.Rows
section
variable {X:Cx}
def NC:HI X "list.index" (λx xs H Q=>∃(l:Addr) (ys:List Str) (y:Str) (j:Nat),x=.ref l/\xs=[.str y]/\H l=some (.lst (ys.map V.str))/\ys[j]? = some y/\(∀m,m<j->ys[m]?≠some y)/\Q (.int (j:Int)) H):=by
 intro pins s σ H x xs v us Q I rx rv h;obtain⟨l,ys,y,j,rfl,rfl,hH,hj,hno,q⟩:=h;cases rx;obtain⟨u,rfl,ru⟩:=rv.one;obtain⟨z,its,n,r,hl,e⟩:=I.lstM hH;rw[Ar]at hl z;have hs:sizeLine=16777216:=AM
 have key:∀(m:Nat) (y':Str) (hm:m<its.toArray.size),ys[m]? = some y'->DV (.str y) its.toArray[m]=(y' == y):=λm y' hm e1=>by
  obtain⟨u',e2,r2⟩:=r.get (i:=m) (x:=.str y') (by rw[A6,e1];rfl);have e3:its.toArray[m]=u':=by obtain⟨_,h⟩:=AK.mp e2;simpa using h
  rw[e3,NP r2 rfl];rfl
 have hjl:j<ys.length:=(AK.mp hj).1;refine Gf LW ⟨_,e,rfl⟩ PySem.F.entry_list_index (PySem.F.args_list_index_2 _ _) (PySem.SeqAt.list_indexAt l its.toArray n none #[] u (DV (.str y)) j (by rw[BH];lia) (by lia) ?_ ?_) ⟨e,λw hw=>K9 ru rfl r (Rk.flat_strs ys) w (by simpa using hw),?_⟩
 ·rw[key j y _ hj];exact HF y
 ·intro m hm hlt;have hm':m<ys.length:=by lia
  rw[key m ys[m] hm (Bi hm')];have hne:=hno m hlt;rw[Bi hm']at hne;exact F6.mpr λz=>hne (by rw[z])
 exact⟨.int (j:Int),H,I.tok _,⟨_,rfl⟩,q⟩
def Z5 {α:Type}{xs:List α}{v:α}(h:xs.getLast? = some v):AB xs (-1)=some v:=by obtain⟨ys,rfl⟩:=R8.mp h;exact RW ys v
def Hf {A B:Prop}{x y:Str}(h:x=y)(a:A):if decide (V.str x=V.str y)=true then A else B:=by rw[AQ (by rw[h])];exact a
def Hg {A B:Prop}{x y:Str}(h:¬x=y)(b:B):if decide (V.str x=V.str y)=true then A else B:=by rw[A8 (λz=>h (V.str.inj z))];exact b
def YL {A B:Prop}{x y:Str}(h:x=y)(b:B):if (!decide (V.str x=V.str y))=true then A else B:=by rw[AQ (by rw[h])];exact b
def YM {A B:Prop}{x y:Str}(h:¬x=y)(a:A):if (!decide (V.str x=V.str y))=true then A else B:=by rw[A8 (λz=>h (V.str.inj z))];exact a
def NU (x y:Str):decide (V.str x=V.str y)=decide (x=y):=by
 by_cases h:x=y
 ·rw[AQ h,AQ (by rw[h])]
 rw[A8 h,A8 (λz=>h (V.str.inj z))]
end
section
variable {X:Cx}
def VB (K:W.Frag)(h:X.K=K):By X (compareOp .In) (Nf K false):=by subst h;exact Du
def Jj {Q:Hp->Prop}{H:Hp}{l:Addr}(ys:List Str)(xs:List V)(hx:xs=ys.map V.str)(hl:H l=none)(h:∀H',Same H H'->H' l=some (.lst (ys.map V.str))->Q H'):Q (Ac H l (.lst xs)):=by subst hx;exact h _ (Same.new hl) Ak
end
def KD (P:Program)(w:World)(K:W.Frag)(a:Addr)(kvs:List (Ag×V)):Prop:=
 (a == sysModules)=false/\∀h:Heap,K.In h->∃vs,KV kvs vs/\h.DictOf (BS P w) a vs
section
variable {X:Cx}{pins:List (Addr×Obj)}{σ:St}{H:Hp}{s:Shared}{a:Addr}{kvs:List (Ag×V)}{k:Ag}{u:Value}{A:Around}{E:Value->Shared->Prop}
def YH (I:Inv X pins σ H s)(g:KD X.prog X.w X.K a kvs)(l:Aw kvs k=some v)(ry:RelV (kV k) u)(h:∀w' s',Inv X pins σ H s'->RelV v w'->Q w' s') :
  wpAny (model X.prog X.w) A (getItem (.ref a) u) Q E s:=by
 obtain⟨vs,rel,dd⟩:=g.2 _ I.kIn
 obtain⟨w',hw,rw'⟩:=RelO.some_of (v:=v) (o:=valueAt vs k) (by rw[<- l];exact rel.val k)
 exact wpAny_getItem_of (EL ry) dd.mapOf hw (h w' _ (I.tok _) rw')
def YG (I:Inv X pins σ H s)(g:KD X.prog X.w X.K a kvs)(ry:RelV (kV k) u)(h:∀s',Inv X pins σ H s'->Q (.bool (Aw kvs k).isSome) s') :
  wpAny (model X.prog X.w) A (compareOp .In u (.ref a)) Q E s:=by
 obtain⟨vs,rel,dd⟩:=g.2 _ I.kIn
 refine wpAny_in_of (EL ry) g.1 dd.mapOf ?_
 rw[<- (rel.val k).isSome_eq]
 exact h _ (I.tok _)
def YI (I:Inv X pins σ H s)(g:KD X.prog X.w X.K a kvs)(ry:RelV (kV k) u)(h:∀w' s',Inv X pins σ H s'->RelV ((Aw kvs k).getD .non) w'->Q w' s') :
  wpAny (model X.prog X.w) A (call (.builtin "dict.get") [.ref a,u]) Q E s:=by
 obtain⟨vs,rel,dd⟩:=g.2 _ I.kIn
 refine call_meetsIn PySem.F.slot_dict_get dd.typeIs PySem.F.entry_dict_get (PySem.F.args_dict_get_2 _ _) (meets_dict_get (BS X.prog X.w) a (EL ry) g.1) ⟨_,dd.mapOf,h _ _ (I.tok _) ?_⟩
 exact(rel.val k).getD rfl
end
def Tq (P:Program)(w:World)(K:W.Frag)(td ty:TE):TE:=λσ H Q=>td σ H λx H1=>ty σ H1 λy H2=>∃a kvs k v,x=.ref a/\KD P w K a kvs/\y=kV k/\Aw kvs k=some v/\Q v H2
def To (P:Program)(w:World)(K:W.Frag)(ty td:TE):TE:=λσ H Q=>ty σ H λy H1=>td σ H1 λx H2=>∃a kvs k,x=.ref a/\KD P w K a kvs/\y=kV k/\Q (.bl (Aw kvs k).isSome) H2
def Tp (P:Program)(w:World)(K:W.Frag)(td ty:TE):TE:=λσ H Q=>td σ H λx H1=>∃a kvs,x=.ref a/\KD P w K a kvs/\ty σ H1 λy H2=>∃k,y=kV k/\Q ((Aw kvs k).getD .non) H2
section
variable {X:Cx}{o i e:Expr}{pos apos cpos:Pos}{td ty:TE}
def Qk (ho:PE X o td)(hi:PE X i ty)(hs:OV i):PE X (.Subscript o i pos) (Tq X.prog X.w X.K td ty):=by intro pins s σ H Q I h;refine Pj R9.lookup hs (Ao (ho pins s σ H _ I h) λu s1 hp0=>?_);obtain⟨x,H1,I1,rx,q1⟩:=hp0;refine Ao (hi pins s1 σ H1 _ I1 q1) λiv s2 hp1=>?_;obtain⟨y,H2,I2,ry,a,kvs,k,v,ex,g,ey,l,q2⟩:=hp1;subst ex ey;obtain rfl:u=Value.ref a:=rx;obtain⟨vs,rel,dd⟩:=g.2 _ I2.kIn;exact⟨dd.typeIs,YH I2 g l ry λw' s3 I3 rw'=>⟨v,H2,I3,rw',q2⟩⟩
def Vv (hi:PE X i ty)(ho:PE X o td):PC X .In i o (To X.prog X.w X.K ty td):=by intro pins s σ H Q I h;refine Ao (hi pins s σ H _ I h) λiv s1 hp0=>?_;obtain⟨y,H1,I1,ry,q1⟩:=hp0;refine Ao (ho pins s1 σ H1 _ I1 q1) λu s2 hp1=>?_;obtain⟨x,H2,I2,rx,a,kvs,k,ex,g,ey,q2⟩:=hp1;subst ex ey;obtain rfl:u=Value.ref a:=rx;exact YG I2 g ry λs3 I3=>⟨.bl (Aw kvs k).isSome,H2,I3,rfl,q2⟩
def Qj (ho:PE X o td)(he:PE X e ty)(m:M1 X o "get" apos e cpos):PE X (.Call (.Attribute o "get" apos) [e] [] cpos) (Tp X.prog X.w X.K td ty):=by
 intro pins s σ H Q I h;refine wpAny_Call_method m.base m.few m.line PySem.F.plainAttrs_dict PySem.F.slot_dict_get PySem.F.type_dict_get (Ao (ho pins s σ H _ I h) λu s1 hp0=>?_);obtain⟨x,H1,I1,rx,a,kvs,ex,g,q1⟩:=hp0;subst ex;obtain rfl:u=Value.ref a:=rx;obtain⟨vs,rel,dd⟩:=g.2 _ I1.kIn;obtain⟨ob,es,ep,h1,h2,h3⟩:=dd;refine⟨⟨ob,h1,h2.1⟩,λb q=>?_,?_⟩
 ·cases q;exact⟨ob,h1,h2.2.1⟩
 rw[m.trees];refine OH rfl (OC (Ow (Ao (he pins s1 σ H1 _ I1 q1) λiv s2 hp0=>?_)));obtain⟨y,H2,I2,ry,k,ey,q2⟩:=hp0;refine On ?_;subst ey;exact YI I2 g ry λw' s3 I3 rw'=>⟨_,H2,I3,rw',q2⟩
end
def Lb:Value->Option Ag
 | .int i _=>some (.inl i)
 | .str x _=>some (.inr x)
 | _=>none
def Et:List DictEntry->Option (List (Ag×V))
 | []=>some []
 | e::r=>match Lb e.key,CY e.val,Et r with
  | some k,some v,some kvs=>some ((k,v)::kvs)
  | _,_,_=>none
def QJ {k:Ag}(h:Lb v=some k):Fi k v=true:=by
 cases v with
 | int i t=>cases h;exact QL i t
 | str x t=>cases h;exact QK x t
 | _=>cases h
def Rn (h:Et (e::r)=some l):∃k v kvs,Lb e.key=some k/\CY e.val=some v/\Et r=some kvs/\l=(k,v)::kvs:=by
 unfold Et at h;cases e1:Lb e.key with
 | none=>rw[e1]at h;cases h
 | some k=>
  cases e2:CY e.val with
  | none=>rw[e1,e2]at h;cases h
  | some v=>
   cases e3:Et r with
   | none=>rw[e1,e2,e3]at h;cases h
   | some kvs=>rw[e1,e2,e3]at h;cases h;exact⟨k,v,kvs,rfl,rfl,rfl,rfl⟩
theorem Rl :∀{es:List DictEntry}{kvs:List (Ag×V)},Et es=some kvs->∃vs,KV kvs vs/\Pairs (BS P w) es vs/\vs.map (·.1)=kvs.map (·.1)
 | [],_,h=>by cases h;exact⟨[],.nil,.nil,rfl⟩
 | e::r,l,h=>by obtain⟨k,v,kvs,h1,h2,h3,rfl⟩:=Rn h;obtain⟨vs,a,b,c⟩:=Rl (P:=P) (w:=w) h3;exact⟨(k,e.val)::vs,.cons ⟨rfl,Eg h2⟩ a,.cons (QJ h1) rfl b,by rw[Bj,Bj,c]⟩
theorem Rm :∀{es:List DictEntry}{kvs:List (Ag×V)},Et es=some kvs->es.map (·.hash)=kvs.map (λkv=>Jr w kv.1)->∀e∈es,∃k,(BS P w).is k e.key=true/\e.hash=(BS P w).hash k
 | [],_,_,_=>λe he=>nomatch he
 | e::r,l,h,hh=>λe' he=>by
  obtain⟨k,v,kvs,h1,h2,h3,rfl⟩:=Rn h;rw[Bj,Bj]at hh;obtain⟨hh1,hh2⟩:=Hz hh;rcases(AD.mp he)with z | z
  ·subst z;exact⟨k,QJ h1,hh1⟩
  exact Rm h3 hh2 e' z
def QM {P:Program}{w:World}{K:W.Frag}{a:Addr}{es:Array DictEntry}{ep:Nat}{kvs:List (Ag×V)}(l:K.lookup a=some ⟨.type "dict",none,.dict es ep,#[]⟩)(hs:(a == sysModules)=false)(c:Et es.toList=some kvs)
  (hh:es.toList.map (·.hash)=kvs.map (λkv=>Jr w kv.1))(nd:(kvs.map (·.1)).Nodup):KD P w K a kvs:=by
 refine⟨hs,λh In=>?_⟩
 obtain⟨vs,h1,h2,h3⟩:=Rl (P:=P) (w:=w) c
 refine⟨vs,h1,_,es,ep,In _ _ l,⟨rfl,rfl,rfl⟩,rfl,λe he=>Rm c hh e (by simpa using he),h2,by rw[h3];exact nd⟩
end L2
namespace SK
end SK
namespace L2
open PySem
def Px {ps:List Str}(h:ps.Nodup):(SK.dd (Cv (ps.map (Sum.inr:Str->Ag))) (ps.map (Sum.inr:Str->Ag)).length).length=ps.length:=by
 have hk:(ps.map (Sum.inr:Str->Ag)).length=ps.length:=Ar ..;rw[SK.dd_full (n:=ps.length) (λi j hi hj e=>?_) _ (by lia),hk];have ei:Cv (ps.map (Sum.inr:Str->Ag)) i=Sum.inr ps[i]:=by simp[Cv,List.getD,hi]
 have ej:Cv (ps.map (Sum.inr:Str->Ag)) j=Sum.inr ps[j]:=by simp[Cv,List.getD,hj]
 rw[ei,ej]at e;exact(Hv h).mp (Di e)
def JA (ha:H a=some (.tup xs))(hb:H b=some (.tup ys))(hz:xs.length+ys.length<=sizeLine)(h:∀(t:Addr) (H':Hp),Same H H'->H' t=some (.tup (xs++ys))->Q (.ref t) H'):P7 K (.ref a) (.ref b) H Q:=by
 refine⟨a,b,xs,ys,rfl,rfl,SqT.of ha,SqT.of hb,hz,λe=>?_,λ_ e=>?_,λ_ _ p hp=>?_⟩
 ·subst e;exact h b H (Same.refl _) hb
 ·subst e;exact h a H (Same.refl _) (by rw[CP];exact ha)
 exact h p _ (Same.new hp) Ak
end L2
namespace HT
open PySem PySem.Spec PyProof.Rows
end HT
namespace L2
open PySem PySem.Spec PyProof.Rows
section
variable {X:Cx}
def VC (hu:X.A.units+64<cLine):By X (compareOp .Eq) (λx y H Q=>∃(a b:Addr) (xs ys:List Str),x=.ref a/\y=.ref b/\H a=some (.lst (xs.map V.str))/\H b=some (.lst (ys.map V.str))/\PySem.SeqAt.shaped (.list (xs.map PyData.str))=true /\
  PySem.SeqAt.shaped (.list (ys.map PyData.str))=true/\Q (.bl (PyData.eqv (.list (xs.map PyData.str)) (.list (ys.map PyData.str)))) H):=by
 intro pins s σ H x y v u Q I rx ry h
 obtain⟨a,b,xs,ys,rfl,rfl,ha,hb,h1,h2,q⟩:=h
 cases rx
 cases ry
 obtain⟨as,ra⟩:=P0 I.hok ha
 obtain⟨bs,rb⟩:=P0 I.hok hb
 exact PySem.SeqAt.compareEq_shaped ra rb h1 h2 hu ⟨.bl _,H,I,rfl,q⟩
end
end L2
namespace ZT
open PySem PyProof.Rows
end ZT
namespace F17
open PySem
end F17
namespace L2
open PySem PySem.Spec PyProof.Rows
end L2
namespace SG
open PySem
end SG
namespace SG
open PySem
open Sem (wp)
end SG
namespace SG
open PySem PyProof.Rows
end SG
namespace L2
open PySem PyProof.Rows
end L2
namespace EN
open PySem PyProof.Rows
end EN
namespace L2
open PySem PyProof.Rows
end L2
namespace DP
open PySem PyProof.Rows
end DP
namespace L2
open PySem PyProof.Rows
end L2
namespace LP
open PySem PyProof.Rows
end LP
namespace L2
open PySem PyProof.Rows
end L2
namespace RT
open PySem PyProof.Rows
def Nt:Manifest.owners.lookup (String.ofList ['d','e','s','r','e','v','e','r'].reverse)=some Manifest.sig_reversed:=by kernel_rfl
def slot_next:Slot "reversed" "__next__" "reversed.__next__" := .of (owner := "reversed") (n := "__next__") (by rw[Gj,F9];kernel_rfl) (by decide +kernel) (by decide +kernel) (by decide +kernel) (by first | exact .inl (by decide +kernel) | exact .inr (by decide +kernel)) (by rw[HC];kernel_rfl)
def Q8:entryFor table "reversed.__next__" = some Builtin.«reversed.__next__»:=entryFor_of_tree (by kernel_rfl)
def RX (a:Value):argsOk "reversed.__next__" ⟨[a],[]⟩:=by unfold argsOk;rw[signature?_of (id := "reversed.__next__") (n:=['_','_','t','x','e','n','_','_']) (o:=['d','e','s','r','e','v','e','r']) (by kernel_rfl) Nt];kernel_rfl
def Pq:Slot "reversed" "__iter__" "reversed.__iter__" := .of (owner := "reversed") (n := "__iter__") (by rw[Gj,F9];kernel_rfl) (by decide +kernel) (by decide +kernel) (by decide +kernel) (by first | exact .inl (by decide +kernel) | exact .inr (by decide +kernel)) (by rw[HC];kernel_rfl)
def Z7 (a:Value):argsOk "reversed.__iter__" ⟨[a],[]⟩:=by unfold argsOk;rw[signature?_of (id := "reversed.__iter__") (n:=['_','_','r','e','t','i','_','_']) (o:=['d','e','s','r','e','v','e','r']) (by kernel_rfl) Nt];kernel_rfl
def Zq:entryFor table "reversed.__iter__" = some Builtin.«dict_keyiterator.__iter__»:=entryFor_alias (id' := "dict_keyiterator.__iter__") (by kernel_rfl) (by first | rfl | decide +kernel | (unfold String.splitOn;simp +decide [String.splitOnAux])) (by decide +kernel) (by kernel_rfl)
def slot_hint:Slot "reversed" "__length_hint__" "reversed.__length_hint__" := .of (owner := "reversed") (n := "__length_hint__") (by rw[Gj,F9];kernel_rfl) (by decide +kernel) (by decide +kernel) (by decide +kernel) (by first | exact .inl (by decide +kernel) | exact .inr (by decide +kernel)) (by rw[HC];kernel_rfl)
def Zr:entryFor table "reversed.__length_hint__" = some Builtin.«reversed.__length_hint__»:=entryFor_of_tree (by kernel_rfl)
def Z8 (a:Value):argsOk "reversed.__length_hint__" ⟨[a],[]⟩:=by unfold argsOk;rw[signature?_of (id := "reversed.__length_hint__") (n:=['_','_','t','n','i','h','_','h','t','g','n','e','l','_','_']) (o:=['d','e','s','r','e','v','e','r']) (by kernel_rfl) Nt];kernel_rfl
def UO:typeLookup (.type "reversed") "__len__" = pure none:=by rw[Gj,F9];kernel_rfl
def SS:typeLookup (.type "tuple") "__reversed__" = pure none:=by rw[Gj,F9];kernel_rfl
def O8:typeLookup (.type "tuple") "__getitem__" = pure (some (.builtin "tuple.__getitem__")):=by rw[Gj,F9];kernel_rfl
def SU:isSubtype (.type "tuple") (.type "dict")=pure false:=by rw[HC];kernel_rfl
def YX:splitId "reversed.__length_hint__" = some ("reversed", "__length_hint__"):=by first | rfl | decide +kernel | kernel_rfl
abbrev rO (t:Addr)(i:Int):Obj:={ cls:=.type "reversed",dict:=none,data:=.fields #[.ref t,rawInt i],slots:=#[] }
section
variable {prog:Program}{w:World}{A:Around}{E:Value->Shared->Prop}{s:Shared}
def UP {t:Addr} (ht:IsTup s.heap t items)(hz:(items.size:Int)<2^63)
  (h:Q₁ (.ref s.heap.objs.size) { s with heap:=s.heap.push (rO t ((items.size:Int)-1)),toks:=s.toks+1+1 }) :
  codeAny (model prog w) A (.call (.builtin "reversed.__new__") ⟨[.type "reversed",.ref t],[]⟩) (wants Q₁ E) s:=by
 have e0:=F.newCall_reversed_1 (.ref t)
 refine codeAny_of_tree ?_
 show wpAny _ A.in1 (do checkBuiltinCall "reversed.__new__" ⟨[.type "reversed",.ref t],[]⟩;again (.builtin "reversed.__new__" ⟨[.type "reversed",.ref t],[]⟩)) _ _ s
 refine Ae (CC e0 (An ⟨JO F.plain_reversed_new _,Fo F.entry_reversed_new ?_⟩))
 (rw[Hn F.plain_reversed_new _])
 (unfold Builtin.«reversed.__new__»)
 (refine Ae (CC (newClass_reversed _) ?_))
 try dsimp only
 (refine Ae (CC (a:=()) (by first | rfl | kernel_rfl) ?_))
 (refine Ae (CC (a:=()) (by first | rfl | kernel_rfl) ?_))
 try dsimp only
 refine Ae (Eb ht.typeIs SS ?_)
 try dsimp only
 refine Ae ?_
 show wpAny _ _ (isInstance (.ref t) (.type "dict") >>= _) _ _ s
 refine Ae (JW ht.typeIs SU ?_)
 show wpAny _ _ (specialOf (.ref t) (Str.ofString "__getitem__") >>= _) _ _ s
 refine Ae (Eb ht.typeIs O8 ?_)
 refine CC (a:=true) rfl ?_
 rw[Ai (by decide)]
 refine Ae (len_tuple ht hz ?_)
 refine Ae (CC (a:=some (items.size:Int)) rfl ?_)
 show wpAny _ _ (Builtin.SmallTypes.newRecord (.type "reversed") [.ref t,rawInt ((items.size:Int)-1)] >>= _) _ _ _
 refine Ae (C5 (T := "reversed") (data:=.fields #[.ref t,rawInt ((items.size:Int)-1)]) (An ?_))
 exact h
def UQ {it t:Addr}{i:Nat}{items:Array Value}{x:Value}{Q:Option Value->Shared->Prop}(hit:s.heap.get? it=some (rO t (i:Int)))(ht:IsTup s.heap t items)(hx:items[i]? = some x)(hz:(items.size:Int)<2^63)
  (hQ:∀h' tk,h'.get? it=some (rO t ((i:Int)-1))->Heap.SameBut it s.heap h'->Q (some x) { s with heap:=h',toks:=tk }):wpAny (model prog w) A (pyNext (.ref it)) Q E s:=by
 have ty:s.TypeIs (.ref it) "reversed" := ⟨_,hit,rfl⟩
 have hlt:i<items.size:=(Sb.mp hx).1
 unfold pyNext
 refine Ae (ER (Ho (name:=Str.ofString "__next__") ty slot_next (Ey slot_next ty Q8 ?_ (RX _))))
 unfold Builtin.«reversed.__next__»
 (refine Ae (CC (a:=(Value.ref it,[])) rfl ?_))
 try dsimp only
 refine Ae (Dz hit rfl (x:=.ref t) rfl ?_)
 refine Ae (Dz hit rfl (x:=rawInt (i:Int)) rfl ?_)
 (show wpAny _ _ (if (i:Int)<0 then _ else _) _ _ s)
 rw[Ai (by lia)]
 show wpAny _ _ (specialOf (.ref t) (Str.ofString "__getitem__") >>= _) _ _ s
 refine Ae (Eb ht.typeIs O8 ?_)
 rw[Ai (by simp)]
 (refine Ae (wpAny_mkInt ?_))
 refine Ae (ER (getItem_tuple ht (by lia) (by lia) ((seqIndex_of (k:=(i:Int)) (n:=items.size) (by lia) (by lia)).trans (by simp)) hx ?_))
 show wpAny _ _ (field (.ref it) 1 >>= _) _ _ _
 refine Ae (Dz hit rfl (x:=rawInt (i:Int)) rfl ?_)
 show wpAny _ _ (setField (.ref it) 1 (rawInt ((i:Int)-1)) >>= _) _ _ _
 refine Ae (Os hit (by simp) λh1 z1 b1=>?_)
 exact An ⟨_,rfl,An (hQ _ _ z1 b1)⟩
def US {t:Addr} (hh:A.handled=none)(hit:s.heap.get? it=some (rO t (-1)))
  (hQ:∀g,Heap.ExtBut it s.heap g->Q none { s with heap:=g }):wpAny (model prog w) A (pyNext (.ref it)) Q E s:=by
 have ty:s.TypeIs (.ref it) "reversed" := ⟨_,hit,rfl⟩
 unfold pyNext
 refine Ae (ER (Ho (name:=Str.ofString "__next__") ty slot_next (Ey slot_next ty Q8 ?_ (RX _))))
 unfold Builtin.«reversed.__next__»
 (refine Ae (CC (a:=(Value.ref it,[])) rfl ?_))
 try dsimp only
 refine Ae (Dz hit rfl (x:=.ref t) rfl ?_)
 refine Ae (Dz hit rfl (x:=rawInt (-1)) rfl ?_)
 (show wpAny _ _ (if (-1:Int)<0 then _ else _) _ _ s)
 rw[As (by decide)]
 refine Ae (Gg ?_)
 refine Ae ?_
 show wpAny _ _ (setField (.ref it) 1 (rawInt (-1)) >>= λ_=>setField (.ref it) 0 .none) _ _ _
 refine Ae (Os hit (by simp) λh1 z1 b1=>Os z1 (by simp) λh2 z2 b2=>?_)
 refine Ae ?_
 (show wpAny _ _ (newExc (.type "StopIteration") [] >>= _) _ _ _)
 refine Ae ?_
 simp only[newExc,newTuple]
 (refine Ae (C5 ?_ (by size_fits)))
 refine Ae (m:=firstArgMember _ _) (CC (a:=Value.none) (by first | (simp only[firstArgMember];rfl) | rfl) ?_)
 (refine C5 ?_ (by size_fits))
 simp only[raiseNew]
 (refine Ae (wpAny_handled ?_))
 (rw[show A.in1.handled=none from hh])
 (refine Ae (An (wpAny_throw ?_)))
 refine Ae (JW (T := "StopIteration") (b:=true) ⟨_,BI _ rfl,rfl⟩ isSubtype_stop (An (hQ _ ?_)))
 exact λb o hb e=>Bf _ (Bf _ (b2.extBut b o hb (b1.extBut b o hb e)))
def PP {t:Addr} (hit:s.heap.get? it=some (rO t i))(h:Q (.ref it) s):wpAny (model prog w) A (pyIter (.ref it)) Q E s:=by have ty:s.TypeIs (.ref it) "reversed" := ⟨_,hit,rfl⟩;refine wpAny_pyIter_slot ty Pq (Ey Pq ty Zq ?_ (Z7 _));(show wpAny _ _ (ret (.ref it)) _ _ s);exact An ⟨_,rfl, "reversed",_,ty,slot_next.lookup,h⟩
def UR {t:Addr} (hit:s.heap.get? it=some (rO t ((items.size:Int)-1)))(ht:IsTup s.heap t items)(hz:(items.size:Int)<2^63)(hs:items.size<=sizeLine)(hp:0<items.size)
  (hQ:∀tk,Q true { s with toks:=tk }):wpAny (model prog w) A (Builtin.List.listLengthHint (.ref it)) Q E s:=by
 have ty:s.TypeIs (.ref it) "reversed" := ⟨_,hit,rfl⟩
 (unfold Builtin.List.listLengthHint)
 refine Ae (Eb ty UO ?_)
 show wpAny _ _ (specialOf (Value.ref it) (Str.ofString "__length_hint__") >>= _) _ _ _
 refine Ae (Eb ty slot_hint.lookup ?_)
 dsimp only
 rw[YX]
 dsimp only
 refine Ae (JW ty F.sub_reversed_self ?_)
 rw[Ai (by decide),Ai (by decide +kernel)]
 refine Ae (Gg ?_)
 refine Ae (CC (slot_hint.bind _) ?_)
 dsimp only
 refine Ae (ER (Ey slot_hint ty Zr ?_ (Z8 _)))
 unfold Builtin.«reversed.__length_hint__»
 refine Ae (CC (a:=Value.ref it) rfl ?_)
 refine Ae (Dz hit rfl (x:=.ref t) rfl ?_)
 (rw[Ai (show ¬((Value.ref t == Value.none)=true) from Br)])
 refine Ae (len_tuple ht hz ?_)
 refine Ae (CC (a:=some (items.size:Int)) rfl ?_)
 show wpAny _ _ (field (.ref it) 1 >>= _) _ _ _
 refine Ae (Dz hit rfl (x:=rawInt ((items.size:Int)-1)) rfl ?_)
 show wpAny _ _ (if (items.size:Int)<(items.size:Int)-1+1 then _ else _) _ _ _
 rw[Ai (by lia)]
 (refine Ae (wpAny_mkInt (An ⟨_,rfl,?_⟩)))
 have e:(items.size:Int)-1+1=items.size:=by lia
 rw[e]
 dsimp only
 generalize hn:(items.size:Int)=n
 refine Ae ?_
 refine CC (a:=some n) rfl ?_
 dsimp only
 have f1:Builtin.List.listFitsIndex n=true:=by (unfold Builtin.List.listFitsIndex);rw[Ce,Fq,Fq];exact⟨by lia,by rw[<- hn];exact hz⟩
 have f2:Builtin.List.listTooLong n.toNat=false:=by unfold Builtin.List.listTooLong;exact A8 (by rw[<- hn,ES];lia)
 rw[Ai (by rw[f1];decide),Ai (by lia),Ai (by rw[f2];decide)]
 refine An ?_
 have f3:(n != 0)=true:=by rw[bne_iff_ne];lia
 rw[f3]
 exact hQ _
end
theorem OZ (hh:A.handled=none)(I t:Addr)(hne:t≠I)(items:Array Value)(hz:(items.size:Int)<2^63) :
  Walks prog w A I [I,t] [I] items.size (λi v=>items[items.size-1-i]? = some v) (λi h=>i<=items.size/\h.get? I=some (rO t ((items.size:Int)-1-(i:Int)))/\IsTup h t items) where
 sub:=λb hb=>by rw[AW.mp hb];exact AZ
 frame:=λ_ _ _ x hk=>⟨x.1,hk I (by simp) _ x.2.1,by obtain⟨o,ho,r⟩:=x.2.2;exact⟨o,hk t (by simp) o ho,r⟩⟩
 item:=λi s Q' E' hi x hQ=>by (have e:(items.size:Int)-1-(i:Int)=((items.size-1-i:Nat):Int):=by lia);have hit:=x.2.1;rw[e]at hit;(have hx:items[items.size-1-i]? = some (items[items.size-1-i]'(by lia)):=LZ (by lia));refine UQ hit x.2.2 hx hz λh' tk hit' hs'=>?_;(have e2:((items.size-1-i:Nat):Int)-1=(items.size:Int)-1-((i+1:Nat):Int):=by lia);rw[e2]at hit';obtain⟨o,ho,r⟩:=x.2.2;exact hQ _ h' tk hx ⟨hi,hit',o,(hs'.2 t hne).trans ho,r⟩ λb o hb eo=>hs'.extBut b o (λh=>hb (by simp[h])) eo
 done:=λs Q E x hQ=>by (have e:(items.size:Int)-1-(items.size:Int)=-1:=by lia);have hit:=x.2.1;rw[e]at hit;exact US hh hit λh' he'=>hQ h' s.toks λb o hb eo=>he' b o (λh=>hb (by simp[h])) eo
 self:=λ_ _ _ _ x hQ=>PP x.2.1 hQ
section
variable {prog:Program}{w:World}{A:Around}{E:Value->Shared->Prop}{s:Shared}
def UT {t:Addr} (hh:A.handled=none)(hit:s.heap.get? it=some (rO t ((items.size:Int)-1)))(ht:IsTup s.heap t items)(hne:t≠it)(hz:(items.size:Int)<2^63)(hs:items.size<=sizeLine)(hp:0<items.size)
  (hQ:∀h' tk acc,(∀b o,b≠it->s.heap.get? b=some o->h'.get? b=some o)->ItemsOf (λi v=>items[items.size-1-i]? = some v) acc items.size->Q acc.toList { s with heap:=h',toks:=tk }) :
  (wpAny (model prog w) A (collect (.ref it)) Q E s):=by
 have ty:s.TypeIs (.ref it) "reversed" := ⟨_,hit,rfl⟩
 have hlt:=A3 hit
 have htl:=ht.lt
 have hSI:s.heap.objs.size≠it:=ne_of_gt hlt
 have hSf:s.heap.objs.size∉[it,t]:=λh=>by
  simp only[AD,B6,B4]at h;rcases h with h | h
  ·exact hSI h
  exact ne_of_gt htl h
 unfold collect
 (refine Ae (wpAny_runValue (Fo F.entry_proto_collect ?_)))
 (rw[Hn F.plain_proto_collect _])
 (show wpAny _ A.in1 (newList [] >>= λl=>again (.builtin "list.__iadd__" ⟨[l,.ref it],[]⟩)) _ _ s)
 (refine Ae (C5 ?_))
 (refine An ⟨JO F.plain_list_iadd _,Fo F.entry_list_iadd ?_⟩)
 (rw[Hn F.plain_list_iadd _])
 have p1:∀b o,s.heap.get? b=some o->(s.heap.push { cls:=.type "list",data:=.seq ([]:List Value).toArray }).get? b=some o:=λb o e=>Bf _ e
 (show wpAny _ A.in1 (Builtin.List.listExtendWith (.ref s.heap.objs.size) (.ref it) (.ref s.heap.objs.size)) _ _ _)
 (unfold Builtin.List.listExtendWith)
 refine Ae (wpAny_typeOf (T := "reversed") ⟨_,p1 _ _ hit,rfl⟩ ?_)
 have h1:Builtin.List.listSameRef (.ref s.heap.objs.size) (.ref it)=false:=by simp[Builtin.List.listSameRef,hSI]
 have h2:(Value.type "reversed" == Value.type "list")=false:=by decide
 have h3:(Value.type "reversed" == Value.type "tuple")=false:=by decide
 (simp only[h1,h2,h3,Bool.or_false,Gi,DB])
 refine Ae (PP (p1 _ _ hit) ?_)
 refine Ae (CZ (UR (p1 _ _ hit) (ht.push _) hz hs hp λtk=>?_))
 rw[As (by rfl)]
 refine Ae (Gg ?_)
 (have hS₁:(s.heap.push { cls:=.type "list",data:=.seq ([]:List Value).toArray }).get? s.heap.objs.size=some { cls:=.type "list",data:=.seq ([]:List Value).toArray }:=BI _ rfl)
 refine Ae ?_
 (show wpAny _ A.in1 (updateSeq s.heap.objs.size (·.push .none) >>= λ_=>updateSeq s.heap.objs.size (·.pop)) _ _ _)
 (refine Ae (wpAny_updateSeq hS₁ rfl ?_))
 (have hS₂:=LS (Obj.mapSeq (·.push Value.none)) hS₁ rfl)
 (refine wpAny_updateSeq hS₂ rfl ?_)
 (have hS₃:=LS (Obj.mapSeq (·.pop)) hS₂ rfl)
 have oth:∀b o,b≠s.heap.objs.size->s.heap.get? b=some o->(((s.heap.push { cls:=.type "list",data:=.seq ([]:List Value).toArray }).update s.heap.objs.size (Obj.mapSeq (·.push Value.none))).update s.heap.objs.size (Obj.mapSeq (·.pop))).get? b=some o:=
  λb o hb e=>(LV _ _ (Dm hb)).trans ((LV _ _ (Dm hb)).trans (p1 b o e))
 have st:0<=items.size/\(((s.heap.push { cls:=.type "list",data:=.seq ([]:List Value).toArray }).update s.heap.objs.size (Obj.mapSeq (·.push Value.none))).update s.heap.objs.size (Obj.mapSeq (·.pop))).get? it=some (rO t ((items.size:Int)-1-((0:Nat):Int)))/\IsTup (((s.heap.push { cls:=.type "list",data:=.seq ([]:List Value).toArray }).update s.heap.objs.size (Obj.mapSeq (·.push Value.none))).update s.heap.objs.size (Obj.mapSeq (·.pop))) t items:=by
  refine⟨Be _,?_,?_⟩
  ·rw[show(items.size:Int)-1-((0:Nat):Int)=items.size-1 by lia];exact oth _ _ hSI.symm hit
  obtain⟨o,ho,r⟩:=ht;exact⟨o,oth _ _ (Bo htl) ho,r⟩
 refine An ⟨JO F.plain_extend_loop _,codeAny_extend_loopS (OZ (A:=A.in1) hh it t hne items hz).toS hs _ hSf _ items.size 0 _ _ _ rfl (Be _) st hS₃ (ItemsOf.nil _) λs' acc' c' hm hS' hacc=>?_⟩
 (show wpAny _ A (load s.heap.objs.size >>= _) _ _ s')
 refine Ae (wpAny_load hS' (An ?_))
 have kk:∀b o,b≠it->s.heap.get? b=some o->s'.heap.get? b=some o:=λb o hb e=>by
  have hbl:=A3 e;refine hm.heap b o (λh=>?_) (oth b o (Bo hbl) e);rcases(AD.mp h)with h | h
  ·exact Bo hbl h
  exact hb (AW.mp h)
 have g1:s'.gens=s.gens:=hm.gens
 have g2:s'.drawn=s.drawn:=hm.drawn
 have g3:s'.os=s.os:=hm.os
 (obtain⟨h',g',d',tk',os'⟩:=s')
 cases g1
 cases g2
 cases g3
 exact hQ h' tk' acc' kk hacc
def SV {t:Addr} (hh:A.handled=none)(hit:s.heap.get? it=some (rO t ((items.size:Int)-1)))(ht:IsTup s.heap t items)(hne:t≠it)(hz:(items.size:Int)<2^63)(hs:items.size<=sizeLine)(hp:0<items.size)
  (h:∀(h':Heap) (tk:Nat) (acc:Array Value),(∀b o,b≠it->s.heap.get? b=some o->h'.get? b=some o)->ItemsOf (λi v=>items[items.size-1-i]? = some v) acc items.size->Q₁ (.ref h'.objs.size) { s with heap:=h'.push { cls:=.type "tuple",data:=.seq acc },toks:=tk }) :
  codeAny (model prog w) A (.call (.builtin "tuple.__new__") ⟨[.type "tuple",.ref it],[]⟩) (wants Q₁ E) s:=by
 have e0:=F.newCall_tuple_1 (.ref it)
 refine codeAny_of_tree ?_
 show wpAny _ A.in1 (do checkBuiltinCall "tuple.__new__" ⟨[.type "tuple",.ref it],[]⟩;again (.builtin "tuple.__new__" ⟨[.type "tuple",.ref it],[]⟩)) _ _ s
 refine Ae (CC e0 (An ⟨JO F.plain_tuple_new _,Fo F.entry_tuple_new ?_⟩))
 (rw[Hn F.plain_tuple_new _])
 have hsub:=sub_tuple_self
 (have hinit:=init_tuple_lookup)
 have hmh:=madeHere_tuple
 have hTI:s.TypeIs (.ref it) "reversed" := ⟨_,hit,rfl⟩
 (have hh1:A.in1.handled=none:=hh)
 wp_walk using wpAny_typeOf hTI,UT hh1 hit ht hne hz hs hp
 intro h' tk acc kk hacc
 (show wpAny _ _ (Builtin.Tuple.tupleExact acc.toList.toArray >>= λv=>ret v) _ _ _)
 (unfold Builtin.Tuple.tupleExact)
 (have e:acc.toList.toArray=acc:=by simp)
 refine Ae (C5 ?_ (show acc.toList.toArray.size<=sizeLine from by rw[e,hacc.1];exact hs))
 refine An ?_
 rw[e]
 exact h h' tk acc kk hacc
def T4:Slot "reversed" "__init__" "object.__init__" := .of (owner := "object") (n := "__init__") (by rw[Gj,F9];kernel_rfl) (by decide +kernel) (by decide +kernel) (by decide +kernel) (by first | exact .inl (by decide +kernel) | exact .inr (by decide +kernel)) (by rw[HC];kernel_rfl)
def called_rev:TypeCalled "reversed" "reversed.__new__" "object.__init__" := ⟨by decide +kernel,by decide +kernel,⟨_,_,F.mro_reversed⟩,F.made_reversed,by decide +kernel,by rw[HC];kernel_rfl,T4⟩
def call_rev {t:Addr} (ht:IsTup s.heap t items)(hz:(items.size:Int)<2^63)
  (h:Q (.ref s.heap.objs.size) { s with heap:=s.heap.push (rO t ((items.size:Int)-1)),toks:=s.toks+1+1 }):wpAny (model prog w) A (call (.type "reversed") [.ref t]) Q E s:=
 callType_codes (Q₁:=λobj s₁=>s₁.TypeIs obj "reversed" /\ Q obj s₁) called_rev (F.typeCall_reversed_1 _) F.entry_object_init (UP ht hz ⟨⟨_,BI _ rfl,rfl⟩,h⟩)
  λobj s₁ h₁=>⟨h₁.1,F.args_object_init_2 obj _,object_init_meets called_rev.init.lookup called_rev.made (by decide) prog w A.in1 _ s₁ ⟨h₁.1,rfl,h₁.2⟩⟩
def call_tup {t:Addr} (hh:A.handled=none)(hit:s.heap.get? it=some (rO t ((items.size:Int)-1)))(ht:IsTup s.heap t items)(hne:t≠it)(hz:(items.size:Int)<2^63)(hs:items.size<=sizeLine)(hp:0<items.size)
  (h:∀(h':Heap) (tk:Nat) (acc:Array Value),(∀b o,b≠it->s.heap.get? b=some o->h'.get? b=some o)->ItemsOf (λi v=>items[items.size-1-i]? = some v) acc items.size->Q (.ref h'.objs.size) { s with heap:=h'.push { cls:=.type "tuple",data:=.seq acc },toks:=tk }) :
  wpAny (model prog w) A (call (.type "tuple") [.ref it]) Q E s:=
 callType_codes (Q₁:=λobj s₁=>s₁.TypeIs obj "tuple" /\ Q obj s₁) F.called_tuple (F.typeCall_tuple_1 _) F.entry_object_init (SV (A:=A.in1) hh hit ht hne hz hs hp λh' tk acc kk hacc=>⟨⟨_,BI _ rfl,rfl⟩,h h' tk acc kk hacc⟩)
  λobj s₁ h₁=>⟨h₁.1,F.args_object_init_2 obj _,object_init_meets F.called_tuple.init.lookup F.called_tuple.made (by decide) prog w A.in1 _ s₁ ⟨h₁.1,rfl,h₁.2⟩⟩
end
def rev_items {items acc:Array Value}(h:ItemsOf (λi v=>items[items.size-1-i]? = some v) acc items.size):acc=items.toList.reverse.toArray:=by
 apply Array.ext_getElem?;intro i;have hl:=h.1;by_cases hi:i<items.size
 ·have h1:acc[i]? = some (acc[i]'(by lia)):=LZ (by lia);rw[<- LR,<- LR,List.toList_toArray,List.getElem?_reverse (by simpa using hi),LR,LR,JY,h.2 i _ h1,h1]
 rw[OE (by lia),OE (by simp;lia)]
end RT
namespace LU
open PySem PyProof.Rows
end LU
namespace L2
open PySem PySem.Spec PyProof.Rows
def Z0:bootBuiltins "reversed" = some (.type "reversed"):=by decide +kernel
def S7 (K:W.Frag)(ta:TA):TE:=λσ H Q=>ta σ H λvs H1=>∃a xs,vs=[.ref a]/\SqT K H1 a xs/\xs≠[]/\∀p,H1 p=none->Q (.ref p) (Ac H1 p (.tup xs.reverse))
theorem O1:∀{xs:List V}{us:List Value},Vals xs us->Vals xs.reverse us.reverse
 | _,_,.nil=>.nil
 | _,_,.cons a b=>by (rw[LC,LC]);exact(O1 b).append (.cons a .nil)
def Vo (hc:X.calm=true) (hgl:Gl X "tuple")(hml:X.mg "tuple" = none)(hvl:bootBuiltins "tuple" = some (.type "tuple"))(hg:Gl X "reversed")(hm:X.mg "reversed" = none)(hv:bootBuiltins "reversed" = some (.type "reversed"))(ha:PA X [a] ta)
  (hs:starEach [a] X.env=[(false,eval a X.env)]:=by rfl)
  (hs0:starEach [.Call (.Name "reversed" p2) [a] [] pos2] X.env=[(false,eval (.Call (.Name "reversed" p2) [a] [] pos2) X.env)]:=by rfl) :
  PE X (.Call (.Name "tuple" p1) [.Call (.Name "reversed" p2) [a] [] pos2] [] pos1) (S7 X.K ta):=by
 intro pins s σ H Q I h
 refine Hm (Hd I hgl hml hvl ?_)
 refine Lm ?_ (by rw[hs0];rfl) rfl
 rw[hs0]
 show wpAny _ _ (spliced ((false,eval (.Call (.Name "reversed" p2) [a] [] pos2) X.env)::backTo pos1 [])) _ _ s
 refine Ow ?_
 refine Call_ (Hd I hg hm hv (Lm (Ao (ha pos2 pins s σ H _ I h) λus s1 hp0=>?_) (by rw[hs];rfl) (by rfl)))
 obtain⟨vs,H1,I1,r1,q1⟩:=hp0
 obtain⟨x,xs,rfl,qa,hne,q⟩:=q1
 obtain⟨u,rfl,ru⟩:=Da r1
 cases ru
 obtain⟨its,r2,pa,hz⟩:=I1.tuple qa
 have hl:=r2.length
 have aa:sizeLine=16777216:=AM
 have hpos:=Oy.mpr hne
 have hsz:its.toArray.size=its.length:=BH
 have hi:((its.toArray.size:Nat):Int)<2^63:=by lia
 have pt:IsTup s1.heap x its.toArray:=pa
 have hx:=pt.lt
 refine RT.call_rev pt hi ?_
 refine On ?_
 refine RT.call_tup (A:=X.A) (t:=x) (items:=its.toArray) (I1.ok.hd hc) (BI _ rfl) (pt.push _) (Bo hx) hi (by lia) (by lia) λh' tk acc kk hacc=>?_
 have ea:=RT.rev_items hacc
 rw[List.toList_toArray]at ea
 subst ea
 have Ih:Inv X pins σ H1 { s1 with heap:=h',toks:=tk }:=I1.kept (t':=tk) λb o e=>kk b o (Bo (A3 e)) (Bf _ e)
 have I2:Inv X pins σ (Ac H1 h'.objs.size (.tup xs.reverse)) { s1 with heap:=h'.push { cls:=.type "tuple",data:=.seq its.reverse.toArray },toks:=tk }:=
  Ih.laid (t':=tk) (λb o e=>Bf _ e) (AA _) (show ObjOk X.prog X.w _ _ _ (.tup xs.reverse) from ⟨by rw[LL];lia,its.reverse,O1 r2,IsTup.new _ _⟩)
 exact⟨.ref h'.objs.size,_,I2,rfl,q _ (Ih.hok.fresh (AA _))⟩
end L2
namespace SI
open PySem PySem.W PyProof.Rows
end SI
namespace L2
open PySem PySem.W PyProof.Rows
end L2
namespace L2
open PySem PySem.Spec PyProof.Rows PySem.W
section
variable {M:Model}{A:Around}{env:Env}{E:Value->Shared->Prop}{s:Shared}
def N1 (M:Model)(A:Around)(E:Value->Shared->Prop)(use:Option (Value->Sem Unit))(Q:Value->Shared->Prop)(acc:Value)(ce:Env)(r:Result)(s':Shared):Prop:=
 match r with
 | .ok _=>(match use with
  | none=>∃m,s'.heap.Ns ce.locals m/\∀h',Heap.SameBut ce.locals s'.heap h'->Q acc { s' with heap:=h' }
  | some u=>wpAny M A (u acc) (λ_ t=>∃m,t.heap.Ns ce.locals m/\∀h',Heap.SameBut ce.locals t.heap h'->Q .none { t with heap:=h' }) E s')
 | .error x=>∃m,s'.heap.Ns ce.locals m/\∀h',Heap.SameBut ce.locals s'.heap h'->wpAny M A (passOn "comprehension.variables-let-go" x ce:Sem Value) (λ_ _=>False) E { s' with heap:=h' }
def Rx 
  (hcl:clausesOf e=g::gs)(hs:∀x,foldedSetIterable g.iter env x=pure x)(hclos:closureFor scope env=pure cl)(hkind:scope.kind=.function)(hnames:∀x∈scope.names,x.2=.local->scope.names.lookup x.1=some .local)
  (h:wpAny M A first (λx s1=>wpAny M A (pyIter x) (λit s2=>wpAny M A newAcc (λacc s3=>wpAny M A (newFunctionEnv scope env.globals cl [] env.qual none .none (some env)) (λce s4=>codeAny M A (.compStart e 0 it acc { ce with scope:=relabel scope env }) (N1 M A E use Q acc ce) s4) E s3) E s2) E s1) E s) :
  (wpAny M A (comprehension e scope env pos newAcc false first use) Q E s):=by
 unfold comprehension
 rw[hclos,hcl]
 refine Ae (Ao h λx s1 h1=>Ae (JP (Ae (CC (hs x) (Ae (CZ (Ao h1 λit s2 h2=>wpAny_standIf (Ae (Ao h2 λacc s3 h3=>Ae (An (Ae (Ao h3 λce s4 h4=>?_))))))))))))
 dsimp only
 have hv:∀x∈(scope.names.filter λx=>(x.2 == .local || x.2 == .cell) && x.1 != (".0" : Str)).reverse,x.2=.local->Env.kindOf { ce with scope:=relabel scope env } x.1=some .local:=λx hx hl=>lookup_relabel_local (hnames x (mem_filter.mp (List.mem_reverse.mp hx)).1 hl)
 refine CZ (Ae (ER (CZ (wpAny_run (Gh h4 λr s' hr=>?_)))))
 cases r with
 | ok f=>
  cases use with
  | none=>obtain⟨m,hn,hr⟩:=hr;exact Ae (CZ (wpAny_comp_letGo (cenv:={ ce with scope:=relabel scope env }) hkind _ s' m hv hn λh' _ _ q=>An (hr h' q)))
  | some u=>
   refine Ae (Gg (Ae (CZ (Ao hr λ_ t hr'=>?_))));obtain⟨m,hn,hr'⟩:=hr'
   exact Ae (wpAny_comp_letGo (cenv:={ ce with scope:=relabel scope env }) hkind _ t m (λx hx hl=>by
    rcases(Cc.mp hx)with z1 | z1
    ·exact hv x (LN z1) hl
    exact hv x (Lw z1) hl) hn λh' _ _ q=>An (hr' h' q))
 | error x=>obtain⟨m,hn,hr'⟩:=hr;exact Ae (CZ (wpAny_comp_letGo (cenv:={ ce with scope:=relabel scope env }) hkind _ s' m hv hn λh' _ _ q=>BL (hr' h' q) (λ_ _ f=>f.elim) λ_ _ y=>y))
def Ue (R:Heap.HeldW base l e cls a0 L s.heap)
  (h:∀g,Heap.HeldW base l e cls a0 L g->s.heap.UpToSlots g->Q () { s with heap:=g }):wpAny M A (setFlight (.ref e) (some L)) Q E s:=by
 (obtain⟨hkb,hen,hl,oe,vs,T,oT,ts,he,hcls,hd,h1,hnT,hTe,hT,hdT,h3⟩:=R)
 have z3:3<ts.size:=(Sb.mp h3).1
 have other:∀b,b≠T->(s.heap.update T (Obj.mapFields (·.setIfInBounds 3 ((some L).elim Value.none λf=>rawInt f)))).get? b=s.heap.get? b:=λb hb=>LV _ _ λz=>hb z.symm
 have noT:∀b o,s.heap.get? b=some o->(∀vs,o.data≠.fields vs)->b≠T:=λb o hb hnf q=>by rw[q,hT]at hb;injection hb with hb;subst hb;exact hnf ts hdT
 unfold setFlight
 (refine Ae (Dz he hd h1 ?_))
 rw[As (by simp)]
 refine wpAny_setField hT hdT z3 (h _ ⟨λb o hbo=>(other b λq=>by rw[q,hnT]at hbo;cases hbo).trans (hkb b o hbo),hen,hl.of_keeps λb o hb hnf=>⟨o,(other b (noT b o hb hnf)).trans hb,rfl⟩,?_⟩ λb o hb hnf=>⟨o.slots,(other b (noT b o hb hnf)).trans hb⟩)
 exact⟨oe,vs,T,_,_,(other e λz=>hTe z.symm).trans he,hcls,hd,h1,hnT,hTe,LS _ hT (Obj.isFreed_of_fields (LG hdT _)),LG hdT _,by simp[z3]⟩
def Sy {α:Type}{base:Heap}{l:List Env}{e L:Addr}{cls a0:Value}{what:String}{Q:α->Shared->Prop}(hf:env.frame=some L)(R:Heap.HeldW base l e cls a0 L s.heap)
  (h:∀h',Heap.HeldW base l e cls a0 L h'->s.heap.UpToSlots h'->E (.ref e) { s with heap:=h' }):wpAny M A (passOn what (.ref e) env:Sem α) Q E s:=by
 have R':=R
 obtain⟨_,_,_,oe,vs,T,_,_,he,_,hd,h1,_⟩:=R'
 unfold PySem.passOn
 (refine Ae (Dz he hd h1 ?_))
 rw[Ai (by simp),hf]
 exact Ae (Ue R λh' r u=>wpAny_throw (h h' r u))
def Yt (hf:env.frame=some L)(hh:Heap.HeldW base (env::outer) e cls a0 L s.heap)
  (hQ:∀g,Heap.FlyingW base outer e cls a0 g->s.heap.UpToSlots g->Q () { s with heap:=g }):wpAny M A (leaving env (.ref e)) Q E s:=by
 unfold leaving
 refine Ae (wpAny_noteFrame_againW hf hh.2.2.2 (wpAny_landsW hh λh' hfl u=>?_))
 (obtain⟨k1,k2,⟨_,_,k3⟩,k4⟩:=hfl)
 exact hQ h' ⟨k1,k2,k3,k4⟩ u
end
theorem QY {h h' base:Heap}:∀{l:List Env},(∀b∈Bn l,h'.get? b=h.get? b)->h.FunFrames base l->h'.FunFrames base l
 | [],_,_=>trivial
 | env::r,k,⟨hk,⟨L,o,hf,hn,ho,hd⟩,hr⟩=>by
  have e:Bn (env::r)=L::Bn r:=by unfold Bn;rw[Fn,hf]
  rw[e]at k;exact⟨hk,⟨L,o,hf,hn,(k L AZ).trans ho,hd⟩,QY (λb hb=>k b (AR _ hb)) hr⟩
def Zd (I:Inv X pins σ H s)(hex:X.ex=[])(hst:X.stack=env::outer)(hout:X.outer=outer)(hf:env.frame=some X.env.locals)
  (F:HM X.prog X.w X.stack H s a H' B s')(hD:H' D=none)(hD2:X.s₀.heap.objs.size<=D){t:Addr}(hfl:Heap.FlyingW (hideAll B [D]) outer a (.ref C) (.ref t) h')
  (ups:∀b o,b≠D->s'.heap.get? b=some o->(∀vs,o.data≠.fields vs)->∃sl,h'.get? b=some { o with slots:=sl }):HM X.prog X.w outer X.H₀ X.s₀ a H' (hideAll B [D]) { s' with heap:=h' }:=by
 subst hout
 have hsub:∀b,b∈X.fs->b∈Bn X.stack:=λb hb=>by rw[hst];unfold Bn;rw[Fn,hf];exact AR _ hb
 have hold:∀b o,X.s₀.heap.get? b=some o->b≠X.env.locals/\b≠D:=λb o e=>⟨λz=>absurd (Cf (z ▸ A3 e) I.ok.above) (EC _),λz=>absurd (Cf (z ▸ A3 e) hD2) (EC _)⟩
 have nex:∀b:Addr,b∉X.ex:=λb z=>by rw[hex]at z;cases z
 have hout2:∀b o,X.s₀.heap.get? b=some o->b∉X.fs->b∉Bn X.stack:=λb o e hb z=>by
  rw[hst]at z;unfold Bn at z;rw[Fn,hf]at z;rcases(AD.mp z)with q | q
  ·exact(hold b o e).1 q
  exact hb q
 have back:∀b o,b≠D->B.get? b=some o->(hideAll B [D]).get? b=some o:=λb o n e=>JN _ e λz=>by
  rcases(AD.mp z)with q | q
  ·exact n q
  cases q
 have nD:∀c,H' c≠none->c≠D:=λc hc z=>hc (by rw[z];exact hD)
 have k1:∀b o,X.s₀.heap.get? b=some o->X.H₀ b=none->b∉X.fs->(hideAll B [D]).get? b=some o:=λb o e n hb=>back b o (hold b o e).2 (F.k1 b o (I.base.keep b o e n hb (nex b)) (I.base.free b o e n (nex b)) (hout2 b o e hb))
 have k2:∀c v,H' c≠none->s'.heap.get? c=some v->(hideAll B [D]).get? c=some v:=λc v hc q=>back c v (nD c hc) (F.k2 c v hc q)
 have slot:∀b o,X.s₀.heap.get? b=some o->X.H₀ b=none->b∈X.fs->∃sl,h'.get? b=some { o with slots:=sl }:=λb o e n hb=>by obtain⟨sl,e1⟩:=I.base.slot b o e n hb (nex b);obtain⟨sl2,e2⟩:=F.un.slot b _ e1 (I.base.free b o e n (nex b)) (hsub b hb) (by simp);obtain⟨_,o',ho',hd⟩:=F.funs.mem (hsub b hb);rw[e2]at ho';cases ho';exact(ups b _ (hold b o e).2 e2 hd).imp λ_ z=>z
 have k3:∀b o,X.s₀.heap.get? b=some o->b∉X.fs->∃o',(hideAll B [D]).get? b=some o':=λb o e hb=>by obtain⟨o1,e1⟩:=I.base.there b o e (nex b);obtain⟨o2,e2⟩:=F.k3 b o1 e1 (hout2 b o e hb);exact⟨o2,back b o2 (hold b o e).2 e2⟩
 refine⟨F.os.trans I.os,F.bare,⟨λb o e n hb _=>hfl.1 b o (k1 b o e n hb),λb o e n hb _=>slot b o e n hb,λb o e n _=>?_,λb o e _=>?_,λb xs q=>F.un.tups b xs (I.base.tups b xs q),λb o u q=>F.un.frzs b o u (I.base.frzs b o u q),λb ps q=>?_⟩,
  λb u e=>(F.hok b u e).stay (λc v hc q=>hfl.1 c v (k2 c v (by
   rcases hc with z | z
   ·rw[z,e];intro z;cases z
   rw[z];intro z;cases z) q)) (λ_ q=>q) λ_ _ q=>q,hfl.2.2.1,F.new,?_,k1,λc v hc q=>?_,k3⟩
 ·obtain⟨sl,e1⟩:=I.base.any e n (nex b);exact F.un.free b _ e1 (I.base.free b o e n (nex b)) (by simp)
 ·by_cases hb:b∈X.fs
  ·obtain⟨sl,q⟩:=slot b o e (I.ok.frf b hb) hb;exact⟨_,q⟩
  obtain⟨o2,e2⟩:=k3 b o e hb;exact⟨o2,hfl.1 b o2 e2⟩
 ·obtain⟨m1,q1⟩:=I.base.tbls b ps q;obtain⟨m2,q2⟩:=F.un.tbls b _ q1;exact⟨m1++m2,by rw[q2,Ox]⟩
 ·cases z:X.s₀.heap.get? a with
  | none=>rfl
  | some o=>obtain⟨o',e'⟩:=I.base.there a o z (nex a);rw[F.fresh]at e';cases e'
 cases hu:H' c with
 | none=>exact absurd hu hc
 | some u=>obtain⟨v',hv'⟩:=(F.hok c u hu).there;have hB:=k2 c v' hc hv';have q':h'.get? c=some v:=q;rw[hfl.1 c v' hB]at q';cases q';exact hB
def Ry {P:Program}{w:World}{K:W.Frag}{mg:Str->Option Value}{base:Heap}{N:List Str}{qual:Str}{scope:Scope}{f:Addr}{cd:Value}{A:Around}{outer:List Env}{s0:Shared}{H0:Hp}{E:XK}{X:Cx}
  (hX:X=Cn (CXe P w) P w K mg base N qual scope f cd A outer s0 H0 E){pins:List (Addr×Obj)}{σ:St}{H:Hp}{s s':Shared}{e:Value}{D:Addr}{m:Str->Option Value}{ce ce':Env}{Z:Value->Shared->Prop}(I:Inv X pins σ H s)(hD:s.heap.Ns D m)(fD:CS X pins H D)
  (h:CXe P w X.stack H s E e s')(hc:ce.frame=X.env.frame)(hc':ce'.frame=X.env.frame) :
  wpAny (model P w) X.A (noteFrame e ce) (λ_ t=>∃m,t.heap.Ns D m/\∀h',Heap.SameBut D t.heap h'->wpAny (model P w) X.A (PySem.passOn "comprehension.variables-let-go" e ce':Sem Value) (λ_ _=>False) X.xe { t with heap:=h' }) Z s':=by
 subst hX
 obtain⟨a,C,t,H',B,rfl,F,hfl,q⟩:=h
 obtain⟨f0,f1,f2,f3,f4,f5⟩:=fD
 obtain⟨oD,es,ep,eD,rD⟩:=hD
 have nfr:D∉Bn (Cn (CXe P w) P w K mg base N qual scope f cd A outer s0 H0 E).stack:=λz=>by
  rcases AD.mp (I.stkSub D z)with q | q
  ·exact f1 q
  exact f2 q
 have hB:B.get? D=some oD:=F.k1 D oD eD f0 nfr
 have hD':H' D=none:=F.un.free D oD eD f0 (by simp)
 have hD2:s0.heap.objs.size<=D:=by
  rcases f3 with z | z
  ·cases z
  exact z
 have haD:a≠D:=λz=>by have:=F.fresh;rw[z,eD]at this;cases this
 have hn:noteFrame (.ref a) ce=noteFrame (.ref a) (envOfC qual scope s0.heap.objs.size f cd):=by
  have e1:ce.frame=some s0.heap.objs.size:=hc;have e2:PySem.frameOf ce=PySem.frameOf (envOfC qual scope s0.heap.objs.size f cd):=by unfold PySem.frameOf;rw[e1];rfl
  unfold noteFrame;rw[e1,e2];rfl
 rw[hn]
 refine wpAny_looks_onW (L:=s0.heap.objs.size) I.ok.frames rfl hfl λh1 hh u1=>?_
 refine⟨m,⟨oD,es,ep,hh.1 D oD hB,rD⟩,λh2 sb=>?_⟩
 have st:(hideAll B [D]).StaysIn B:=λb o q=>of_hideAll _ q
 have hh2:Heap.HeldW (hideAll B [D]) (envOfC qual scope s0.heap.objs.size f cd::outer) a (.ref C) (.ref t) s0.heap.objs.size h2:=by
  obtain⟨g1,g2,g3,oe,vs,T,oT,ts,a1,a2,a3,a4,a5,a6,a7,a8,a9⟩:=hh;have hT:T≠D:=λz=>by rw[z,hB]at a5;cases a5
  refine⟨λb o q=>?_,fresh_of_stays st g2,QY (λb hb=>sb.2 b λz=>nfr (z ▸ hb)) (funFrames_base st g3),oe,vs,T,oT,ts,(sb.2 a haD).trans a1,a2,a3,a4,fresh_of_stays st a5,a6,(sb.2 T hT).trans a7,a8,a9⟩;by_cases z:b=D
  ·rw[z,hideAll_none [D] AZ]at q;cases q
  exact(sb.2 b z).trans (g1 b o (st b o q))
 refine Sy (L:=s0.heap.objs.size) hc' hh2 λh3 hh3 u3=>?_
 refine Yt (L:=s0.heap.objs.size) rfl hh3 λh4 fl4 u4=>?_
 refine⟨a,C,t,H',_,rfl,Zd (s':=s') I rfl rfl rfl rfl F hD' hD2 fl4 λb o n e2 hd=>?_,fl4,q⟩
 obtain⟨x1,e3⟩:=u1 b o e2 hd
 obtain⟨x2,e4⟩:=u3 b _ ((sb.2 b n).trans e3) hd
 obtain⟨x3,e5⟩:=u4 b { o with slots:=x2 } e4 hd
 exact⟨x3,e5⟩
abbrev B9 (X:Cx)(N:List Str)(scope:Scope)(C:Addr)(s:Shared)(H:Hp)(fp:List Addr)(xe:Value->Shared->Prop):Cx:=(Cb X N scope C s H fp).at' [] xe
def Yu (Z:Value->Shared->Prop)(hZ:∀e t,Z e t->notedBy (model prog w) A env (λe s'=>R (.error e) s') e t)(J:Nat->Shared->Prop)
  (turn:∀n s,J n s->wpAny (model prog w) A (pyNext it) (λr s1=>match r with
   | none=>R (.ok .next) s1
   | some v=>wpAny (model prog w) A (letOwnedTupleGo tg it v) (λ_ s2=>wpAny (model prog w) A (assign tg env v) (λ_ s3=>
     wpAny (model prog w) A (forIn ifs true λc r=>if r=true then do let ok <- isTrue c env (eval c env);pure (ForInStep.yield ok)else pure (ForInStep.yield r)) (λok s4=>
      if ok=true then wpAny (model prog w) A (eval elt env) (λx s5=>wpAny (model prog w) A (call (.builtin "list.append") [acc,x]) (λ_ s6=>∃m,m<n/\J m s6) Z s5) Z s4
      else ∃m,m<n/\J m s4) Z s3) Z s2) Z s1) Z s)
  (n:Nat)(h:J n s):codeAny (model prog w) A (.compLoop (.ListComp elt [⟨tg,iter,ifs,0⟩] scope pos) 0 it acc env) R s:=by
 refine codeAny_loop rfl J (λn s hJ=>?_) n h
 show wpAny _ A ((compTurn (.ListComp elt [⟨tg,iter,ifs,0⟩] scope pos) 0 it acc env).onRaise (λx=>do noteFrame x env;theTreesLotGoes x)) _ _ s
 refine wpAny_noted (BL (E:=Z) ?_ (λ_ _ q=>q) hZ)
 rw[compTurn_list]
 refine Ae (JP (Ae (BL (turn n s hJ) (λr s1 h1=>?_) λ_ _ f=>f)))
 cases r with
 | none=>exact An h1
 | some v=>
  refine Ae (BL h1 (λ_ s2 h2=>Ae (BL h2 (λ_ s3 h3=>Ae (BL h3 (λok s4 h4=>?_) λ_ _ f=>f)) λ_ _ f=>f)) λ_ _ f=>f);cases ok with
  | false=>exact An ⟨rfl,h4⟩
  | true=>exact Ae (Ae (BL h4 (λx s5 h5=>Ae (BL h5 (λ_ s6 h6=>An (An ⟨rfl,h6⟩)) λ_ _ f=>f)) λ_ _ f=>f))
def QG {X:Cx}{N:List Str}{sc scope:Scope}{own fr:List Str}{js:List Nat}{pins:List (Addr×Obj)}{σ:St}{H:Hp}{s:Shared}{fp:List Addr}{tg iter elt:Expr}{ifs:List Expr}{pos:Pos}{J:It}{it:Addr}{tn:Nat->Heap->Prop}
  {g:TG}{tc:TT}{te:TE}{RR:Value->Env->Result->Shared->Prop}{E:Value->Shared->Prop}{EX:XK}{fin:Addr->Hp->Prop}
  (L:LcOk X N sc scope own fr js)(hc:X.calm=true)(I:Inv X pins σ H s)(T:Gn X.prog X.w X.K tg J fp it tn)(st:tn 0 s.heap)(hf:∀b∈fp,CS X pins H b)
  (hg:∀C s H fp xe,PG (B9 X N scope C s H fp xe) tg g)(hi:∀C s H fp xe,Fz (B9 X N scope C s H fp xe) ifs tc)(he:∀C s H fp xe,C1 (CXe X.prog X.w) (B9 X N scope C s H fp xe) EX->PE (B9 X N scope C s H fp xe) elt te)
  (h:∀D,H D=none->∃W:Nat->Nat->List V->Hp->Prop,(∃m,W 0 m [] (Ac H D (.lst [])))/\HQ J D (Dh own.length js σ) g tc te (fin D) W)
  (hRR:∀D ce s' H',(∃m,s'.heap.Ns ce.locals m)->Inv X pins σ H' s'->CS X pins H' ce.locals->fin D H'->RR (.ref D) ce (.ok .next) s')
  (hRE:∀D ce ce' e s1 s' H',(∃m,s1.heap.Ns ce.locals m)->Inv X pins σ H' s1->CS X pins H' ce.locals->CXe X.prog X.w X.stack H' s1 EX e s'->ce.frame=X.env.frame->ce'.frame=X.env.frame -> wpAny (model X.prog X.w) X.A (noteFrame e ce') (λ_ t=>RR (.ref D) ce (.error e) t) (λe t=>RR (.ref D) ce (.error e) t) s') :
  wpAny (model X.prog X.w) X.A (newList []) (λacc s3=>wpAny (model X.prog X.w) X.A (newFunctionEnv scope X.env.globals (BX X.env.cells scope.names []) [] X.env.qual none .none (some X.env)) (λcenv s4=>codeAny (model X.prog X.w) X.A (.compStart (.ListComp elt [⟨tg,iter,ifs,0⟩] scope pos) 0 (.ref it) acc { cenv with scope:=relabel scope X.env }) (RR acc cenv) s4) E s3) E s:=by
 have hlt:∀b∈fp,b<s.heap.objs.size:=λb hb=>by obtain⟨o,e,_⟩:=T.obj 0 _ st b hb;exact A3 e
 refine C5 (wpAny_newFunctionEnv L.nocell (λ_ z=>nomatch z) (λh1 n1 b1=>?_) L.kind)
 dsimp only at n1 b1 ⊢
 have hsz:(s.heap.push { cls:=.type "list",dict:=none,data:=.seq ([]:List Value).toArray }).objs.size=s.heap.objs.size+1:=JS ..
 rw[hsz]at n1 b1
 rw[hsz]
 have kept:∀b o,s.heap.get? b=some o->h1.get? b=some o:=λb o e=>b1.extBut b o (Bo (HA (A3 e))) (Bf _ (Bf _ e))
 have isl:h1.get? s.heap.objs.size=some { cls:=.type "list",data:=.seq ([]:List Value).toArray }:=b1.extBut _ _ (Bo (JM _)) (Bf _ (BI _ rfl))
 have IY:=QF (tk:=s.toks+([]:List (Str×Value)).length) L I hf hlt n1 kept isl
 have fresh:H s.heap.objs.size=none:=I.hok.fresh (AA _)
 obtain⟨W,⟨m0,w0⟩,turn⟩:=h s.heap.objs.size fresh
 obtain⟨Z,eZ⟩:∃Z:Value->Shared->Prop,Z=λe s'=>∃σ1 H1 s1,Inv (Cb X N scope (s.heap.objs.size+1) s H fp) [] σ1 H1 s1/\CXe X.prog X.w X.stack H1 s1 EX e s':=⟨_,rfl⟩
 have pZ:C1 (CXe X.prog X.w) (B9 X N scope (s.heap.objs.size+1) s H fp Z) EX:=λpins1 σ1 H1 s1 e s' I1 hx=>by show Z e s';rw[eZ];exact⟨σ1,H1,s1,Inv.unat (pins:=[]) IY.ok I1,hx⟩
 have stat:∀{H':Hp},(∀b∈fp,H' b=none)->∀b∈fp,CS (B9 X N scope (s.heap.objs.size+1) s H fp Z) [] H' b:=λhn b hb=>
  ⟨hn b hb,Bo (HA (hlt b hb)),λz=>by
   rcases AD.mp (I.stkSub b z)with q | q
   ·exact(hf b hb).2.1 q
   exact(hf b hb).2.2.1 q,.inl hb,λx c e=>(hf b hb).2.2.2.2.1 x c (L.sub I.ok e),λ_ z=>nomatch z⟩
 have st1:tn 0 h1:=T.keep 0 _ _ st λb _ o e=>kept b o e
 have loop:∀ce:Env,ce.locals=s.heap.objs.size+1->ce.frame=X.env.frame->∀s2:Shared,s2={ s with heap:=h1,toks:=s.toks+([]:List (Str×Value)).length } ->
   codeAny (model X.prog X.w) X.A (.compLoop (.ListComp elt [⟨tg,iter,ifs,0⟩] scope pos) 0 (.ref it) (.ref s.heap.objs.size) (B9 X N scope (s.heap.objs.size+1) s H fp Z).env) (RR (.ref s.heap.objs.size) ce) s2:=by
  rintro ce hl hfr s2 rfl
  refine Yu Z (λe t hz=>?_) (λn s'=>∃i ys H',Inv (B9 X N scope (s.heap.objs.size+1) s H fp Z) [] (Dh own.length js σ) H' s'/\tn i s'.heap/\(∀b∈fp,H' b=none)/\W i n ys H') ?_ m0
   ⟨0,[],_,IY.at' Z,st1,λb hb=>by rw[Aj (Bo (hlt b hb))];exact(hf b hb).1,w0⟩
  ·rw[eZ]at hz
   obtain⟨σ1,H1,s1,I1,hx⟩:=hz
   obtain⟨m,hm,_⟩:=I1.loc
   exact hRE _ ce _ e s1 t H1 ⟨m,by rw[hl];exact hm⟩ (I.call' (ch:=fp) I1.os I1.base I1.hok I1.bare λb hb=>⟨(hf b hb).2.2.2.1,(hf b hb).2.1,(hf b hb).2.2.2.2.1,(hf b hb).2.2.2.2.2⟩) (by rw[hl];exact I.fpOk (Ft _) I1.free) hx hfr rfl
  rintro n s3 ⟨i,ys,H3,I3,st3,fr3,w3⟩
  rcases turn i n ys H3 w3 with⟨stop,qn⟩ | ⟨go,Nx,hN,step⟩
  ·refine Ao (T.done (B9 X N scope (s.heap.objs.size+1) s H fp Z) rfl rfl rfl hc i [] s3 _ H3 _ I3 (stat fr3) st3 stop) λr s4 hp0=>?_
   obtain⟨hr,I4⟩:=hp0
   subst hr
   have IX:Inv X pins σ H3 s4:=I.call' (ch:=fp) I4.os I4.base I4.hok I4.bare λb hb=>⟨(hf b hb).2.2.2.1,(hf b hb).2.1,(hf b hb).2.2.2.2.1,(hf b hb).2.2.2.2.2⟩
   obtain⟨m,hm,_⟩:=I4.loc
   exact hRR _ ce s4 H3 ⟨m,by rw[hl];exact hm⟩ IX (by rw[hl];exact I.fpOk (Ft _) I4.free) qn
  refine Ao (T.item (B9 X N scope (s.heap.objs.size+1) s H fp Z) rfl rfl rfl hc i [] s3 _ H3 _ I3 (stat fr3) st3 go) λr s4 hp0=>?_
  obtain⟨u,hr,h4⟩:=hp0
  subst hr
  refine Ao h4 λ_ s5 hp0=>?_
  obtain⟨x,H5,I5,r5,y5,st5,fr5⟩:=hp0
  have I5':=I5.pinned (stat fr5) (T.obj _ _ st5)
  refine Ao (hg _ _ _ _ _ _ s5 _ H5 x u _ I5' r5 (step x H5 y5)) λ_ s6 hp0=>?_
  obtain⟨σ6,H6,I6,⟨hl6,hs6⟩,q6⟩:=hp0
  have next:∀{s7:Shared}{H7:Hp}{zs:List V},Inv (B9 X N scope (s.heap.objs.size+1) s H fp Z) ([]++GG fp s5.heap) σ6 H7 s7->Nx zs H7 ->
    ∃m,m<n/\∃i ys H',Inv (B9 X N scope (s.heap.objs.size+1) s H fp Z) [] (Dh own.length js σ) H' s7/\tn i s7.heap/\(∀b∈fp,H' b=none)/\W i m ys H':=λ{s7 H7 zs} I7 n7=>by
   obtain⟨m',hm,w7⟩:=hN zs H7 n7
   refine⟨m',hm,i+1,zs,H7,I7.unpinned.weak hl6.symm hs6,T.keep _ _ _ st5 λb hb o e=>(I7.pin (b,o) (CQ _ (CQ _ (G8 hb e)))).1,λb hb=>?_,w7⟩
   obtain⟨o,e,d⟩:=T.obj _ _ st5 b hb
   exact(I7.pin (b,o) (CQ _ (CQ _ (G8 hb e)))).2.1
  refine Ao (hi _ _ _ _ _ _ s6 σ6 H6 _ I6 q6) λok s7 hp0=>?_
  obtain⟨H7,I7,q7⟩:=hp0
  cases ok with
  | false=>
   rw[Ai Br]at q7
   exact next I7 q7
  | true=>
   rw[As rfl]at q7
   rw[As rfl]
   refine Ao (he _ _ _ _ _ pZ _ s7 σ6 H7 _ I7 q7) λy s8 hp0=>?_
   obtain⟨v8,H8,I8,r8,zs,hz,hzl,q8⟩:=hp0
   refine Ao (G4 _ s8 σ6 H8 (.ref s.heap.objs.size) [v8] _ [y] (λ_ H9=>Nx (zs++[v8]) H9) I8 rfl (.cons r8 .nil) ⟨_,zs,v8,rfl,rfl,hz,hzl,q8⟩) λ_ s9 hp0=>?_
   obtain⟨_,H9,I9,_,q9⟩:=hp0
   exact next I9 q9
 have go:=loop (newEnv scope (s.heap.objs.size+1) X.env.globals (BX X.env.cells scope.names []) X.env.qual none Value.none (some X.env) builtinsNs) rfl rfl _ rfl
 exact codeAny_compStart_list go (T.self X.A 0 _ _ _ st1 go)
def Qi {P:Program}{w:World}{K:W.Frag}{mg:Str->Option Value}{base:Heap}{N0:List Str}{qual:Str}{sc0:Scope}{f:Addr}{cd:Value}{A:Around}{outer:List Env}{s0:Shared}{H0:Hp}{EX:XK}{X:Cx}{N:List Str}{sc scope:Scope}{own fr:List Str}{js:List Nat}{tg iter elt:Expr}{ifs:List Expr}{pos:Pos}{wi:TI}{g:TG}{tc:TT}{te:TE}
  (hX:X=Cn (CXe P w) P w K mg base N0 qual sc0 f cd A outer s0 H0 EX)(L:LcOk X N sc scope own fr js)(hc:X.calm=true)(hI:PI X tg iter wi)
  (hg:∀C s H fp xe,PG (B9 X N scope C s H fp xe) tg g)(hi:∀C s H fp xe,Fz (B9 X N scope C s H fp xe) ifs tc)(he:∀C s H fp xe,C1 (CXe P w) (B9 X N scope C s H fp xe) EX->PE (B9 X N scope C s H fp xe) elt te)
  (hs:∀x,foldedSetIterable iter X.env x=pure x:=by intro _;rfl):PE X (.ListComp elt [⟨tg,iter,ifs,0⟩] scope pos) (tLc wi own.length js g tc te):=by
 intro pins s σ H Q I h
 rw[eval_ListComp]
 refine Rx (use:=none) rfl hs (Li (L.cellAt I.ok)) L.kind L.loc ?_
 refine Ao (hI pins s σ H _ I h) λv s1 h1=>Ao h1 λitv s2 h2=>?_
 obtain⟨it,fp,tn,J,H2,e,I2,T,st,f2,q⟩:=h2
 subst e
 refine QG (EX:=EX) (RR:=λacc C=>N1 (model X.prog X.w) X.A X.xe none (EP X pins σ Q) acc C) (fin:=λD H'=>Q (.ref D) H') L hc I2 T st f2 hg hi (by subst hX;exact he) q ?_ λD ce ce' e s1 s' H' hm IX fC hx h1 h2=>?_
 ·intro D C s' H' hm IX fC q';obtain⟨m,hm⟩:=hm;obtain⟨f0,f1,_,f3,f4,f5⟩:=fC;exact⟨m,hm,λh' sb=>⟨.ref D,H',IX.turned (t':=s'.toks) (λb o hb e=>(sb.2 b hb).trans e) f0 f1 f3 f4 f5,rfl,q'⟩⟩
 subst hX
 obtain⟨m,hm⟩:=hm
 exact Ry rfl IX hm fC hx h2 h1
def Vd {P:Program}{w:World}{K:W.Frag}{mg:Str->Option Value}{base:Heap}{N0:List Str}{qual:Str}{sc0:Scope}{f:Addr}{cd:Value}{A:Around}{outer:List Env}{s0:Shared}{H0:Hp}{EX:XK}{X:Cx}{N:List Str}{sc scope:Scope}{own fr:List Str}{js:List Nat}{tg iter elt:Expr}{ifs:List Expr}{pos spos py:Pos}{wi:TI}{g:TG}{tc:TT}{te:TE}{i:Nat}{y:Str}
  (hN:X.N.Nodup)(hy:X.N[i]? = some y)(hl:X.env.scope.names.lookup y=some .local)
  (hX:X=Cn (CXe P w) P w K mg base N0 qual sc0 f cd A outer s0 H0 EX)(L:LcOk X N sc scope own fr js)(hc:X.calm=true)(hI:PI X tg iter wi)
  (hg:∀C s H fp xe,PG (B9 X N scope C s H fp xe) tg g)(hi:∀C s H fp xe,Fz (B9 X N scope C s H fp xe) ifs tc)(he:∀C s H fp xe,C1 (CXe P w) (B9 X N scope C s H fp xe) EX->PE (B9 X N scope C s H fp xe) elt te)
  (hw:swapsWith (.ListComp elt [⟨tg,iter,ifs,0⟩] scope pos) (some (.Name y py)) spos.line X.env=pure true:=by rfl)
  (hs:∀x,foldedSetIterable iter X.env x=pure x:=by intro _;rfl):PS X (.Assign [.Name y py] (.ListComp elt [⟨tg,iter,ifs,0⟩] scope pos) spos) (Pf i wi own.length js g tc te):=by
 intro pins s σ H E I h
 rw[exec_Assign_Name_used _ _ _ _ hw]
 (refine Ae (JP (Ae ?_)))
 show wpAny _ X.A (do let _ <- comprehension (.ListComp elt [⟨tg,iter,ifs,0⟩] scope pos) scope X.env _ (newList []) false (eval iter X.env) (some (assign (.Name y py) X.env))) _ _ s
 refine Ae (BL (Rx (use:=some (assign (.Name y py) X.env)) (Q:=λ_ s'=>SP X pins E .next s') rfl hs (Li (L.cellAt I.ok)) L.kind L.loc ?_) (λ_ s' q=>An (An q)) λ_ _ e=>e)
 refine Ao (hI pins s σ H _ I h) λv s1 h1=>Ao h1 λitv s2 h2=>?_
 obtain⟨it,fp,tn,J,H2,e,I2,T,st,f2,q⟩:=h2
 subst e
 refine QG (EX:=EX) (RR:=λacc C=>N1 (model X.prog X.w) X.A X.xe (some (assign (.Name y py) X.env)) (λ_ s'=>SP X pins E .next s') acc C) (fin:=λD H'=>E.nx (σ.set i (some (.ref D))) H') L hc I2 T st f2 hg hi (by subst hX;exact he) q ?_ λD ce ce' e s1 s' H' hm IX fC hx h1 h2=>?_
 ·intro D C s' H' hm IX fC q';obtain⟨m,hm⟩:=hm;obtain⟨f0,f1,_,f3,f4,f5⟩:=fC;show wpAny _ X.A (assign (.Name y py) X.env (.ref D)) _ _ s';refine Oq (Mg IX hN hy (.inl hl) (v:=.ref D) rfl (λs3 I3 ha=>?_) (.inr hl));obtain⟨a,sb,ha⟩:=ha
  have hCa:C.locals≠a:=by
   rcases ha with z | z
   ·rw[z];exact f1
   exact λq=>f4 y a z q.symm
  refine⟨m,hm.sameBut sb hCa,λh' sb'=>⟨_,H',I3.turned (t':=s3.toks) (λb o hb e=>(sb'.2 b hb).trans e) f0 f1 f3 f4 f5,q'⟩⟩
 subst hX
 obtain⟨m,hm⟩:=hm
 exact Ry rfl IX hm fC hx h2 h1
section
variable {X:Cx}
abbrev TJ:=Str->St->Hp->VK->Prop
def PJ (X:Cx)(es:List Expr)(t:TJ):Prop:=∀(pins:List (Addr×Obj)) (s:Shared) (σ:St) (H:Hp) (out:Str) (Q:VK),Inv X pins σ H s->out.length<=500000->t out σ H Q ->
 wpAny (model X.prog X.w) X.A (joinParts out (evalEach es X.env)) (EP X pins σ Q) X.xe s
def TU (a b:Str):(a++b).length=a.length+b.length:=by (show(a.cps++b.cps).size=_);rw[Ol];rfl
def Qd:PJ X [] (λout _ H Q=>Q (.str out) H):=by intro pins s σ H out Q I hl h;have hs:sizeLine=16777216:=AM;exact joinParts_nil ⟨.str out,H,I.tok _,⟨_,rfl⟩,h⟩ (by lia)
def Qb {t:TJ}(hr:PJ X r t):PJ X (.Constant (.str a) j p::r) (λout σ H Q=>(out++a).length<=500000/\t (out++a) σ H Q):=by intro pins s σ H out Q I hl h;have hs:sizeLine=16777216:=AM;obtain⟨h1,h2⟩:=h;refine JQ (Ao (Av (X:=X) (x:=a) (j:=j) (pos:=p) pins s σ H (λv H1=>v=.str a/\H1=H) I ⟨rfl,rfl⟩) λu s1 hp0=>?_);obtain⟨v,H1,I1,r1,e1,e2⟩:=hp0;subst e1 e2;obtain⟨t,rfl⟩:=r1;exact⟨by lia,hr pins s1 σ H1 _ Q I1 h1 h2⟩
def Qc {t:TJ}(he:PE X e te)(hr:PJ X r t) :
  PJ X (.FormattedValue e 114 none p2::r) (λout σ H Q=>te σ H λv H1=>∃x,v=.str x/\(reprText x).length<=100000/\(out++reprText x).length<=500000/\t (out++reprText x) σ H1 Q):=by
 intro pins s σ H out Q I hl h
 have hs:sizeLine=16777216:=AM
 refine JQ (wpAny_FormattedValue_repr (Ao (he pins s σ H _ I h) λu2 s2 hp0=>?_))
 obtain⟨v2,H2,I2,r2,x,e3,lx,l2,q⟩:=hp0
 subst e3
 obtain⟨t2,rfl⟩:=r2
 refine wpAny_pyReprObj_str ?_ (by lia)
 refine formatField_str (λt' tk=>?_) (by lia)
 exact⟨by lia,hr pins _ σ H2 _ Q (I2.tok _) l2 q⟩
def Ql {t:TJ}(h:PJ X (e1::e2::r) t):PE X (.JoinedStr (e1::e2::r) pos) (λσ H Q=>t Str.empty σ H Q):=by intro pins s σ H Q I hw;exact JoinedStr_many (h pins s σ H Str.empty Q I (Be _) hw)
end
end L2
namespace L2
open PySem PyProof.Rows
end L2
namespace L2
open PySem PySem.Spec PyProof.Rows PySem.W
end L2
namespace DPT
open PySem PyProof.Rows
end DPT
namespace L2
open PySem PySem.Spec PyProof.Rows PySem.W
end L2
namespace RV
open PySem PyProof.Rows
end RV
namespace L2
open PySem PySem.Spec PyProof.Rows PySem.W
section
variable {X:Cx}{tg:Expr}
def Vi {t:TJ}(he:PE X e te)(hr:PJ X r t) :
  PJ X (.FormattedValue e (-1) none p2::r) (λout σ H Q=>te σ H λv H1=>∃i:Int,v=.int i/\i.natAbs.log2<1920/\out.length<=400000/\t (out++Str.ofString (toString i)) σ H1 Q):=by
 intro pins s σ H out Q I hl h
 have hs:sizeLine=16777216:=AM
 refine JQ (FormattedValue_plain (Ao (he pins s σ H _ I h) λu2 s2 hp0=>?_))
 obtain⟨v2,H2,I2,r2,i,e3,li,lo,q⟩:=hp0
 subst e3
 obtain⟨t2,rfl⟩:=r2
 have l1:(Str.ofString (toString i)).length<=1921:=int_text_len_1921 li
 have l2:=TU out (Str.ofString (toString i))
 refine wpAny_formatField_int li ?_
 exact⟨by show(out++Str.ofString (toString i)).length<=sizeLine;lia,hr pins _ σ H2 _ Q (I2.tok _) (by lia) q⟩
end
end L2
namespace DR
open PySem PyProof.Rows
section
variable {prog:Program}{w:World}{A:Around}{E:Value->Shared->Prop}{s:Shared}
def RawAt (h:Heap)(d:Addr)(es:Array DictEntry)(ep:Nat):Prop:=∃o,h.get? d=some o/\o.ExactDict/\o.data=.dict es ep
def RawAt.typeIs (x:RawAt s.heap d es ep):s.TypeIs (.ref d) "dict" := let ⟨o,ho,hc,_⟩:=x;⟨o,ho,hc.1⟩
def RawAt.lt (x:RawAt h d es ep):d<h.objs.size:=let ⟨_,ho,_⟩:=x;A3 ho
def RawAt.at (x:RawAt h d es ep)(k:∀o,h.get? d=some o->h'.get? d=some o):RawAt h' d es ep:=let ⟨o,ho,r⟩:=x;⟨o,k o ho,r⟩
def YK (hd:(d == sysModules)=false)(hm:RawAt s.heap d es ep)
  (hQ:Q (.ref s.heap.objs.size) { s with heap:=s.heap.push { cls:=.type "dict_keyiterator",data:=.fields #[.ref d,.int 0 0,.int es.size 0,.int ep 0] } }):wpAny (model prog w) A (pyIter (.ref d)) Q E s:=by
 obtain⟨o,ho,hc,hdat⟩:=id hm
 have hT:s.TypeIs (.ref d) "dict" := hm.typeIs
 (refine wpAny_pyIter_slot hT F.slot_dict_iter (Ey F.slot_dict_iter hT F.entry_dict_iter ?_ (F.args_dict_iter_1 _)))
 (unfold Builtin.«dict.__iter__»)
 refine Ae ?_
 (unfold Builtin.Dict.dictSlotNone)
 (refine Ae (wpAny_notOrdered_dict hT ?_))
 (show wpAny _ _ (pure (Value.ref d)) _ _ s)
 refine An ?_
 (show wpAny _ _ (Builtin.Dict.showsAll d >>= _) _ _ s)
 unfold Builtin.Dict.showsAll
 (rw[Ai (by rw[hd];exact Br)])
 refine Ae (An ?_)
 (refine Ae (LB ho hdat ?_))
 (refine Ae (wpAny_dictEpoch ho hdat ?_))
 (refine Ae (C5 (An ⟨_,rfl, "dict_keyiterator",_,⟨_,BI _ rfl,rfl⟩,JH.lookup,?_⟩)))
 simpa [rawInt] using hQ
def W4 (hit:s.heap.IsKeyIter it d i es.size ep)(hm:RawAt s.heap d es ep)(hlt':i<es.size)
  (hQ:∀h',h'.IsKeyIter it d (i+1) es.size ep->Heap.SameBut it s.heap h'->Q (some es[i].key) { s with heap:=h' }):wpAny (model prog w) A (pyNext (.ref it)) Q E s:=by
 (obtain⟨o,ho,hc,hd⟩:=id hit)
 obtain⟨od,hod,hcd,hdd⟩:=id hm
 unfold pyNext
 refine Ae (ER (Ho (name:=Str.ofString "__next__") hit.typeIs JH (Ey JH hit.typeIs F.entry_dict_keyiterator_next ?_ (F.args_dict_keyiterator_next_1 _))))
 refine Ae (An ?_)
 refine Ae ?_
 refine Ae ?_
 (first | refine Ae (Lp hit.typeIs (An ?_)) | refine Ae (LY hit.typeIs (An ?_)))
 (refine Ae (wpAny_fieldsOf ho hd ?_))
 (have hown:Builtin.Dict_items.ownsTuple "dict_keyiterator" = false:=by decide)
 (simp only[hown,Gi,DB])
 (show wpAny _ _ (if (Value.ref d == Value.none)=true then _ else _) _ _ s)
 (rw[Ai (show ¬((Value.ref d == Value.none)=true) from Br)])
 refine Ae (An ?_)
 (refine Ae (LB hod hdd ?_))
 rw[Ai (by simp)]
 refine Ae (An ?_)
 (refine Ae (wpAny_dictEpoch hod hdd ?_))
 rw[Ai (by simp)]
 refine An ?_
 (simp only[show ¬((i:Int)<0) from by lia,DB,ES,LZ hlt'])
 refine Ae ?_
 (first | refine Ae (Lp hit.typeIs (An ?_)) | refine Ae (LY hit.typeIs (An ?_)))
 (refine Ae (wpAny_isOneOf_keyiter hit.typeIs ?_))
 (show wpAny _ _ (setField (.ref it) 1 (rawInt ((i:Int)+1)) >>= _) _ _ s)
 (refine Ae (wpAny_setField ho hd (by simp) ?_))
 have hit':(s.heap.update it (Obj.mapFields (·.setIfInBounds 1 (rawInt ((i:Int)+1))))).IsKeyIter it d (i+1) es.size ep:=
  ⟨_,LS _ ho (Obj.isFreed_of_fields (LG hd _)),(Obj.cls_mapFields ..).trans hc,by rw[LG hd];simp[rawInt]⟩
 (refine Ae (CZ ?_))
 (refine Ae (wpAny_isOneOf_keyiter (s:={ s with heap:=s.heap.update it (Obj.mapFields (·.setIfInBounds 1 (rawInt ((i:Int)+1)))) }) hit'.typeIs ?_))
 (show wpAny _ _ (pure es[i].key) _ _ _)
 exact An (An ⟨_,rfl,An (hQ _ hit' (Heap.SameBut.update ..))⟩)
def Zs (hh:A.handled=none)(hit:s.heap.IsKeyIter it d i es.size ep)(hm:RawAt s.heap d es ep)(hge:es.size<=i)
  (hQ:∀h',Heap.ExtBut it s.heap h'->Q none { s with heap:=h' }):wpAny (model prog w) A (pyNext (.ref it)) Q E s:=by
 (obtain⟨o,ho,hc,hd⟩:=id hit)
 obtain⟨od,hod,hcd,hdd⟩:=id hm
 unfold pyNext
 refine Ae (ER (Ho (name:=Str.ofString "__next__") hit.typeIs JH (Ey JH hit.typeIs F.entry_dict_keyiterator_next ?_ (F.args_dict_keyiterator_next_1 _))))
 refine Ae (An ?_)
 refine Ae ?_
 refine Ae ?_
 (first | refine Ae (Lp hit.typeIs (An ?_)) | refine Ae (LY hit.typeIs (An ?_)))
 (refine Ae (wpAny_fieldsOf ho hd ?_))
 (have hown:Builtin.Dict_items.ownsTuple "dict_keyiterator" = false:=by decide)
 (simp only[hown,Gi,DB])
 (show wpAny _ _ (if (Value.ref d == Value.none)=true then _ else _) _ _ s)
 (rw[Ai (show ¬((Value.ref d == Value.none)=true) from Br)])
 refine Ae (An ?_)
 (refine Ae (LB hod hdd ?_))
 rw[Ai (by simp)]
 refine Ae (An ?_)
 (refine Ae (wpAny_dictEpoch hod hdd ?_))
 rw[Ai (by simp)]
 refine An ?_
 (simp only[show ¬((i:Int)<0) from by lia,DB,ES,OE hge])
 refine Ae ?_
 (first | refine Ae (Lp hit.typeIs (An ?_)) | refine Ae (LY hit.typeIs (An ?_)))
 (show wpAny _ _ (setField (.ref it) 0 .none >>= _) _ _ s)
 (refine Ae (wpAny_setField ho hd (by simp) ?_))
 (show wpAny _ _ (newExc (.type "StopIteration") [] >>= _) _ _ _)
 refine Ae ?_
 simp only[newExc,newTuple]
 (refine Ae (C5 ?_ (by size_fits)))
 (refine Ae (m:=firstArgMember _ _) (CC (a:=Value.none) (by first | rfl | (simp only[firstArgMember];rfl)) ?_))
 (refine C5 ?_ (by size_fits))
 simp only[raiseNew]
 (refine Ae (wpAny_handled ?_))
 (rw[show A.in1.handled=none from hh])
 (refine Ae (An (wpAny_throw ?_)))
 (refine Ae (JW (T := "StopIteration") (b:=true) ⟨_,BI _ rfl,rfl⟩ isSubtype_stop ?_))
 (exact An (hQ _ (((Heap.SameBut.update ..).extBut.push _).push _)))
theorem SD (hh:A.handled=none)(I d:Addr)(hne:d≠I)(es:Array DictEntry)(ep:Nat) :
  Walks prog w A I [I,d] [I] es.size (λi v=>∃e,es[i]? = some e/\v=e.key) (λi h=>h.IsKeyIter I d i es.size ep/\RawAt h d es ep) where
 sub:=λb hb=>by simp at hb;simp[hb]
 frame:=λ_ _ _ st hk=>⟨st.1.at λo e=>hk I (by simp) o e,st.2.at λo e=>hk d (by simp) o e⟩
 item:=λi s Q E hi st hQ=>by refine W4 st.1 st.2 hi λh' hit' hs'=>?_;exact hQ _ h' s.toks ⟨es[i],LZ hi,rfl⟩ ⟨hit',st.2.at λo e=>hs'.extBut d o hne e⟩ λb o hb e=>hs'.extBut b o (λh=>hb (by simp[h])) e
 done:=λs Q E st hQ=>Zs hh st.1 st.2 (AA _) λh' he'=>hQ h' s.toks λb o hb e=>he' b o (λh=>hb (by simp[h])) e
 self:=λ_ _ _ _ st hQ=>wpAny_pyIter_keyiter st.1 hQ
theorem src_raw (lo:(d == sysModules)=false):PySem.W.KdlSrc prog w "dict" d d es.size (λi v=>∃e,es[i]? = some e/\v=e.key) (λh=>RawAt h d es ep) where
 type:=λ_ hm=>hm.typeIs
 there:=λ_ hm=>⟨hm.lt,hm.lt⟩
 keep:=λ_ _ hm hk=>hm.at λo e=>hk d (.inl rfl) o e
 notList:=by decide
 notTuple:=by decide
 hint:=λ_ _ _ _ hm hq=>PySem.W.kdl_hint_dict hm.typeIs hq
 iter:=λ_ _ hh hm=>⟨_,_,(λ_ _ hq=>YK lo hm hq),SD hh _ d (Bo hm.lt) es ep,⟨⟨_,BI _ rfl,rfl,rfl⟩,hm.at λo e=>Bf _ e⟩⟩
def Yf (hd:(d == sysModules)=false):MeetsIn prog w (Builtin.«dict.__len__» ⟨[.ref d],[]⟩) (λ_ R s=>∃es ep,RawAt s.heap d es ep/\R (.ok (.ret (.int es.size s.toks))) { s with toks:=s.toks+1 }):=
 .of_wp λA R s ⟨es,ep,hm,h⟩=>by obtain⟨o,ho,hc,hdat⟩:=hm;(show wpAny _ _ (dictSize d >>= _) _ _ s);unfold dictSize;(refine Ae (Ae (LB ho hdat (An ?_))));(show wpAny _ _ (Builtin.Dict.pendingCount d >>= _) _ _ s);(refine Ae (wpAny_pendingCount_other hd ?_));refine wpAny_ret_mkInt ?_;rw[Nat.add_zero];exact h
def len_raw (hd:(d == sysModules)=false)(hm:RawAt s.heap d es ep)(hfit:(es.size:Int)<2^63)
  (h:Q (.int es.size (s.toks+1)) { s with toks:=s.toks+1+1 }):wpAny (model prog w) A (call (.builtin "len") [.ref d]) Q E s:=by
 (refine Calls.call_function_entry kind_len plain_len entry_len (args_len1 _) ?_)
 unfold Builtin.«len»
 (refine Ae (m:=oneArg "len" _) (An ?_))
 refine Ae (m:=callSpecial? (.ref d) (Str.ofString "__len__")) (Ho (name:=Str.ofString "__len__") hm.typeIs F.slot_dict_len (call_meetsIn F.slot_dict_len hm.typeIs F.entry_dict_len (F.args_dict_len_1 _) (Yf hd) ⟨es,ep,hm,?_⟩))
 (show wpAny _ _ _ _ _ { s with toks:=s.toks+1 })
 (refine Ae (CZ (An ?_)))
 refine Ae (wpAny_letGo ?_)
 (show wpAny _ _ (if ((es.size:Nat):Int)<0 then _ else _) _ _ _)
 rw[Ai (by lia)]
 (show wpAny _ _ (if ((es.size:Nat):Int)≥2^63 then _ else _) _ _ _)
 rw[Ai (by lia)]
 (exact Ae (wpAny_mkInt (An ⟨_,rfl,h⟩)))
end
end DR
namespace L2
open PySem PySem.Spec PyProof.Rows
section
variable {X:Cx}
theorem KT.getT :∀{kvs:List (PyData×V)}{xs:List (PyData×Addr×Value)}{i:Nat}{k:PyData}{v:V},KT H kvs xs->kvs[i]? = some (k,v)->∃b u,xs[i]? = some (k,b,u)/\RdT H b k/\RelV v u
 | _,_,_,_,_,.nil,e=>by simp at e
 | _,_,0,k,v,.cons (a:=p) (b:=q) r _,e=>by obtain⟨r1,r2,r3⟩:=r;obtain⟨q1,q2,q3⟩:=q;simp at e;subst e;simp only at r1;subst r1;exact⟨q2,q3,rfl,r2,r3⟩
 | _,_,i+1,_,_,.cons _ t,e=>by obtain⟨b,u,h1,h2⟩:=KT.getT (i:=i) t (by simpa using e);exact⟨b,u,by simpa using h1,h2⟩
def P5 (x:ObjOk P w H h a (.dT kvs)):kvs.length<=sizeLine/\(a == sysModules)=false/\∃xs o es ep,KT H kvs xs/\h.get? a=some o/\o.ExactDict/\o.data=.dict es ep/\es.toList=xs.map (entryOfKey (WK.dataKind P w))/\es.size=kvs.length:=by obtain⟨z,y,xs,r,o,es,ep,h1,h2,h3,h4,h5⟩:=x;refine⟨z,y,xs,o,es,ep,r,h1,h2,h3,h4,?_⟩;rw[size_of_entries h4,<- Fy r]
def YD {P:Program}{w:World}{es:Array DictEntry}{xs:List (PyData×Addr×Value)}{i:Nat}{k:PyData}{b:Addr}{u:Value}(h:es.toList=xs.map (entryOfKey (WK.dataKind P w)))(hx:xs[i]? = some (k,b,u)):∃e,es[i]? = some e/\e.key=.ref b/\e.val=u:=by refine⟨_,by rw[entry_at h,hx];rfl,rfl,rfl⟩
structure Sj (H:Hp)(as:List Addr)(kvs:List (PyData×V)):Prop where
 len:as.length=kvs.length
 at':∀(i:Nat) a k v,as[i]? = some a->kvs[i]? = some (k,v)->RdT H a k
def KT.ky (r:KT H kvs xs):Sj H (xs.map λx=>x.2.1) kvs:=by refine⟨by rw[Ar];exact(Fy r).symm,λi a k v h1 h2=>?_⟩;obtain⟨b,u,e,t,_⟩:=KT.getT r h2;rw[A6,e]at h1;cases h1;exact t
def ZU (hc:X.calm=true):Cw X (.type "list") (λxs H Q=>∃p kvs,xs=[.ref p]/\Rd H p (.dT kvs)/\∀l as,H l=none->Sj H as kvs->Q (.ref l) (Ac H l (.lst (as.map V.ref)))):=by
 intro pins s σ H xs us Q I r h;obtain⟨p,kvs,rfl,hp,q⟩:=h;obtain⟨u,rfl,ru⟩:=Da r;cases ru;obtain⟨hz,hm,ys,o,es,ep,rk,ho,ex,hd,he,hs⟩:=P5 (hp.ok I.hok);refine PySem.W.kdl_call (DR.src_raw (es:=es) (ep:=ep) hm) (I.ok.hd hc) ⟨o,ho,ex,hd⟩ (by lia) λh' tk acc c hk hS hacc=>?_;have hl:=Fy rk;have ky:=rk.ky;refine⟨.ref _,_,I.laid (a:=s.heap.objs.size) (o:=.lst ((ys.map λx=>x.2.1).map V.ref)) hk (AA _) ⟨by rw[Ar,Ar];lia,acc.toList,c,L7 ?_ λi x u hx hu=>?_,hS⟩,rfl,q _ _ (I.hok.fresh (AA _)) ky⟩
 ·have el:acc.toList.length=acc.size:=by simp
  rw[Ar,Ar,el,hacc.1,hs,hl]
 obtain⟨e,e1,e2⟩:=hacc.2 i u (by simpa using hu);rw[A6,A6]at hx;cases hy:ys[i]? with
 | none=>rw[hy]at hx;cases hx
 | some y=>obtain⟨k,b,v⟩:=y;rw[hy]at hx;cases hx;obtain⟨e',f1,f2,_⟩:=YD he hy;rw[e1]at f1;cases f1;rw[e2,f2];rfl
def N7:Cw X (.builtin "len") (λxs H Q=>∃a kvs,xs=[V.ref a]/\Rd H a (.dT kvs)/\Q (.int kvs.length) H):=by intro pins s σ H xs us Q I r h;obtain⟨a,kvs,rfl,ha,q⟩:=h;obtain⟨u,rfl,ru⟩:=Da r;cases ru;obtain⟨hz,hm,ys,o,es,ep,rk,ho,ex,hd,he,hs⟩:=P5 (ha.ok I.hok);refine DR.len_raw (es:=es) (ep:=ep) hm ⟨o,ho,ex,hd⟩ (by rw[AM]at hz;lia) ?_;rw[hs];exact⟨.int kvs.length,H,I.tok _,⟨_,rfl⟩,q⟩
end
end L2
namespace L2
open PySem PySem.Spec PyProof.Rows PySem.W Builtin Builtin.ObjectAttr
section
variable {prog:Program}{w:World}{A:Around}{E:Value->Shared->Prop}{s:Shared}{K:Frag}{x C:Addr}
def ZQ (X:K.In s.heap)(L0:Looks (model prog w) s.heap (typeOf (.ref x)) (.ref C))(hm:PySem.W.mroIn K C (.type "object")=some true)(h:R (.ok (.ret (.ref C))) s) :
  codeAny (model prog w) A (.call (.builtin "getset_descriptor.__get__") { pos:=[.builtin "object.__class__",.ref x,tp] }) R s:=by
 (obtain⟨hh,g,dr,t,os⟩:=s)
 (have L1:=looks_mroIn (M:=model prog w) X hm)
 refine OB KF.slot_gs.plain KF.entry_gs (KF.slot_gs.check (model prog w) A.in1 _ _ (.builtin "object.__class__") [.ref x,tp] [] _ KF.type_class (KF.args_gs (.builtin "object.__class__") (.ref x) tp) ?_)
 unfold Builtin.«getset_descriptor.__get__»
 unfold Getset_descriptor.descrGet
 rw[dga_obj (.builtin "object.__class__") tp x]
 refine Ae (An ?_)
 show wpAny _ _ (Getset_descriptor.descrGetter (.builtin "object.__class__") (some (.ref x))) _ _ _
 unfold Getset_descriptor.descrGetter
 dsimp only
 refine Ae ?_
 unfold Getset_descriptor.descrCheckInstance
 unfold Getset_descriptor.descrNameAndClass
 dsimp only
 rw[KF.owner_class]
 refine Ae (An ?_)
 dsimp only
 unfold PySem.isInstance
 refine Ae (Ae (L0.at (L1.at ?_)))
 refine An ?_
 refine An ⟨Code.quiet_builtin { pos:=[Value.ref x] } (by decide +kernel),Fo KF.entry_class ?_⟩
 unfold Builtin.«object.__class__»
 dsimp only
 unfold shownTypeOf
 refine Ae (Ae (L0.at ?_))
 dsimp only
 (exact An (An h))
structure Gp (K:W.Frag)(D:Addr):Prop where
 ga:findIn K (.ref D) "__getattribute__" = some (some (.builtin "BaseException.__getattribute__"))
 gh:findIn K (.ref D) "__getattr__" = some none
 hi:subIn K (.ref D) (.type "BaseException")=some true
 ha:findIn K (.ref D) "__class__" = some (some (.builtin "object.__class__"))
 hn:specialIn K (.builtin "object.__class__") "__get__" = some (some (.builtin "getset_descriptor.__get__"))
 ht:takesIn K (.builtin "object.__class__")=some true
 hm:PySem.W.mroIn K D (.type "object")=some true
 hc:(clsIn K D).isSome=true
def Zk (X:K.In s.heap)(n:Gp K C):Looks (model prog w) s.heap (Builtin.ObjectAttr.find (.ref x) (.ref C) "__class__") (.bind (.builtin "getset_descriptor.__get__") (.builtin "object.__class__")):=by unfold Builtin.ObjectAttr.find;refine(looks_findIn X n.ha).andThen ((looks_specialIn X n.hn).andThen ?_);refine Looks.andThen (a:=some (.builtin "getset_descriptor.__get__",.builtin "object.__class__")) ?_ (.tag .now);unfold Builtin.ObjectAttr.dataDescriptor?;exact(looks_takesIn X n.ht).andThen .now
def Y7 (X:K.In s.heap)(L0:∀M,Looks M s.heap (typeOf (.ref x)) (.ref C))(n:Gp K C)(h:Q (some (.ref C)) { s with toks:=s.toks+1 }):wpAny (model prog w) A (getAttr? (.ref x) "__class__") Q E s:=by
 have ne:(Value.builtin "BaseException.__getattribute__" == Value.builtin "object.__getattribute__")=false:=by decide +kernel
 unfold getAttr?;(refine Ae (wpAny_mkText ?_));unfold getAttrBy?;(refine Ae (ER ?_));unfold getAttrBy;refine CZ (Ae (L0 _ _ _ _ _ (λ_ _ e=>e) (Ae (looks_findIn X n.ga _ _ _ _ (λ_ _ e=>e) ?_))));dsimp only;rw[ne,Bool.and_false,Ai (by decide)];refine Ae (looks_hook (mc:=.ref C) X (r:=none) (by rw[As (by rfl)];exact n.gh) _ _ _ _ (λ_ _ e=>e) (Ae (ER (CZ ?_))));unfold callGetattribute;rw[show(false && onTheHeap (Value.builtin "BaseException.__getattribute__"))=false from rfl,Ai (by decide)];unfold boundAndCalled;rw[Sa.ga.bind];refine Ae (An ?_);show wpAny _ _ (call (.builtin "BaseException.__getattribute__") [.ref x,.str "__class__" s.toks]) _ _ _;refine JJ (OB Sa.ga.plain PySem.F.entry_bexc_ga ?_);refine @check_slot (model prog w) _ _ { s with toks:=s.toks+1 } "BaseException.__getattribute__" "BaseException" "__getattribute__" (.ref x) [.str "__class__" s.toks] [] _ (by decide +kernel) (by decide +kernel) ((L0 _).andThen (looks_subIn X n.hi)) (PySem.F.args_bexc_ga _ _) ?_;have L1:=Zk (prog:=prog) (w:=w) (x:=x) X n;have L0':=L0 (model prog w);obtain⟨hp,g,d,t,os⟩:=s;refine Ae (An (Ae (An (Ae (L0'.at (Ae (L1.at ?_)))))));dsimp only;unfold bindTo;dsimp only;refine Ae (CZ (JJ (ZQ (s:={ heap:=hp,gens:=g,drawn:=d,toks:=t+1,os:=os }) X L0' n.hm ?_)));refine An ?_;show wpAny _ _ (handedOut (.ref C)) _ _ _;exact handed_on rfl (An h)
end
section
variable {X:Cx}
def ZW:Cw X (.builtin "isinstance") (λxs H Q=>∃(a D C':Addr),xs=[.ref a,.ref C']/\H a=some (Fl a D)/\Gp X.K D/\kin_not X.K D C'=true/\Q (.bl false) H):=by
 intro pins s σ H xs us Q I r h;obtain⟨a,D,C',rfl,ha,n,kn,q⟩:=h;obtain⟨u1,u2,rfl,r1,r2⟩:=J3 r;cases r1;cases r2;obtain⟨⟨o,ho,hc⟩,_⟩:=I.hok a _ ha;unfold kin_not at kn;simp only[Ce,Fq,Fv]at kn;obtain⟨⟨⟨k1,k2⟩,k3⟩,k4⟩:=kn;have L0:∀M,Looks M s.heap (typeOf (.ref a)) (.ref D):=λM A Q E s' hk q=>Ly (hk _ _ ho) (by rw[hc];exact q)
 have LT:∀(B:Addr),(clsIn X.K B).isSome=true->∀M,Looks M s.heap (isType (.ref B)) true:=λB hB M A Q E s' hk q=>by
  unfold clsIn at hB;split at hB
  ·rename_i BN;exact Ae (wpAny_loadPart (hk _ _ (I.kIn _ _ BN)) (An q))
  cases hB
 refine call_isinstance_of ?_ (by intro e;cases e);(unfold Builtin.«isinstance.nested»);dsimp only;refine Ae ((L0 _).at ?_);rw[Ai (by intro z;exact k1 (Value.ref.inj (Ht z)))];refine Ae ((looks_typeIn I.kIn k3).at ?_);rw[As (by rfl)];refine Ae (Ae ((LT C' k2 _).at ?_));dsimp only;have LI:Looks (model X.prog X.w) s.heap (PySem.isInstance (.ref a) (.ref C')) false:=(L0 _).andThen (looks_subIn I.kIn k4);refine Ae (LI.at ?_);rw[Ai (by decide)];refine Ae (Y7 (s:={ s with }) I.kIn L0 n ?_);dsimp only;refine Ae ((LT D n.hc _).at ?_);rw[Ai (by decide)];refine Ae (Gg ?_);refine(looks_subIn I.kIn k4).at ?_;refine An ?_;exact⟨.bl false,H,I.tok _,rfl,q⟩
def ZY:Cw X (.builtin "isinstance") (λxs H Q=>∃(a D C':Addr),xs=[.ref a,.ref C']/\H a=some (Fl a D)/\((D=C'/\Q (.bl true) H)\/(Gp X.K D/\kin_not X.K D C'=true/\Q (.bl false) H))):=by
 intro pins s σ H xs us Q I r h;obtain⟨a,D,C',rfl,ha,h⟩:=h;rcases h with⟨rfl,q⟩ | ⟨n,kn,q⟩
 ·exact ZX pins s σ H _ us Q I r ⟨a,D,rfl,ha,q⟩
 exact ZW pins s σ H _ us Q I r ⟨a,D,C',rfl,ha,n,kn,q⟩
def Vq :PE X e (λ_ _ _=>False):=λ_ _ _ _ _ _ h=>h.elim
end
end L2
namespace L2
open PySem PySem.Spec PyProof.Rows
def Ba (h:Nat.ble n 16777216=true:=by rfl):n<=sizeLine:=by rw[AM];exact Nat.le_of_ble_eq_true h
abbrev BZ (a b:List Str):List Str:=a++b
def AN (h1:sc.kind=.function:=by rfl)(h2:sc.isCoroutine=false:=by rfl)(h3:sc.isGenerator=false:=by rfl)(h4:N.Nodup:=by decide +kernel)(h5:N.take ps.length=ps:=by rfl)
  (h6:∀x∈ps,sc.names.lookup x=some .local\/sc.names.lookup x=some .cell:=by decide +kernel)(h7:∀y∈sc.names,y.2≠.free:=by decide +kernel):AF N ps sc:=⟨h1,h2,h3,h4,h5,h6,h7⟩
def Ci (h1:X.env.scope=sc:=by rfl)(h2:N=own++fr:=by rfl)(h3:scope.kind=.function:=by rfl)(h4:sc.kind=.function:=by rfl)(h5:∀y∈scope.names,y.2≠NameKind.cell:=by decide +kernel)
  (h6:∀y∈scope.names,y.2=NameKind.free->sc.names.lookup y.1=some NameKind.cell:=by decide +kernel)(h7:∀y∈scope.names,y.2=NameKind.local->scope.names.lookup y.1=some NameKind.local:=by decide +kernel)(h8:js.map (λj=>X.N[j]?)=fr.map some:=by rfl)
  (h9:∀x∈fr,sc.names.lookup x=some NameKind.cell/\scope.names.lookup x=some NameKind.free:=by decide +kernel):LcOk X N sc scope own fr js:=⟨h1,h2,h3,h4,h5,h6,h7,h8,h9⟩
section
variable {X:Cx}{i:Nat}{x:Str}{pos pos':Pos}
def Ay (hN:X.N.Nodup)(he:PE X e te)(hi:X.N[i]? = some x:=by rfl)(hx:HJ X.env.scope x:=by exact .inl rfl)(hs:swapsWith e (some (.Name x pos')) pos.line X.env=pure false:=by rfl)(hf:X.fn x=true\/X.env.scope.names.lookup x=some .local:=by first | exact .inl rfl | exact .inr rfl | assumption) :
  PS X (.Assign [.Name x pos'] e pos) (Ph te (Ju i)):=GC hN hi hx he hs hf
def Bm (hN:X.N.Nodup)(hi:X.N[i]? = some x:=by rfl)(hx:HJ X.env.scope x:=by exact .inl rfl)(hf:X.fn x=true\/X.env.scope.names.lookup x=some .local:=by first | exact .inl rfl | exact .inr rfl | assumption):PG X (.Name x pos) (Ju i):=Qh hN hi hx hf
end
section
variable {P:Program}{w:World}{K:W.Frag}{mg:Str->Option Value}{base:Heap}{x qual:Str}{st:Stmt}{f:Addr}{fd:FuncData}{N ps:List Str}{k:Nat}{sp:Sp}
def Fun.oq (F:Fun K x qual st f fd)(S:AF N ps (Aq st))
  (hbody:∀(cdv:Value) (A:Around) (outer:List Env) (s:Shared) (H:Hp) (vs:List V) (Q:VK) (E:XK),Room k (A.deeper (envOfC qual (Aq st) s.heap.objs.size f cdv))->sp vs H Q E->∃t,PSs (Cn CX0 P w K mg base N qual (Aq st) f cdv A outer s H E).nox (Cm st) t/\t { nx:=λ_ H'=>Q .non H',rt:=Q } (start N vs) H)
  (len:∀vs H Q E,sp vs H Q E->vs.length=ps.length:=by intro _ _ _ _ h;cases h;subst_vars;rfl):FnOk P w K mg base CX0 (k+1) f fd ps sp:=F.ok S len hbody
def Fun.oqE (F:Fun K x qual st f fd)(S:AF N ps (Aq st))
  (hbody:∀(cdv:Value) (A:Around) (outer:List Env) (s:Shared) (H:Hp) (vs:List V) (Q:VK) (E:XK),Room k (A.deeper (envOfC qual (Aq st) s.heap.objs.size f cdv))->sp vs H Q E->∃t,PSs (Cn (CXe P w) P w K mg base N qual (Aq st) f cdv A outer s H E) (Cm st) t/\t { nx:=λ_ H'=>Q .non H',rt:=Q } (start N vs) H)
  (len:∀vs H Q E,sp vs H Q E->vs.length=ps.length:=by intro _ _ _ _ h;cases h;subst_vars;rfl):FnOk P w K mg base (CXe P w) (k+1) f fd ps sp:=F.okE S len hbody
end
def Bd (h:H p=none):∃H',Ac H p o=H'/\Same H H'/\H' p=some o:=⟨_,rfl,Same.new h,Ak⟩
inductive Qf (K:W.Frag)(x:Str)(s:Stmt)(f:Addr):Prop
 | mk {od an:Option Addr}{sl:Array (Option Value)}{oc kV dc pm cd ct:Value}(a:PySem.W.nsIn K mainGlobals x=some (some (.ref f))) (l:K.lookup f=some ⟨oc,od,.func (PySem.W.fnOf x x (Es s) (Cm s) (Aq s) .none kV dc pm an cd ct),sl⟩)
   (c:PySem.W.codeIn K cd x=true) (k:PySem.W.keepIn K (.ref f)=true):Qf K x s f
def Qf.df {K:W.Frag}{h:Heap}{mg:Str->Option Value}{x:Str}{s:Stmt}{f:Addr}(q:Qf K x s f)(X:K.In h)(G:h.Ns mainGlobals mg)(ps:List Str)
  (hb:∀(kV doc pm:Value) (an:Option Addr) (cdv ct:Value) (us:List Value),us.length=ps.length->bindArgs (PySem.W.fnOf x x (Es s) (Cm s) (Aq s) .none kV doc pm an cdv ct) ⟨us,[]⟩=pure (ps.zip us)):∃fd,Df K mg x s ps f fd:=by
 obtain⟨a,l,c,k⟩:=q
 exact⟨_,DS l c k,AV X G a,(DS l c k).binds hb⟩
inductive Qm (K:W.Frag)(C:Addr)(x q:Str)(s:Stmt)(f:Addr):Prop
 | mk {od an:Option Addr}{sl:Array (Option Value)}{oc kV dc pm cd ct:Value}(a:PySem.W.findIn K (.ref C) x=some (some (.ref f))) (i:PySem.W.isFn K (.ref f)=true) (l:K.lookup f=some ⟨oc,od,.func (PySem.W.fnOf x q (Es s) (Cm s) (Aq s) .none kV dc pm an cd ct),sl⟩)
   (c:PySem.W.codeIn K cd q=true) (k:PySem.W.keepIn K (.ref f)=true):Qm K C x q s f
def Qm.df {K:W.Frag}{C:Addr}{x qu:Str}{s:Stmt}{f:Addr}(q:Qm K C x qu s f)(ps:List Str)
  (hb:∀(kV doc pm:Value) (an:Option Addr) (cdv ct:Value) (us:List Value),us.length=ps.length->bindArgs (PySem.W.fnOf x qu (Es s) (Cm s) (Aq s) .none kV doc pm an cdv ct) ⟨us,[]⟩=pure (ps.zip us)):∃fd,Fun K x qu s f fd/\Binds K fd ps []/\B7 K C x f:=by
 obtain⟨a,i,l,c,k⟩:=q
 exact⟨_,DS l c k,(DS l c k).binds hb,a,i,k⟩
inductive Ca (P:Program)(w:World)(K:W.Frag)(mg:Str->Option Value)(base:Heap)(CX:C9)(k:Nat)(x:Str)(st:Stmt)(ps:List Str)(sp:Sp):Prop
 | mk {f:Addr}{fd:FuncData}(D:Df K mg x st ps f fd) (G:FnOk P w K mg base CX k f fd ps sp):Ca P w K mg base CX k x st ps sp
section
variable {X:Cx}{CX:C9}{k:Nat}{ps:List Str}{sp:Sp}{E:XK}{x:Str}{st:Stmt}{p pos:Pos}{e:Expr}{es:List Expr}{t:TA}
def AY (c:Ca X.prog X.w X.K X.mg X.base CX k x st ps sp)(hr:Room k X.A)(hx:C1 CX X E)(ha:PA X (e::es) t)(hg:Gl X x:=by rfl)(hdb:(x == ("__debug__" : Str))=false:=by decide)(he:starEach (e::es) X.env=(false,eval e X.env)::starEach es X.env:=by rfl)
  (hpl:(backTo pos (starEach es X.env)).any (·.1)=false:=by rfl):PE X (.Call (.Name x p) (e::es) [] pos) (Me sp [] E t):=by
 obtain⟨D,G⟩:=c
 exact AU G hr hg D.m D.F.kp D.b .nil hx ha hdb he hpl
end
end L2
namespace K22
open PySem L2 Tx Rk PyProof.Rows PySem.SeqAt
open PySem.PyData (strOk)
section
variable {P:Program}{w:World}{K:W.Frag}{mg:Str->Option Value}{base:Heap}
def top (i:Nat):Stmt:=PySem.Challenge.pw_grope_k22_refusals_apart.main.body.getD i (.Pass ⟨0,0,0,0⟩)
abbrev Kq:Stmt:=top 26
abbrev Ij:Stmt:=top 27
abbrev FJ:Stmt:=top 30
abbrev Ig:Stmt:=top 31
abbrev KP:Stmt:=top 40
abbrev Ik:Stmt:=top 41
abbrev KO:Stmt:=top 42
abbrev KM:Stmt:=top 43
abbrev M8:Stmt:=Fj (top 50) 0
abbrev GA:Stmt:=top 54
abbrev E6:Stmt:=top 55
abbrev Kt:Stmt:=top 56
abbrev Kk:Stmt:=top 57
abbrev Kr:Stmt:=top 58
abbrev Ia:Stmt:=top 59
abbrev Kl:Stmt:=top 60
abbrev Kj:Stmt:=top 61
abbrev Ku:Stmt:=top 62
abbrev KJ:Stmt:=top 63
abbrev E8:Stmt:=top 64
abbrev FH:Stmt:=top 65
abbrev Il:Stmt:=top 66
abbrev Ii:Stmt:=top 67
abbrev Fb:Stmt:=top 68
abbrev KI:Stmt:=top 71
abbrev Ic:Stmt:=top 72
abbrev Ib:Stmt:=top 73
abbrev Ko:Stmt:=top 74
abbrev KG:Stmt:=top 75
abbrev KE:Stmt:=top 76
abbrev KC:Stmt:=top 77
abbrev Kv:Stmt:=top 84
abbrev GB:Stmt:=top 85
abbrev KL:Stmt:=top 92
abbrev Ks:Stmt:=top 93
abbrev KS:Stmt:=top 94
abbrev KR:Stmt:=Fj (top 99) 0
abbrev FI:Stmt:=top 107
abbrev E5:Stmt:=top 108
abbrev EG:Stmt:=top 109
abbrev Km:Stmt:=top 110
abbrev Kp:Stmt:=top 111
abbrev KQ:Stmt:=top 112
abbrev KH:Stmt:=Fj (top 113) 0
abbrev M5:Stmt:=Fj (top 113) 1
abbrev M4:Stmt:=Fj (top 113) 2
abbrev Ky:Stmt:=Fj (top 113) 3
abbrev M7:Stmt:=Fj (top 113) 4
abbrev KB:Stmt:=Fj (top 113) 5
abbrev E7:Stmt:=top 115
abbrev E9:Stmt:=top 116
abbrev Ie:Stmt:=top 117
abbrev Kw:Stmt:=top 118
abbrev E4:Stmt:=top 119
abbrev Kx:Stmt:=top 120
abbrev Gz:Stmt:=top 121
abbrev FG:Stmt:=top 122
abbrev KA:Stmt:=top 123
abbrev Kz:Stmt:=top 124
abbrev FF:Stmt:=top 125
structure Bl (mg:Str->Option Value):Prop where
 len:mg "len" = none
 range:mg "range" = none
 tuple:mg "tuple" = none
 zip:mg "zip" = none
 isi:mg "isinstance" = none
 str:mg "str" = none
 list:mg "list" = none
 set:mg "set" = none
 all:mg "all" = none
 sorted:mg "sorted" = none
 int:mg "int" = none
 bool:mg "bool" = none
 reversed:mg "reversed" = none
 max:mg "max" = none
 sum:mg "sum" = none
 enumerate:mg "enumerate" = none
 dict:mg "dict" = none
 any:mg "any" = none
 ve:mg "ValueError" = none
abbrev Cz:List Str:=["_law_script", "_law_k", "_law_many"]
def Jz (ns:List Int)(k:Int):Int:=if 0<ns.length then ns.getD (k % (ns.length:Int)).toNat 0 else 0
def pk (ns:List Int)(k m:Int):Int:=(Jz ns k % 10^(12:Int).toNat+104729)*(k*k+48271*k+11) % 2147483647*742938285 % 2147483629 % m
def GD (ns:List Int)(k:Int) (h:0<m):0<=pk ns k m:=Hu _ (by lia)
def GF (ns:List Int)(k:Int) (h:0<m):pk ns k m<m:=HB _ h
inductive Kb (K:W.Frag)(vs:List V)(H:Hp)(Q:VK)(E0_:XK):Prop
 | mk (a:Addr) (ns:List Int) (k m:Int) (c0:vs=[.ref a,.int k,.int m]) (c1:SqL K H a (ns.map V.int)) (c2:ns.length<=63) (c3:0<=k) (c4:k<1000000) (c5:0<m) (c6:Q (.int (pk ns k m)) H):Kb K vs H Q E0_
inductive Gu (K:W.Frag)(vs:List V)(H:Hp)(Q:VK)(E0_:XK):Prop
 | mk (a:Addr) (ns:List Int) (k m:Int) (c0:vs=[.ref a,.int k,.int m]) (c1:SqL K H a (ns.map V.int)) (c2:ns.length<=63) (c3:0<=k) (c4:k<1000000) (c5:0<m) (c6:∀r:Int,0<=r->r<m->Q (.int r) H):Gu K vs H Q E0_
inductive MP (vs:List V)(H:Hp)(Q:VK)(E0_:XK):Prop
 | mk (x:Str) (c0:vs=[.str x]) (c1:∀(H':Hp),Same H H'->Q (.bl (decide (x∈fixedS))) H'):MP  vs H Q E0_
inductive My (K:W.Frag)(vs:List V)(H:Hp)(Q:VK)(E0_:XK):Prop
 | mk (a:Addr) (ns:List Int) (k m:Int) (c0:vs=[.ref a,.int k,.int m]) (c1:SqL K H a (ns.map V.int)) (c2:ns.length<=63) (c3:0<=k) (c4:k<1000) (c5:0<=m) (c6:m<=12) (c7:∀(l:Addr) (xs:List Str) (H':Hp),Same H H'->H l=none->H' l=some (.lst (xs.map V.str))->(xs.length:Int)=m->(∀x∈xs,Nv x)->xs.Nodup->Q (.ref l) H'):My K vs H Q E0_
def RF (c:Int):-(2^64)<c % 10^(12:Int).toNat+104729/\c % 10^(12:Int).toNat+104729<2^64:=by
 have e:(10:Int)^(12:Int).toNat=1000000000000:=by decide +kernel
 rw[e];lia
def scPick:AF ["_law_script", "_law_k", "_law_many", "_law_cell", "_law_number"] Cz (Aq E7):=AN
def scFixed:AF ["_law_text", "_law_words"] ["_law_text"] (Aq E9):=AN
def Nn (vs:List V)(h:es.all Jt=true)(hv:es.map HR=vs):PA X es (λ_ H Q=>Q vs H):=by subst hv;exact Qq h
def OY:List Expr:=match (Cm E9).getD 0 (.Pass ⟨0,0,0,0⟩)with
 | .Assign _ (.List es _) _=>es
 | _=>[]
def Q4 (es:List Expr):List Stmt:=match Cm E9 with
 | [.Assign a (.List _ p2) p3,r]=>[.Assign a (.List es p2) p3,r]
 | l=>l
def Zi:Q4 OY=Cm E9:=by rfl
abbrev Xn:List Str:=["_law_script", "_law_k", "_law_many", "_law_signs", "_law_at", "_law_i", "_law_size", "_law_alike", "_law_names_here", "_law_name", "_law_j", "_law_number"]
def scNames:AF Xn Cz (Aq Ie):=AN
def CK (ns:List Int)(k al at':Int)(i j:Nat):Int:=if (j:Int)=at' then(pk ns (k+12) 26+5*(i:Int)) % 26 else pk ns (k+3+(j:Int)*al) 26
def K7 (ns:List Int)(k al at':Int)(i j:Nat):0<=CK ns k al at' i j/\CK ns k al at' i j<26:=by
 unfold CK;split
 ·exact⟨Hu _ (by decide),HB _ (by decide)⟩
 exact⟨GD _ _ (by decide),GF _ _ (by decide)⟩
def BM (ns:List Int)(k al at':Int)(i n:Nat):List Nat:=(List.range n).map λj=>97+(CK ns k al at' i j).toNat
def Em (ns:List Int)(k al at':Int)(n i:Nat):Str:=E1 ⟨(BM ns k al at' i n).toArray⟩
def T8 (ns:List Int)(k al at':Int)(i n:Nat):BM ns k al at' i (n+1)=BM ns k al at' i n++[97+(CK ns k al at' i n).toNat]:=by unfold BM;rw[range_succ,B5];rfl
def NY (l:List Nat):cs ⟨l.toArray⟩=l:=rfl
def T9 {k at':Int} (h:c∈BM ns k al at' i n):97<=c/\c<=122:=by obtain⟨j,_,rfl⟩:=B0.mp h;have:=K7 ns k al at' i j;lia
def Gx (ns:List Int)(k al at':Int)(i n:Nat):(BM ns k al at' i n).length=n:=by unfold BM;rw[Ar,Hy]
def G6 (l:List Nat):(Str.mk l.toArray).length=l.length:=by rw[<- BG,NY]
def W6 (ns:List Int)(k al at':Int) (i:Nat)(h1:1<=n)(h2:n<=8):Nv (Em ns k al at' n i):=
 Sw (λc hc=>T9 (show c∈BM ns k al at' i n from hc)) (by rw[G6,Gx];exact h1) (by rw[G6,Gx];exact h2)
def W7 {ns:List Int}{k al:Int}{n a i j:Nat}(ha:a<n)(hi:i<26)(hj:j<26)(h:Em ns k al (a:Int) n i=Em ns k al (a:Int) n j):i=j:=by
 have e:=Sx (by rw[G6,G6,Gx,Gx]) h;have e2:BM ns k al a i n=BM ns k al a j n:=by have:=BB cs e;rwa [NY,NY]at this
 have e3:(BM ns k al a i n)[a]? = (BM ns k al a j n)[a]?:=by rw[e2]
 unfold BM at e3;rw[A6,A6,List.getElem?_range ha]at e3;have e4:97+(CK ns k al a i a).toNat=97+(CK ns k al a j a).toNat:=Bx e3;have l1:=K7 ns k al a i a;have l2:=K7 ns k al a j a;have e5:CK ns k al a i a=CK ns k al a j a:=by lia
 unfold CK at e5;rw[As rfl,As rfl]at e5;exact Zj hi hj e5
def FK (at':Int)(i:Nat):Str:=Txt.mul ⟨#[97+((at'+(i:Int) / 8) % 23).toNat]⟩ (1+(i:Int) % 8)
def ZO (h1:1<=i):cs (Txt.mul ⟨#[c]⟩ i)=replicate i.toNat c:=by
 have e0:¬i<1:=by lia
 unfold Txt.mul;rw[Ai e0];by_cases he:(i == 1 || (⟨#[c]⟩:Str).length == 0)=true
 ·rw[As he]
  have:i=1:=by
   rw[Oi]at he;rcases he with q | q
   ·exact Ht q
   cases q
  subst this;rfl
 rw[Ai he];have el:=QZ #[c] i.toNat #[];show(List.foldl (λx y=>x++y) #[] (replicate i.toNat #[c])).toList=_;rw[el]
 have:∀n:Nat,(replicate n [c]).flatten=replicate n c:=λn=>by
  induction n with
  | zero=>rfl
  | succ n ih=>rw[LK,F5,ih,LK];rfl
 simpa using this i.toNat
def Nb (at':Int)(i:Nat):cs (FK at' i)=replicate (1+(i:Int) % 8).toNat (97+((at'+(i:Int) / 8) % 23).toNat):=ZO (by lia)
def UU (at':Int)(i:Nat):Nv (FK at' i):=WZ (Nb at' i) (by lia) (by lia) (by lia) (by lia)
def UV {at':Int} (hi:i<16)(hj:j<16)(h:FK at' i=FK at' j):i=j:=by
 have e:=BB cs h;rw[Nb,Nb]at e;have l:=BB List.length e;rw[Ex,Ex]at l;have hm:97+((at'+(i:Int) / 8) % 23).toNat∈replicate (1+(j:Int) % 8).toNat (97+((at'+(j:Int) / 8) % 23).toNat):=by rw[<- e];exact Hl.mpr ⟨by lia,rfl⟩
 have e2:=(Hl.mp hm).2;lia
def nodup_range (inj:∀i j,i<n->j<n->f i=f j->i=j):((List.range n).map f).Nodup:=by rw[List.nodup_iff_pairwise_ne,pairwise_map];refine List.Pairwise.imp_of_mem (R:=λa b=>a≠b) (λ{a b} ha hb ne e=>ne (inj a b (Gc.mp ha) (Gc.mp hb) e)) (List.nodup_range)
def V6 (F:Fun K "_law_pick" "_law_pick" E7 f fd)(T:Bl mg):FnOk P w K mg base CX0 1 f fd Cz (Kb K):=by
 refine F.oq scPick λcdv A outer s H vs Q E hr h=>?_;obtain⟨a,ns,k,m,rfl,hS,hn,k0,k1,m0,q⟩:=h;refine⟨_,Af (Ay (i:=3) scPick.nd Ah) (Af (AH (AI Fg (AE Bq (by rfl) T.len A0 (Aa (pv 0) Ab)) Ah (AJ _)) (Am (Ay (i:=3) scPick.nd (Az Bb (pv 0) (Ax Ek (pv 1) (AE Bq (by rfl) T.len A0 (Aa (pv 0) Ab))) (λ_ _=>rfl)))) AG) (Af (Ay (i:=4) scPick.nd (Ax Ek (Ax G0 (Ax Bv (Ax Ek (pv 3) (Ax Vx Ah Ah)) Ah) (Ax Bv (Ax Bv (Ax G0 (pv 1) (pv 1)) (Ax G0 Ah (pv 1))) Ah)) Ah)) (Am (AC (Ax Ek (Ax Ek (Ax G0 (pv 4) Ah) Ah) (pv 2)))))),?_⟩;refine⟨_,rfl,_,_,rfl,.inl ⟨_,hS,rfl⟩,_,_,rfl,rfl,_,rfl,?_⟩;have hl:(ns.map V.int).length=ns.length:=Ar ..;refine A4 (λhp=>?_) (λhp=>?_)
 ·have hp':0<ns.length:=by have:=Bg hp;rw[hl]at this;lia
  have hpi:(0:Int)<((ns.map V.int).length:Int):=by rw[hl];lia
  obtain⟨j,hj⟩:∃j:Nat,(j:Int)=k % ((ns.map V.int).length:Int):=⟨(k % ((ns.map V.int).length:Int)).toNat,D0 (Hu _ (by lia))⟩;have hjl:j<ns.length:=by have:=HB k hpi;rw[hl]at this hj;lia
  have hat:AB (ns.map V.int) (k % ((ns.map V.int).length:Int))=some (.int ns[j]):=by rw[<- hj];exact AO (by simp[hjl])
  have hcv:Jz ns k=ns[j]:=by unfold Jz;rw[As hp',<- hl,<- hj,ES];simp[List.getD,hjl]
  unfold pk at q;rw[hcv]at q;refine⟨_,rfl,_,rfl,_,rfl,_,_,rfl,.inl ⟨_,hS,rfl⟩,_,_,rfl,rfl,hpi,_,_,_,_,rfl,rfl,hS,hat,?_⟩;refine⟨_,rfl,_,_,rfl,rfl,⟨by decide,by decide,by decide⟩,_,_,rfl,rfl,(by show(0:Int)<_;decide +kernel),_,_,rfl,rfl,_,rfl,_,rfl,_,_,rfl,rfl,.inl ⟨by lia,by lia⟩,_,rfl,_,_,rfl,rfl,.inl ⟨by decide,by decide⟩,_,_,rfl,rfl,_,_,rfl,rfl,_,_,rfl,rfl,.inl (RF _),_,_,rfl,rfl,(by show(0:Int)<_;decide),?_⟩;exact⟨_,rfl,_,_,rfl,rfl,.inr ⟨by decide,by decide⟩,_,_,rfl,rfl,(by show(0:Int)<_;decide),_,rfl,_,_,rfl,rfl,m0,q⟩
 have hcv:Jz ns k=0:=by unfold Jz;rw[Ai];intro z;exact hp (AQ (by rw[hl];lia))
 unfold pk at q;rw[hcv]at q;refine⟨_,rfl,_,_,rfl,rfl,⟨by decide,by decide,by decide⟩,_,_,rfl,rfl,(by show(0:Int)<_;decide +kernel),_,_,rfl,rfl,_,rfl,_,rfl,_,_,rfl,rfl,.inl ⟨by lia,by lia⟩,_,rfl,_,_,rfl,rfl,.inl ⟨by decide,by decide⟩,_,_,rfl,rfl,_,_,rfl,rfl,_,_,rfl,rfl,.inl (RF _),_,_,rfl,rfl,(by show(0:Int)<_;decide),?_⟩;exact⟨_,rfl,_,_,rfl,rfl,.inr ⟨by decide,by decide⟩,_,_,rfl,rfl,(by show(0:Int)<_;decide),_,rfl,_,_,rfl,rfl,m0,q⟩
def V7 (G:FnOk P w K mg base CX0 1 f fd Cz (Kb K)):FnOk P w K mg base CX0 1 f fd Cz (Gu K):=
 G.imp λvs H Q E h=>by obtain⟨a,ns,k,m,e,hS,hn,k0,k1,m0,q⟩:=h;exact⟨a,ns,k,m,e,hS,hn,k0,k1,m0,q _ (GD _ _ m0) (GF _ _ m0)⟩
def Zh (vs:List V)(h:es.all Jt=true)(hv:es.map HR=vs)(hl:vs.length<=sizeLine)(hf:vs.all Er=true) :
  ∃t,PSs (Cn CX0 P w K mg base ["_law_text", "_law_words"] "_law_fixed" (Aq E9) f cdv A outer s H E).nox (Q4 es) t /\
   ∀(x:Str) (Q:VK),(∀(H':Hp),Same H H'->Q (.bl (CM (.str x) vs)) H')->t { nx:=λ_ H'=>Q .non H',rt:=Q } [some (.str x),none] H:=by
 refine⟨_,Af (Ay (i:=1) scFixed.nd (Bh (Nn vs h hv))) (Am (AC (CV Du (pv 0) (pv 1) (by rfl)))),?_⟩
 intro x Q q
 refine⟨hl,λl hl=>?_⟩
 exact⟨_,rfl,_,rfl,l,_,rfl,.inl (SqL.of Ak),rfl,hf,q _ (Same.new hl)⟩
def WG (F:Fun K "_law_fixed" "_law_fixed" E9 f fd):FnOk P w K mg base CX0 1 f fd ["_law_text"] MP:=by
 refine F.oq scFixed λcdv A outer s H vs Q E hr h=>?_;obtain⟨x,rfl,q⟩:=h;obtain⟨t,ht,rt⟩:=Zh (P:=P) (w:=w) (K:=K) (mg:=mg) (base:=base) (f:=f) (cdv:=cdv) (A:=A) (outer:=outer) (s:=s) (H:=H) (E:=E) (es:=OY) (fixedS.map V.str) (by decide +kernel) (by rfl) (by rw[AM];decide +kernel) (flat_strs _);rw[Zi]at ht;refine⟨t,?_,rt x Q λH' s'=>?_⟩
 ·assumption
 rw[Dg];exact q H' s'
def Wa (F:Fun K "_law_names" "_law_names" Ie f fd)(DP:Df K mg "_law_pick" E7 Cz fP fdP)(DX:Df K mg "_law_fixed" E9 ["_law_text"] fX fdX)(T:Bl mg)
  (GP:FnOk P w K mg base CX0 1 fP fdP Cz (Kb K))(GX:FnOk P w K mg base CX0 1 fX fdX ["_law_text"] MP) :
  FnOk P w K mg base CX0 2 f fd Cz (My K):=by
 refine F.oq scNames λcdv A outer s H vs Q E hr h=>?_
 obtain⟨a,ns,k,m,rfl,hS,hn,k0,k1,m0,m1,q⟩:=h
 refine⟨_,(Af (GC (i:=3) scNames.nd rfl (EZ rfl) Av) (Af (AH (AI A9 (AU GP hr (by rfl) DP.m DP.F.kp DP.b .nil Au (Aa (pv 0) (Aa (Ax Bv (pv 1) Ah) (Aa Ah Ab)))) Ah (AJ _)) (Af (GC (i:=4) scNames.nd rfl (EZ rfl) (AU GP hr (by rfl) DP.m DP.F.kp DP.b .nil Au (Aa (pv 0) (Aa (pv 1) (Aa Ah Ab))))) (Am (AC (EI (N:=["_law_i", "_law_signs", "_law_at"]) (sc:=Aq Ie) (own:=["_law_i"]) (fr:=["_law_signs", "_law_at"]) (js:=[3,4]) Ci rfl (Ei (by rfl) T.range (Aa (pv 2) Ab)) (λ_ _ _ _=>Bm (i:=0) (show List.Nodup (["_law_i", "_law_signs", "_law_at"]:List Str) by decide +kernel)) (λ_ _ _ _=>Ct) (λ_ _ _ _=>(Ax Qs (Az QO (pv 1) (Ax Ek (Ax Bv (pv 2) (Ax Qu (pv 0) Ah)) Ah) (λ_ _=>rfl)) (Ax Bv Ah (Ax Ek (pv 0) Ah)))))))) AG) (Af (Ay (i:=6) scNames.nd (Ax Bv Ah (AU GP hr (by rfl) DP.m DP.F.kp DP.b .nil Au (Aa (pv 0) (Aa (pv 1) (Aa Ah Ab)))))) (Af (GC (i:=4) scNames.nd rfl (EZ rfl) (AU GP hr (by rfl) DP.m DP.F.kp DP.b .nil Au (Aa (pv 0) (Aa (Ax Bv (pv 1) Ah) (Aa (pv 6) Ab))))) (Af (Ay (i:=7) scNames.nd (AU GP hr (by rfl) DP.m DP.F.kp DP.b .nil Au (Aa (pv 0) (Aa (Ax Bv (pv 1) Ah) (Aa Ah Ab))))) (Af (Ay (i:=8) scNames.nd (Bh Ab)) (Af (CI Dj rfl (Ei (by rfl) T.range (Aa (pv 2) Ab)) (Bm (i:=5) scNames.nd) (Af (Ay (i:=9) scNames.nd Av) (Af (CI Dj rfl (Ei (by rfl) T.range (Aa (pv 6) Ab)) (Bm (i:=10) scNames.nd) (Af (Ay (i:=11) scNames.nd (AU GP hr (by rfl) DP.m DP.F.kp DP.b .nil Au (Aa (pv 0) (Aa (Ax Bv (Ax Bv (pv 1) Ah) (Ax G0 (pv 10) (pv 7))) (Aa Ah Ab))))) (Af (AH (AI A9 (pv 10) (pv 4) (AJ _)) (Am (Ay (i:=11) scNames.nd (Ax Ek (Ax Bv (AU GP hr (by rfl) DP.m DP.F.kp DP.b .nil Au (Aa (pv 0) (Aa (Ax Bv (pv 1) Ah) (Aa Ah Ab)))) (Ax G0 Ah (pv 5))) Ah))) AG) (Am (Ay (i:=9) scNames.nd (Ax CW (pv 9) (Az QO (pv 3) (pv 11) (λ_ _=>rfl)))))))) (Af (AH (Cr (AU GX hr (by rfl) DX.m DX.F.kp DX.b .nil Au (Aa (pv 9) Ab))) (Am (Ay (i:=9) scNames.nd (Ax CW Av (pv 9)))) AG) (Am (Cs (B2 Ez JG LX G4 (pv 8) (Aa (pv 9) Ab)))))))) (Am (AC (pv 8)))))))))),?_⟩
 have abc_e:(Str.ofString "abcdefghijklmnopqrstuvwxyz")=abc:=rfl
 have aa:sizeLine=16777216:=AM
 refine⟨_,rfl,_,rfl,_,_,rfl,rfl,a,ns,_,_,rfl,hS,hn,by lia,by lia,by decide,⟨rfl,_,rfl,?_⟩⟩
 refine A4 (λ_=>?_) (λ_=>?_)
 ·refine⟨_,rfl,_,rfl,a,ns,_,_,rfl,hS,hn,by lia,by lia,by decide,?_⟩;have a0:=GD ns k (m:=23) (by decide);have a1:=GF ns k (m:=23) (by decide);generalize pk ns k 23=at' at a0 a1 ⊢;refine⟨_,rfl,m,rfl,by lia,by lia,λD hD=>?_⟩
  refine Cj (n:=m.toNat) (λi ys H2=>ys=((List.range i).map (FK at')).map V.str/\Same H H2/\H2 D=some (.lst ys)) ⟨rfl,Same.new hD,Ak⟩
   (λi _ _ hi _=>hi) (λ_ _ _=>AA _) ?_ ?_
  ·rintro i ys H2 x H3 hi ⟨rfl,sm,hD2⟩ ⟨rfl,rfl⟩;refine Cu ?_;have b0:=Hu (at'+(0+(i:Int)) / 8) (b:=23) (by decide);have b1:=HB (at'+(0+(i:Int)) / 8) (b:=23) (by decide);have hc:=R4 b0 (by lia);have d0:=Hu (0+(i:Int)) (b:=8) (by decide);have d1:=HB (0+(i:Int)) (b:=8) (by decide);refine⟨_,rfl,_,rfl,_,rfl,_,_,rfl,rfl,⟨by decide,by decide⟩,_,_,rfl,rfl,_,_,rfl,rfl,(by show(0:Int)<_;decide),abc,_,_,rfl,rfl,Of,hc,_,rfl,_,_,rfl,rfl,(by show(0:Int)<_;decide),_,_,rfl,rfl,_,_,rfl,rfl,by lia,by lia,(by show 1<=1000;decide),?_⟩;refine⟨_,hD2,by rw[Ar,Ar,Hy];lia,?_,sm.put hD,Ak⟩;rw[range_succ,B5,B5];show _=_++[V.str (FK at' i)];unfold FK;rw[Hx]
  rintro ys H2 ⟨rfl,sm,hD2⟩;refine q D _ H2 sm hD hD2 (by rw[Ar,Hy];lia) (λx hx=>?_) (nodup_range λi j hi hj e=>UV (by lia) (by lia) e);obtain⟨i,_,rfl⟩:=B0.mp hx;exact UU at' i
 refine⟨_,rfl,_,rfl,a,ns,_,_,rfl,hS,hn,by lia,by lia,by decide,⟨_,_,rfl,rfl,?_⟩⟩
 have s0:=GD ns k (m:=8) (by decide)
 have s1:=GF ns k (m:=8) (by decide)
 generalize pk ns k 8=sz at s0 s1 ⊢
 refine⟨_,rfl,_,rfl,_,_,rfl,rfl,_,rfl,a,ns,_,_,rfl,hS,hn,by lia,by lia,by lia,?_⟩
 have a0:=GD ns (k+1) (m:=1+sz) (by lia)
 have a1:=GF ns (k+1) (m:=1+sz) (by lia)
 generalize pk ns (k+1) (1+sz)=at' at a0 a1 ⊢
 refine⟨_,rfl,_,rfl,_,_,rfl,rfl,a,ns,_,_,rfl,hS,hn,by lia,by lia,by decide,?_⟩
 have l0:=GD ns (k+2) (m:=2) (by decide)
 have l1:=GF ns (k+2) (m:=2) (by decide)
 generalize pk ns (k+2) 2=al at l0 l1 ⊢
 refine⟨Be _,λl hl=>?_⟩
 obtain⟨n,hn'⟩:∃n:Nat,(n:Int)=1+sz:=⟨(1+sz).toNat,D0 (by lia)⟩
 obtain⟨a',ha'⟩:∃n:Nat,(n:Int)=at':=⟨at'.toNat,D0 (by lia)⟩
 refine⟨_,rfl,m,rfl,by lia,by lia,Hh (n:=m.toNat) (λi σ H2=>∃(v5 v9 v10 v11:Option V),σ = [some (.ref a),some (.int k),some (.int m),some (.str abc),some (.int at'),v5,some (.int (1+sz)),some (.int al),some (.ref l),v9,v10,v11] /\ Same H H2/\H2 l=some (.lst (((List.range i).map (Em ns k al at' n)).map V.str))) ⟨none,none,none,none,rfl,Same.new hl,Ak⟩ ?_ ?_⟩
 ·rintro i σ H2 hi ⟨v5,v9,v10,v11,rfl,sm,hl2⟩;have hS2:=sm.seq hS;refine⟨_,rfl,_,rfl,by lia,by lia,Hh (n:=(1+sz).toNat) (λj σ H3=>∃(v10 v11:Option V),σ = [some (.ref a),some (.int k),some (.int m),some (.str abc),some (.int at'),some (.int (0+(i:Int))),some (.int (1+sz)),some (.int al),some (.ref l),some (.str ⟨(BM ns k al at' i j).toArray⟩),v10,v11] /\ H3=H2) ⟨v10,v11,rfl,rfl⟩ ?_ ?_⟩
  ·rintro j σ H3 hj ⟨w10,w11,rfl,rfl⟩;have hjl:(j:Int)<1+sz:=by lia
   have hja:0<=(0+(j:Int))*al/\(0+(j:Int))*al<=8:=by
    have:al=0\/al=1:=by lia
    rcases this with e | e
    ·subst e;lia
    subst e;lia
   refine⟨_,rfl,_,rfl,_,_,rfl,rfl,_,rfl,_,rfl,_,_,rfl,rfl,.inl ⟨by lia,by lia⟩,_,_,rfl,rfl,a,ns,_,_,rfl,hS2,hn,by lia,by lia,by decide,?_⟩;refine⟨_,rfl,_,rfl,rfl,_,rfl,?_⟩;have hnl:=K7 ns k al at' i j;have hc:=R4 hnl.1 hnl.2;have hsg:(⟨(BM ns k al at' i j).toArray⟩:Str)++⟨#[97+(CK ns k al at' i j).toNat]⟩=⟨(BM ns k al at' i (j+1)).toArray⟩:=by apply Lh;rw[Bk,ZM];show BM ns k al at' i j++[97+(CK ns k al at' i j).toNat]=BM ns k al at' i (j+1);rw[T8]
   have hlen:(⟨(BM ns k al at' i j).toArray⟩:Str).length=j:=by rw[G6,Gx]
   refine A4 (λhe=>?_) (λhe=>?_)
   ·have he':(j:Int)=at':=by have:=V.int.inj (Bg he);lia
    have hnu:CK ns k al at' i j=(pk ns (k+12) 26+5*(0+(i:Int))) % 26:=by unfold CK;rw[As he',Hx]
    rw[hnu]at hc hsg;refine⟨_,rfl,_,rfl,_,_,rfl,rfl,a,ns,_,_,rfl,hS2,hn,by lia,by lia,by decide,?_⟩;refine⟨_,rfl,_,_,rfl,rfl,.inl ⟨by decide,by decide⟩,_,_,rfl,rfl,_,_,rfl,rfl,(by show(0:Int)<_;decide),?_⟩;refine⟨_,rfl,_,rfl,_,rfl,abc,_,_,rfl,rfl,Of,hc,_,_,rfl,rfl,by show(⟨(BM ns k al at' i j).toArray⟩:Str).length+1<=sizeLine;lia,some (.int (0+(j:Int))),some (.int ((pk ns (k+12) 26+5*(0+(i:Int))) % 26)),?_,rfl⟩;rw[<- hsg];all_goals rfl
   have he':¬(j:Int)=at':=λz=>he (AQ (by rw[<- z,Hx]));have hnu:CK ns k al at' i j=pk ns (k+3+(0+(j:Int))*al) 26:=by unfold CK;rw[Ai he',Hx]
   rw[hnu]at hc hsg;refine⟨_,rfl,_,rfl,_,rfl,abc,_,_,rfl,rfl,Of,hc,_,_,rfl,rfl,by show(⟨(BM ns k al at' i j).toArray⟩:Str).length+1<=sizeLine;lia,some (.int (0+(j:Int))),some (.int (pk ns (k+3+(0+(j:Int))*al) 26)),?_,rfl⟩;rw[<- hsg];all_goals rfl
  rintro σ H3 ⟨w10,w11,rfl,rfl⟩;have en:(1+sz).toNat=n:=by lia
  rw[en];refine⟨_,rfl,_,rfl,λH4 s4=>⟨_,rfl,?_⟩⟩;have hl4:=s4 _ _ hl2;have hlen:(⟨(BM ns k al at' i n).toArray⟩:Str).length=n:=by rw[G6,Gx]
  have hz:((List.range i).map (Em ns k al at' n)).map V.str++[V.str (Em ns k al at' n i)]=((List.range (i+1)).map (Em ns k al at' n)).map V.str:=by rw[range_succ,B5,B5];rfl
  have hll:(((List.range i).map (Em ns k al at' n)).map V.str).length<sizeLine:=by rw[Ar,Ar,Hy];lia
  refine A4 (λhx=>?_) (λhx=>?_)
  ·have hx':=Bg hx;refine⟨_,rfl,_,_,rfl,rfl,by show 1+(⟨(BM ns k al at' i n).toArray⟩:Str).length<=sizeLine;lia,?_⟩;refine⟨_,rfl,.inl ⟨rfl,_,SqL.of hl4⟩,_,rfl,l,_,_,rfl,rfl,hl4,hll,_,_,_,_,rfl,(sm.trans s4).put hl,?_⟩;rw[Ak,<- hz];unfold Em E1;rw[As hx'];all_goals rfl
  have hx':¬(⟨(BM ns k al at' i n).toArray⟩:Str)∈fixedS:=λz=>hx (AQ z);refine⟨_,rfl,.inl ⟨rfl,_,SqL.of hl4⟩,_,rfl,l,_,_,rfl,rfl,hl4,hll,_,_,_,_,rfl,(sm.trans s4).put hl,?_⟩;rw[Ak,<- hz];unfold Em E1;rw[Ai hx']
 rintro σ H2 ⟨v5,v9,v10,v11,rfl,sm,hl2⟩
 refine⟨_,rfl,q l _ H2 sm hl hl2 (by rw[Ar,Hy];lia) (λx hx=>?_) (nodup_range λi j hi hj e=>?_)⟩
 ·obtain⟨i,_,rfl⟩:=B0.mp hx;exact W6 ns k al at' i (by lia) (by lia)
 rw[<- ha']at e
 exact W7 (by lia) (by lia) (by lia) e
abbrev Sk (x:Str):Prop:=strOk x=true/\x.length<=16
def CN (e:H a=some (.dK kvs))(h:Aw kvs (Sum.inr x:Ag)=some v):DGet H a (.str x) (some v):=by have q:=DGet.k (k:=(Sum.inr x:Ag)) e;rw[h]at q;exact q
abbrev K3:List Str:=["_law_room_here", "_law_place"]
def Ad (L1 L2:List (Ag×V))(x l:Str):Prop:=l = "open" \/ (l = "shut" /\ (Aw L1 (Sum.inr x:Ag)).isSome=true)\/(l = "locked" /\ (Aw L2 (Sum.inr x:Ag)).isSome=true)
inductive MF (vs:List V)(H:Hp)(Q:VK)(E0_:XK):Prop
 | mk (r d1 d2:Addr) (x:Str) (kvs L1 L2:List (Ag×V)) (c0:vs=[.ref r,.str x]) (c1:H r=some (.dK kvs)) (c2:Aw kvs (Sum.inr "lids" : Ag)=some (.ref d1)) (c3:Aw kvs (Sum.inr "keys" : Ag)=some (.ref d2)) (c4:H d1=some (.dK L1)) (c5:H d2=some (.dK L2)) (c6:∀(l:Addr) (ys:List Str) (H':Hp),Same H H'->H l=none->H' l=some (.lst (ys.map V.str))->1<=ys.length->(∀y∈ys,Ad L1 L2 x y)->Q (.ref l) H'):MF  vs H Q E0_
def scLids:AF ["_law_room_here", "_law_place", "_law_some"] K3 (Aq Kx):=AN
def Bz (h:¬x=y):¬(Sum.inr x:Ag)=Sum.inr y:=λe=>h (Di e)
def B1 (p t d1 d2 d3:Addr):List (Ag×V):=[(Sum.inr "places",.ref p),(Sum.inr "things",.ref t),(Sum.inr "lids",.ref d1),(Sum.inr "keys",.ref d2),(Sum.inr "shapes",.ref d3)]
def M9 (p t d1 d2 d3:Addr):Aw (B1 p t d1 d2 d3) (Sum.inr "things" : Ag)=some (.ref t):=by unfold B1;rw[A7 (Bz (by decide +kernel)),BV rfl]
def PM (p t d1 d2 d3:Addr):Aw (B1 p t d1 d2 d3) (Sum.inr "lids" : Ag)=some (.ref d1):=by unfold B1;rw[A7 (Bz (by decide +kernel)),A7 (Bz (by decide +kernel)),BV rfl]
def PN (p t d1 d2 d3:Addr):Aw (B1 p t d1 d2 d3) (Sum.inr "keys" : Ag)=some (.ref d2):=by unfold B1;rw[A7 (Bz (by decide +kernel)),A7 (Bz (by decide +kernel)),A7 (Bz (by decide +kernel)),BV rfl]
def Na (p t d1 d2 d3:Addr):Aw (B1 p t d1 d2 d3) (Sum.inr "shapes" : Ag)=some (.ref d3):=by unfold B1;rw[A7 (Bz (by decide +kernel)),A7 (Bz (by decide +kernel)),A7 (Bz (by decide +kernel)),A7 (Bz (by decide +kernel)),BV rfl]
def UK (p t d1 d2 d3:Addr):Aw (B1 p t d1 d2 d3) (Sum.inr "places" : Ag)=some (.ref p):=by unfold B1;rw[BV rfl]
abbrev K2:List Str:=["_law_script", "_law_k", "_law_room_here", "_law_name"]
inductive ME (K:W.Frag)(vs:List V)(H:Hp)(Q:VK)(E0_:XK):Prop
 | mk (a:Addr) (ns:List Int) (k:Int) (r p t d1 d2 d3:Addr) (x:Str) (ts:List Str) (L1 L2:List (Ag×V)) (c0:vs=[.ref a,.int k,.ref r,.str x]) (c1:SqL K H a (ns.map V.int)) (c2:ns.length<=63) (c3:0<=k) (c4:k<100) (c5:Nv x) (c6:H r=some (.dK (B1 p t d1 d2 d3))) (c7:H t=some (.lst (ts.map V.str))) (c8:(∀y∈ts,Nv y)) (c9:ts.length<=12) (c10:H d1=some (.dK L1)) (c11:H d2=some (.dK L2)) (c12:L1.length<=100) (c13:L2.length<=100) (c14:r≠d1) (c15:r≠d2) (c16:d1≠d2) (c17:Aw L1 (Sum.inr x:Ag)=none) (c18:Aw L2 (Sum.inr x:Ag)=none) (c19:∀(ro:Ro) (H':Hp),ro.name=x->ro.isP=true->ro.nv->(k=0->ro=.pl x)->(∀y,ro=.lk x y->y∈ts)->H' d1=some (.dK (L1++Bw [ro]))->H' d2=some (.dK (L2++BD [ro]))->(∀b o,H b=some o->b≠d1->b≠d2->H' b=some o)->Q (.str ro.txt) H'):ME K vs H Q E0_
def scLine:AF ["_law_script", "_law_k", "_law_room_here", "_law_name", "_law_way", "_law_key"] K2 (Aq Kw):=AN
def Pz (h:SqL K H a xs)(k:∀b o,H b=some o->b≠d1->H' b=some o) (hd:H d1=some (.dK L)):SqL K H' a xs:=by
 rcases h with(h | ⟨o,h⟩) | h
 ·exact .inl (.inl (k _ _ h (BJ h hd (by intro z;cases z))))
 ·exact .inl (.inr ⟨o,k _ _ h (BJ h hd (by intro z;cases z))⟩)
 exact .inr h
def Wi (F:Fun K "_law_lids" "_law_lids" Kx f fd):FnOk P w K mg base CX0 1 f fd K3 MF:=by
 refine F.oq scLids λcdv A outer s H vs Q E hr h=>?_;obtain⟨r,d1,d2,x,kvs,L1,L2,rfl,h1,h4,h5,h8,h9,q⟩:=h;have hu:=Dw hr;refine⟨_,Af (Ay (i:=2) scLids.nd (Bh (Aa Av Ab))) (Af (AH (FO (Qo hu (pv 1) (CJ hu (pv 0) Av (λ_ _=>rfl)))) (Am (Cs (B2 Ez JG LX G4 (pv 2) (Aa Av Ab)))) AG) (Af (AH (FO (Qo hu (pv 1) (CJ hu (pv 0) Av (λ_ _=>rfl)))) (Am (Cs (B2 Ez JG LX G4 (pv 2) (Aa Av Ab)))) AG) (Am (AC (pv 2))))),?_⟩;refine⟨by show 1<=sizeLine;decide,λl hl=>?_⟩;have aa:sizeLine=16777216:=AM;have s0:Same H (Ac H l (.lst [V.str "open"])):=Same.new hl;refine⟨_,rfl,_,rfl,r,_,rfl,CN (s0 _ _ h1) h4,_,_,rfl,DGet.k (k:=(Sum.inr x:Ag)) (s0 _ _ h8),_,rfl,?_⟩;have s1:∀o,Same H (Ac (Ac H l (.lst [V.str "open"])) l o):=λo=>s0.put hl;refine A4 (λc1=>?_) (λ_=>?_)
 ·refine⟨_,rfl,.inl ⟨rfl,_,SqL.of Ak⟩,l,_,_,rfl,rfl,Ak,by show 1<sizeLine;decide,?_⟩;refine⟨_,rfl,_,rfl,r,_,rfl,CN (s1 _ _ _ h1) h5,_,_,rfl,DGet.k (k:=(Sum.inr x:Ag)) (s1 _ _ _ h9),_,rfl,?_⟩;refine A4 (λc2=>?_) (λ_=>?_)
  ·refine⟨_,rfl,.inl ⟨rfl,_,SqL.of Ak⟩,l,_,_,rfl,rfl,Ak,by show 2<sizeLine;decide,?_⟩;refine⟨_,rfl,q l ["open", "shut", "locked"] _ ((s1 _).put hl) hl Ak (by decide) λy hy=>?_⟩;simp only[AD,B6,B4]at hy;rcases hy with e | e | e
   ·exact .inl e
   ·exact .inr (.inl ⟨e,c1⟩)
   exact .inr (.inr ⟨e,c2⟩)
  refine⟨_,rfl,q l ["open", "shut"] _ (s1 _) hl Ak (by decide) λy hy=>?_⟩;simp only[AD,B6,B4]at hy;rcases hy with e | e
  ·exact .inl e
  exact .inr (.inl ⟨e,c1⟩)
 refine⟨_,rfl,_,rfl,r,_,rfl,CN (s0 _ _ h1) h5,_,_,rfl,DGet.k (k:=(Sum.inr x:Ag)) (s0 _ _ h9),_,rfl,?_⟩;refine A4 (λc2=>?_) (λ_=>?_)
 ·refine⟨_,rfl,.inl ⟨rfl,_,SqL.of Ak⟩,l,_,_,rfl,rfl,Ak,by show 1<sizeLine;decide,?_⟩;refine⟨_,rfl,q l ["open", "locked"] _ (s1 _) hl Ak (by decide) λy hy=>?_⟩;simp only[AD,B6,B4]at hy;rcases hy with e | e
  ·exact .inl e
  exact .inr (.inr ⟨e,c2⟩)
 refine⟨_,rfl,q l ["open"] _ s0 hl Ak (by decide) λy hy=>?_⟩;simp only[AD,B6,B4]at hy;exact .inl hy
def Wh (F:Fun K "_law_place_line" "_law_place_line" Kw f fd)(DP:Df K mg "_law_pick" E7 Cz fP fdP)(T:Bl mg)(GP:FnOk P w K mg base CX0 1 fP fdP Cz (Gu K)):FnOk P w K mg base CX0 2 f fd K2 (ME K):=by
 refine F.oq scLine λcdv A outer s H vs Q E hr h=>?_;obtain⟨a,ns,k,r,p,t,d1,d2,d3,x,ts,L1,L2,rfl,hS,hn,k0,k1,hx,hr0,ht,hts,htl,h1,h2,z1,z2,n1,n2,n3,v1,v2,q⟩:=h;have hu:=Dw hr;have aa:sizeLine=16777216:=AM;have hxl:=hx.len;refine⟨_,Af (Ay (i:=4) scLine.nd (AU GP hr (by rfl) DP.m DP.F.kp DP.b .nil Au (Aa (pv 0) (Aa (Ax Bv Ah (pv 1)) (Aa Ah Ab))))) (Af (AH (PW.pt (Cy (AI A9 (pv 1) Ah (AJ _)) (DE (AI A9 (pv 4) Ah (AJ _))))) (Am (AC (Ax CW Av (pv 3)))) AG) (Af (EH hu (CJ hu (pv 2) Av (λ_ _=>rfl)) (pv 3) EJ rfl) (Af (AH (PW.pt (Cy (AI A9 (pv 4) Ah (AJ _)) (DE (AI A9 (AE Bq (by rfl) T.len A0 (Aa (CJ hu (pv 2) Av (λ_ _=>rfl)) Ab)) Ah (AJ _))))) (Am (AC (Ax CW Av (pv 3)))) AG) (Af (Ay (i:=5) scLine.nd (Az Bb (CJ hu (pv 2) Av (λ_ _=>rfl)) (AU GP hr (by rfl) DP.m DP.F.kp DP.b .nil Au (Aa (pv 0) (Aa (Ax Bv Ah (pv 1)) (Aa (AE Bq (by rfl) T.len A0 (Aa (CJ hu (pv 2) Av (λ_ _=>rfl)) Ab)) Ab)))) (λ_ _=>rfl))) (Af (EH hu (CJ hu (pv 2) Av (λ_ _=>rfl)) (pv 3) (pv 5) rfl) (Am (AC (Ax CW (Ax CW (Ax CW Av (pv 3)) Av) (pv 5))))))))),?_⟩;have plain:Q (.str (("place " : Str)++x)) H:=q (.pl x) H rfl rfl hx (λ_=>rfl) (λy e=>nomatch e) (by show H d1=some (.dK (L1++[]));rw[CP];exact h1) (by show H d2=some (.dK (L2++[]));rw[CP];exact h2) λb o e _ _=>e;refine⟨_,rfl,_,rfl,_,_,rfl,rfl,a,ns,_,_,rfl,hS,hn,by lia,by lia,by decide,λway w0 w1=>?_⟩;refine⟨_,rfl,rfl,_,rfl,?_⟩;refine A4 (λ_=>?_) (λhk0=>?_)
 ·refine AS ?_;exact⟨_,rfl,_,_,rfl,rfl,by show 6+x.length<=sizeLine;lia,plain⟩
 have hk:k≠0:=λz=>hk0 (AQ (by rw[z]));refine⟨_,rfl,rfl,_,rfl,?_⟩;refine A4 (λ_=>?_) (λ_=>?_)
 ·exact⟨_,rfl,_,_,rfl,rfl,by show 6+x.length<=sizeLine;lia,plain⟩
 refine⟨_,rfl,r,_,rfl,CN hr0 (PM _ _ _ _ _),_,rfl,d1,_,rfl,DPut.k (k:=(Sum.inr x:Ag)) h1 (by lia),?_⟩;rw[FN _ v1];have k1':∀(u:HO) b o,H b=some o->b≠d1->Ac H d1 u b=some o:=λu b o e hb=>by rw[Aj hb];exact e
 have rK:=k1' (.dK (L1++[(Sum.inr x,V.bl true)])) _ _ hr0 n1;have tK:=k1' (.dK (L1++[(Sum.inr x,V.bl true)])) _ _ ht (BJ ht h1 (by intro z;cases z));have dK:=k1' (.dK (L1++[(Sum.inr x,V.bl true)])) _ _ h2 (Dm n3);have sK:=Pz (K:=K) hS (λb o e hb=>k1' (.dK (L1++[(Sum.inr x,V.bl true)])) b o e hb) h1
 have box:Q (.str (("box " : Str)++x)) (Ac H d1 (.dK (L1++[(Sum.inr x,V.bl true)]))):=
  q (.bx x) _ rfl rfl hx (λz=>absurd z hk) (λy e=>nomatch e) Ak (by show(Ac H d1 (.dK (L1++[(Sum.inr x,V.bl true)]))) d2=some (HO.dK (L2++[]));rw[CP];exact dK) λb o e hb _=>k1' _ b o e hb
 refine⟨_,rfl,rfl,_,rfl,?_⟩;refine A4 (λ_=>?_) (λ_=>?_)
 ·refine AS ?_;exact⟨_,rfl,_,_,rfl,rfl,by show 4+x.length<=sizeLine;lia,box⟩
 refine⟨_,rfl,r,_,rfl,CN rK (M9 _ _ _ _ _),_,_,rfl,.inl ⟨_,SqL.of tK,rfl⟩,rfl,_,rfl,?_⟩;refine A4 (λ_=>?_) (λhne=>?_)
 ·exact⟨_,rfl,_,_,rfl,rfl,by show 4+x.length<=sizeLine;lia,box⟩
 have hlm:(ts.map V.str).length=ts.length:=Ar ..
 have tpos:0<ts.length:=by
  rcases Nat.eq_zero_or_pos ts.length with z | z
  ·exact absurd (AQ (by rw[hlm,z];rfl)) hne
  exact z
 refine⟨_,rfl,r,_,rfl,CN rK (M9 _ _ _ _ _),_,rfl,_,rfl,_,_,rfl,rfl,_,rfl,r,_,rfl,CN rK (M9 _ _ _ _ _),_,_,rfl,.inl ⟨_,SqL.of tK,rfl⟩,a,ns,_,_,rfl,sK,hn,by lia,by lia,by rw[hlm];lia,λj j0 j1=>?_⟩;have hj:j.toNat<ts.length:=by rw[hlm]at j1;lia
 have hat:AB (ts.map V.str) j=some (.str ts[j.toNat]):=by have q:=AO (xs:=ts.map V.str) (j:=j.toNat) (v:=.str ts[j.toNat]) (by simp[hj]);rw[D0 j0]at q;exact q
 have hym:=Dy hj;have hy:=hts _ hym;have hyl:=hy.len;refine⟨_,_,_,_,rfl,rfl,SqL.of tK,hat,?_⟩;generalize ts[j.toNat]=y at hym hy hyl;refine⟨_,rfl,_,rfl,r,_,rfl,CN rK (PN _ _ _ _ _),_,rfl,d2,_,rfl,DPut.k (k:=(Sum.inr x:Ag)) dK (by lia),?_⟩;rw[FN _ v2];have e1:("box " : Str).length=4:=by decide +kernel
 have e2:(" " : Str).length=1:=by decide +kernel
 refine⟨_,rfl,_,_,rfl,rfl,by show 4+x.length<=sizeLine;lia,_,_,rfl,rfl,by rw[CB,e1,e2];lia,_,rfl,_,_,rfl,rfl,by rw[CB,CB,e1,e2];lia,?_⟩;refine q (.lk x y) _ rfl rfl ⟨hx,hy⟩ (λz=>absurd z hk) (λy' e=>by cases e;exact hym) ?_ Ak λb o e hb hb'=>?_
 ·rw[Aj n3];exact Ak
 rw[Aj hb'];exact k1' _ b o e hb
abbrev Nq:List Str:=["_law_script", "_law_places", "_law_things"]
inductive Sh (H:Hp)(r:Addr)(rs:List Ro):Prop
 | mk (kvs L3:List (Ag×V)) (p t d1 d2 d3 D:Addr) (c0:H r=some (.dK kvs)) (c1:Aw kvs (Sum.inr "places" : Ag)=some (.ref p)) (c2:Aw kvs (Sum.inr "things" : Ag)=some (.ref t)) (c3:Aw kvs (Sum.inr "lids" : Ag)=some (.ref d1)) (c4:Aw kvs (Sum.inr "keys" : Ag)=some (.ref d2)) (c5:Aw kvs (Sum.inr "shapes" : Ag)=some (.ref d3)) (c6:Aw kvs (Sum.inr "lines" : Ag)=some (.ref D)) (c7:H p=some (.lst (((plc rs).map (·.1)).map V.str))) (c8:H t=some (.lst (((ths rs).map (·.1)).map V.str))) (c9:H d1=some (.dK (Bw rs))) (c10:H d2=some (.dK (BD rs))) (c11:H d3=some (.dK L3)) (c12:H D=some (.lst ((rs.map Ro.txt).map V.str))) (c13:∀x∈ths rs,Aw L3 (Sum.inr x.1:Ag)=some (.str x.2)):Sh H r rs
structure RmS (H:Hp)(r:Addr)(rs:List Ro):Prop where
 ex:Sh H r rs
 good:Good rs
def RmS.same (R:RmS H r rs)(s:Same H H'):RmS H' r rs:=by obtain⟨⟨kvs,L3,p,t,d1,d2,d3,D,h1,h2,h3,h4,h5,h6,h7,g1,g2,g3,g4,g5,g6,g7⟩,g⟩:=R;exact⟨⟨kvs,L3,p,t,d1,d2,d3,D,s _ _ h1,h2,h3,h4,h5,h6,h7,s _ _ g1,s _ _ g2,s _ _ g3,s _ _ g4,s _ _ g5,s _ _ g6,g7⟩,g⟩
def QV (g:Good rs) (h:x∈rs.map Ro.name):Nv x:=by obtain⟨r,hr,rfl⟩:=B0.mp h;exact Ro.nv_name (g.nv r hr)
def WY (h:Nv x):Sk x:=⟨h.ok,by have:=h.len;lia⟩
inductive Ms (K:W.Frag)(vs:List V)(H:Hp)(Q:VK)(E0_:XK):Prop
 | mk (a:Addr) (ns:List Int) (p m:Int) (c0:vs=[.ref a,.int p,.int m]) (c1:SqL K H a (ns.map V.int)) (c2:ns.length<=63) (c3:1<=p) (c4:p<=6) (c5:0<=m) (c6:m<=6) (c7:∀(r:Addr) (rs:List Ro) (H':Hp),Same H H'->RmS H' r rs->((plc rs).length:Int)=p->((ths rs).length:Int)=m->rs.length<=12->Q (.ref r) H'):Ms K vs H Q E0_
abbrev QA:List Str:=["_law_script", "_law_places", "_law_things", "_law_names_here", "_law_room_here", "_law_k", "_law_lines", "_law_shapes", "_law_thing", "_law_at"]
structure Mk (H H2:Hp)(r p t d1 d2 d3 l D:Addr)(xs:List Str)(n:Nat)(rs:List Ro)(i:Nat):Prop where
 sm:Same H H2
 room:H2 r=some (.dK (B1 p t d1 d2 d3))
 pl:H2 p=some (.lst ((xs.take n).map V.str))
 th:H2 t=some (.lst ((xs.drop n).map V.str))
 l1:H2 d1=some (.dK (Bw rs))
 l2:H2 d2=some (.dK (BD rs))
 l3:∃L,H2 d3=some (.dK L)/\L.length<=i/\∀x∈ths rs,Aw L (Sum.inr x.1:Ag)=some (.str x.2)
 nm:H2 l=some (.lst (xs.map V.str))
 ln:H2 D=some (.lst ((rs.map Ro.txt).map V.str))
 ok:∀x∈rs,x.nv
 len:rs.length=i
 ks:∀x y,Ro.lk x y∈rs->y∈xs.drop n
structure Ap (H:Hp)(r p t d1 d2 d3 l D:Addr):Prop where
 fr:H r=none
 f1:H d1=none
 f2:H d2=none
 f3:H d3=none
 fl:H l=none
 fD:H D=none
 r1:r≠d1
 r2:r≠d2
 r3:r≠d3
 n12:d1≠d2
 n13:d1≠d3
 n23:d2≠d3
 Dp:D≠p
 Dt:D≠t
 Dl:D≠l
def scRoom:AF QA Nq (Aq E4):=AN
def Ck {H:Hp}{a b:Addr}{xs:List V}{L:List (Ag×V)}(h:H a=some (.lst xs))(h':H b=some (.dK L)):a≠b:=BJ h h' (by intro z;cases z)
def BO (h:Ac H a o b=none):b≠a/\H b=none:=by
 by_cases e:b=a
 ·subst e;rw[Ak]at h;cases h
 rw[Aj e]at h;exact⟨e,h⟩
def JC {xs:List Str}{j:Int}(h0:0<=j)(h1:j<(xs.length:Int)):∃x∈xs,xs[j.toNat]? = some x/\AB (xs.map V.str) j=some (.str x):=by
 have hj:j.toNat<xs.length:=by lia
 refine⟨xs[j.toNat],Dy hj,Bi hj,?_⟩;have q:=AO (xs:=xs.map V.str) (j:=j.toNat) (v:=.str xs[j.toNat]) (by simp[hj]);rw[D0 h0]at q;exact q
def Z4 {xs:List Str}{j:Int}(h0:0<=j)(h1:j<(xs.length:Int)):∃x∈xs,AB (xs.map V.str) j=some (.str x):=by obtain⟨x,a,_,b⟩:=JC h0 h1;exact⟨x,a,b⟩
def UL (p t d1 d2 d3:Addr):G7 [] (B1 p t d1 d2 d3)=B1 p t d1 d2 d3:=by with_unfolding_all rfl
theorem Ir:∀{rs:List Ro},(∀r∈rs,r.isP=true)->(plc rs).map (·.1)=rs.map Ro.name/\ths rs=[]
 | [],_=>⟨rfl,rfl⟩
 | .th n s::r,h=>nomatch h _ AZ
 | .pl n::r,h=>by obtain⟨a,b⟩:=Ir (rs:=r) λx hx=>h x (AR _ hx);exact⟨by rw[show plc (.pl n::r)=(n,false,none)::plc r from rfl,Bj,Bj,a];rfl,b⟩
 | .bx n::r,h=>by obtain⟨a,b⟩:=Ir (rs:=r) λx hx=>h x (AR _ hx);exact⟨by rw[show plc (.bx n::r)=(n,true,none)::plc r from rfl,Bj,Bj,a];rfl,b⟩
 | .lk n k::r,h=>by obtain⟨a,b⟩:=Ir (rs:=r) λx hx=>h x (AR _ hx);exact⟨by rw[show plc (.lk n k::r)=(n,true,some k)::plc r from rfl,Bj,Bj,a];rfl,b⟩
theorem Iu:∀{rs:List Ro}{p:Str×Bool×Option Str}{k:Str},p∈plc rs->p.2.2=some k->∃n,Ro.lk n k∈rs
 | [],_,_,h,_=>nomatch h
 | .th n s::r,p,k,h,e=>by obtain⟨n,z⟩:=Iu (rs:=r) h e;exact⟨n,AR _ z⟩
 | .pl n::r,p,k,h,e=>by
  rcases AD.mp (show p∈(n,false,none)::plc r from h)with z | z
  ·rw[z]at e;cases e
  obtain⟨n,z⟩:=Iu (rs:=r) z e;exact⟨n,AR _ z⟩
 | .bx n::r,p,k,h,e=>by
  rcases AD.mp (show p∈(n,true,none)::plc r from h)with z | z
  ·rw[z]at e;cases e
  obtain⟨n,z⟩:=Iu (rs:=r) z e;exact⟨n,AR _ z⟩
 | .lk n k'::r,p,k,h,e=>by
  rcases AD.mp (show p∈(n,true,some k')::plc r from h)with z | z
  ·rw[z]at e;cases e;exact⟨n,AZ⟩
  obtain⟨n,z⟩:=Iu (rs:=r) z e;exact⟨n,AR _ z⟩
def Ys (rs:List Ro):rs.length=(plc rs).length+(ths rs).length:=by have h:=(El rs).length_eq;rw[Ar,AX,Ar,Ar]at h;exact h
def Y6 {rs:List Ro}{xs:List Str}{n:Nat}(nd:xs.Nodup)(hn:n<=6)(hl:xs.length<=n+6)(ok:∀x∈rs,x.nv)(hp:(plc rs).map (·.1)=xs.take n)(ht:((ths rs).map (·.1)).Perm (xs.drop n))(fl:∃m t,plc rs=(m,false,none)::t)
  (ks:∀x y,Ro.lk x y∈rs->y∈xs.drop n):Good rs:=by
 have hpl:(plc rs).length<=n:=by have:=BB List.length hp;rw[Ar,Cd]at this;lia
 have htl:(ths rs).length<=6:=by have:=ht.length_eq;rw[Ar,DY]at this;lia
 refine⟨ok,?_,fl,by lia,htl,λp h k e=>?_⟩
 ·refine(El rs).nodup_iff.mpr ?_;rw[hp];refine(EY _ ht).nodup_iff.mpr ?_;rw[C0];exact nd
 obtain⟨m,z⟩:=Iu h e
 exact ht.mem_iff.mpr (ks m k z)
def VU (F:Fun K "_law_room" "_law_room" E4 f fd)(DP:Df K mg "_law_pick" E7 Cz fP fdP)
  (DN:Df K mg "_law_names" Ie Cz fN fdN)(DL:Df K mg "_law_place_line" Kw K2 fL fdL)(T:Bl mg)
  (GP:FnOk P w K mg base CX0 1 fP fdP Cz (Gu K))(GN:FnOk P w K mg base CX0 2 fN fdN Cz (My K))(GL:FnOk P w K mg base CX0 2 fL fdL K2 (ME K)):FnOk P w K mg base CX0 3 f fd Nq (Ms K):=by
 refine F.oq scRoom λcdv A outer s H vs Q E hr h=>?_
 obtain⟨a,ns,p,m,rfl,hS,hn,p0,p1,m0,m1,q⟩:=h
 have hr1:Room 1 _:=hr.mono (by decide)
 have hu:=Dw hr
 have aa:sizeLine=16777216:=AM
 have tail:∃t,PSs (Cn CX0 P w K mg base QA "_law_room" (Aq E4) f cdv A outer s H E).nox ((Cm E4).drop 2) t /\
   ∀(l:Addr) (xs:List Str) (H2:Hp),Same H H2->H l=none->H2 l=some (.lst (xs.map V.str))->(xs.length:Int)=p+m->(∀x∈xs,Nv x)->xs.Nodup ->
    t { nx:=λ_ H'=>Q .non H',rt:=Q } [some (.ref a),some (.int p),some (.int m),some (.ref l),none,none,none,none,none,none] H2:=by
  refine⟨_,(Af (GC (i:=4) scRoom.nd rfl (EZ rfl) (Vs (Iq Av (DH FE (pv 3) DG (DF (pv 1))) (Iq Av (DH FE (pv 3) (DF (pv 1)) DG) (Iq Av IA (Iq Av IA (Iq Av IA Ve))))) rfl rfl (by decide) (by decide)))
  (Af (FP (i:=6) (N:=["_law_k", "_law_script", "_law_room_here", "_law_names_here"]) (sc:=Aq E4) (own:=["_law_k"]) (fr:=["_law_script", "_law_room_here", "_law_names_here"]) (js:=[0,4,3]) scRoom.nd rfl rfl Ci rfl (Ei (by rfl) T.range (Aa (pv 1) Ab)) (λ_ _ _ _=>Bm (i:=0) (show List.Nodup (["_law_k", "_law_script", "_law_room_here", "_law_names_here"]:List Str) by decide +kernel)) (λ_ _ _ _=>Ct) (λ_ _ _ _=>(AU GL hr (by rfl) DL.m DL.F.kp DL.b .nil Au (Aa (pv 1) (Aa (pv 0) (Aa (pv 2) (Aa (Az (Js K rfl) (pv 3) (pv 0) (λ_ _=>rfl)) Ab)))))))
  (Af (Ay (i:=7) scRoom.nd (Ax Fh (AU GN hr (by rfl) DN.m DN.F.kp DN.b .nil Au (Aa (pv 0) (Aa Ah (Aa Ah Ab)))) (Bh (Aa (Az Bb (pv 3) Ah (λ_ _=>rfl)) Ab))))
  (Af (CI Dj rfl (Ei (by rfl) T.range (Aa (pv 2) Ab)) (Bm (i:=5) scRoom.nd) (Af (Ay (i:=8) scRoom.nd (Az Bb (pv 3) (Ax Bv (pv 1) (pv 5)) (λ_ _=>rfl)))
  (Af (EH hu (CJ hu (pv 4) Av (λ_ _=>rfl)) (pv 8) (Az Bb (pv 7) (AU GP hr1 (by rfl) DP.m DP.F.kp DP.b .nil Au (Aa (pv 0) (Aa (Ax Bv Ah (pv 5)) (Aa Ah Ab)))) (λ_ _=>rfl)) rfl)
  (Af (Ay (i:=9) scRoom.nd (AU GP hr1 (by rfl) DP.m DP.F.kp DP.b .nil Au (Aa (pv 0) (Aa (Ax Bv Ah (pv 5)) (Aa (Ax Bv (AE Bq (by rfl) T.len A0 (Aa (pv 6) Ab)) Ah) Ab)))))
  (Am (Cs (B2 Ez OG PySem.F.type_list_insert QB (pv 6) (Aa (pv 9) (Aa (Ax CW (Ax CW (Ax CW Av (pv 8)) Av) (CJ hu (CJ hu (pv 4) Av (λ_ _=>rfl)) (pv 8) (λ_ _=>rfl))) Ab)))))))))
  (Af (EH hu (pv 4) Av (EI (N:=["_law_line"]) (sc:=Aq E4) (own:=["_law_line"]) (fr:=[]) (js:=[]) Ci rfl (BQ (pv 6)) (λ_ _ _ _=>Bm (i:=0) (show List.Nodup (["_law_line"]:List Str) by decide +kernel)) (λ_ _ _ _=>Vj (Cr (N9 K rfl (B2 DA PySem.F.slot_str_startswith PySem.F.type_str_startswith Yb (pv 0) (Aa Av Ab))))) (λ_ _ _ _=>(Az (Js K rfl) (N9 K rfl (B2 DA C6 Ec DQ (pv 0) (Aa Av Ab))) Ah (λ_ _=>rfl)))) rfl)
  (Af (EH hu (pv 4) Av (pv 6) rfl)
  (Am (AC (pv 4))))))))),?_⟩
  intro l xs H2 sm hl hl2 hxl hxs hnd
  have hml:(xs.map V.str).length=xs.length:=Ar ..
  obtain⟨pn,hpn⟩:∃pn:Nat,(pn:Int)=p:=⟨p.toNat,D0 (by lia)⟩
  obtain⟨mn,hmn⟩:∃mn:Nat,(mn:Int)=m:=⟨m.toNat,D0 (by lia)⟩
  have hS2:=sm.seq hS
  intro r hr2
  refine⟨_,rfl,_,rfl,_,rfl,l,_,rfl,SqL.of (by rw[Aj (AL hl2 hr2)];exact hl2),λpl hpl=>?_⟩
  obtain⟨a1,a2⟩:=BO hpl
  refine⟨_,rfl,_,rfl,_,rfl,l,_,rfl,SqL.of (by rw[Aj (AL hl2 a2),Aj (AL hl2 hr2)];exact hl2),λth hth=>?_⟩
  obtain⟨b1,b2⟩:=BO hth
  obtain⟨b3,b4⟩:=BO b2
  intro d1 hd1
  obtain⟨c1,c2⟩:=BO hd1
  obtain⟨c3,c4⟩:=BO c2
  obtain⟨c5,c6⟩:=BO c4
  intro d2 hd2
  obtain⟨e1,e2⟩:=BO hd2
  obtain⟨e3,e4⟩:=BO e2
  obtain⟨e5,e6⟩:=BO e4
  obtain⟨e7,e8⟩:=BO e6
  intro d3 hd3
  obtain⟨g1,g2⟩:=BO hd3
  obtain⟨g3,g4⟩:=BO g2
  obtain⟨g5,g6⟩:=BO g4
  obtain⟨g7,g8⟩:=BO g6
  obtain⟨g9,g10⟩:=BO g8
  have cut1:A5 (xs.map V.str) none (some p)=(xs.take pn).map V.str:=by
   rw[<- hpn]
   unfold A5
   rw[HT.sIx_none,HT.sIx_nat,JR,Lq,hml,Hr]
   congr 1
   lia
  have cut2:A5 (xs.map V.str) (some p) none=(xs.drop pn).map V.str:=by
   rw[<- hpn]
   unfold A5
   rw[HT.sIx_none,HT.sIx_nat,hml,Lr,Oh (by lia)]
   refine Fp ?_
   simp
  refine⟨by rw[Aj g9.symm,Aj e7.symm,Aj c5.symm,Aj b3.symm,Aj a1.symm];exact Ak,B1 pl th d1 d2 d3,rfl,by show 5<=15;decide,?_⟩
  rw[UL]
  have frH:∀{b:Addr},H2 b=none->H b=none:=λe=>sm.free e
  have sm3:∀b o,H2 b=some o->(Ac (Ac (Ac (Ac (Ac (Ac (Ac H2 r (.dK [])) pl (.lst (A5 (xs.map V.str) none (some p)))) th (.lst (A5 (xs.map V.str) (some p) none))) d1 (.dK [])) d2 (.dK [])) d3 (.dK [])) r (.dK (B1 pl th d1 d2 d3))) b=some o:=λb o e=>by
   rw[Aj (AL e hr2),Aj (AL e g10),Aj (AL e e8),Aj (AL e c6),Aj (AL e b4),Aj (AL e a2),Aj (AL e hr2)]
   exact e
  have M0:∀D,(Ac (Ac (Ac (Ac (Ac (Ac (Ac H2 r (.dK [])) pl (.lst (A5 (xs.map V.str) none (some p)))) th (.lst (A5 (xs.map V.str) (some p) none))) d1 (.dK [])) d2 (.dK [])) d3 (.dK [])) r (.dK (B1 pl th d1 d2 d3))) D=none ->
    Ap H r pl th d1 d2 d3 l D/\Mk H (Ac (Ac (Ac (Ac (Ac (Ac (Ac (Ac H2 r (.dK [])) pl (.lst (A5 (xs.map V.str) none (some p)))) th (.lst (A5 (xs.map V.str) (some p) none))) d1 (.dK [])) d2 (.dK [])) d3 (.dK [])) r (.dK (B1 pl th d1 d2 d3))) D (.lst [])) r pl th d1 d2 d3 l D xs pn [] 0:=λD hD=>by
   obtain⟨k1,k2⟩:=BO hD
   obtain⟨k3,k4⟩:=BO k2
   obtain⟨k5,k6⟩:=BO k4
   obtain⟨k7,k8⟩:=BO k6
   obtain⟨k9,k10⟩:=BO k8
   obtain⟨k11,k12⟩:=BO k10
   obtain⟨k13,k14⟩:=BO k12
   refine⟨⟨frH hr2,frH c6,frH e8,frH g10,hl,frH k14,c5.symm,e7.symm,g9.symm,e1.symm,g3.symm,g1.symm,k11,k9,λz=>by rw[z]at k14;rw[k14]at hl2;cases hl2⟩,?_⟩
   refine⟨λb o e=>by rw[Aj (AL (sm b o e) k14)];exact sm3 b o (sm b o e),by rw[Aj k1.symm];exact Ak,?_,?_,?_,?_,⟨[],?_,AA _,λ_ z=>nomatch z⟩,by rw[Aj (AL hl2 k14)];exact sm3 _ _ hl2,Ak,(λ_ z=>nomatch z),rfl,λ_ _ z=>nomatch z⟩
   ·rw[Aj k11.symm,Aj a1,Aj g7.symm,Aj e5.symm,Aj c3.symm,Aj b1.symm,Ak,cut1]
   ·rw[Aj k9.symm,Aj b3,Aj g5.symm,Aj e3.symm,Aj c1.symm,Ak,cut2]
   ·rw[Aj k7.symm,Aj c5,Aj g3.symm,Aj e1.symm,Ak]
    rfl
   ·rw[Aj k5.symm,Aj e7,Aj g1.symm,Ak]
    rfl
   rw[Aj k3.symm,Aj g9,Ak]
  generalize (Ac (Ac (Ac (Ac (Ac (Ac (Ac H2 r (.dK [])) pl (.lst (A5 (xs.map V.str) none (some p)))) th (.lst (A5 (xs.map V.str) (some p) none))) d1 (.dK [])) d2 (.dK [])) d3 (.dK [])) r (.dK (B1 pl th d1 d2 d3)))=H3 at M0 sm3 ⊢
  refine⟨_,rfl,p,rfl,by lia,by lia,λD hD=>?_⟩
  obtain⟨ap,m0'⟩:=M0 D hD
  refine Cj (n:=p.toNat) (λi ys H4=>∃rs:List Ro,ys=(rs.map Ro.txt).map V.str/\rs.map Ro.name=xs.take i/\(∀ro∈rs,ro.isP=true)/\(rs=[]\/∃x t,rs=.pl x::t)/\Mk H H4 r pl th d1 d2 d3 l D xs pn rs i) ⟨[],rfl,rfl,(λ_ z=>nomatch z),.inl rfl,m0'⟩ (λi _ _ hi _=>hi) (λ_ _ _=>AA _) ?_ ?_
  ·rintro i ys H4 x H5 hi ⟨rs,rfl,hnm,hisP,hfl,M⟩ ⟨rfl,rfl⟩
   refine Cu ?_
   obtain⟨x,hxm,hxi,hat⟩:=JC (xs:=xs) (j:=0+(i:Int)) (by lia) (by lia)
   have hxi':xs[i]? = some x:=by
    rw[show(0+(i:Int)).toNat=i by lia]at hxi
    exact hxi
   have hil:i<xs.length:=(AK.mp hxi').1
   have htk:xs.take (i+1)=xs.take i++[x]:=by
    rw[CD hil]
    congr 2
    exact(AK.mp hxi').2
   have hxn:x∉rs.map Ro.name:=by
    rw[hnm]
    have nd2:(xs.take (i+1)).Nodup:=LF (JL _ _) hnd
    rw[htk]at nd2
    intro z
    exact((Eu.mp nd2).2.2 x z x (AW.mpr rfl)) rfl
   obtain⟨L3,q3,z3,w3⟩:=M.l3
   have b1:=Jm rs
   have b2:=Jp rs
   have bl:=M.len
   refine⟨_,rfl,_,rfl,_,rfl,_,rfl,_,rfl,l,_,_,_,rfl,rfl,SqL.of M.nm,hat,?_⟩
   refine⟨a,ns,_,r,pl,th,d1,d2,d3,x,xs.drop pn,Bw rs,BD rs,rfl,M.sm.seq hS,hn,by lia,by lia,hxs x hxm,M.room,M.th,λy hy=>hxs y (LN hy),by rw[DY];lia,M.l1,M.l2,by lia,by lia,ap.r1,ap.r2,ap.n12,G9 hxn,FZ hxn,λro H6 hro hP hnv hk0 hkt u1 u2 kp=>?_⟩
   have nD1:D≠d1:=Ck M.ln M.l1
   have nD2:D≠d2:=Ck M.ln M.l2
   have nD3:D≠d3:=Ck M.ln q3
   have nDr:D≠r:=Ck M.ln M.room
   have th0:=(Ir hisP).2
   have th1:ths (rs++[ro])=[]:=by
    rw[Do,th0]
    cases ro with
    | th n s=>cases hP
    | _=>rfl
   refine⟨_,kp D _ M.ln nD1 nD2,by rw[Ar,Ar];lia,rs++[ro],by simp,by rw[B5,hnm,htk];show _++[ro.name]=_;rw[hro],λy hy=>?_,?_,?_⟩
   ·rcases(Cc.mp hy)with z | z
    ·exact hisP y z
    rw[AW.mp z];exact hP
   ·refine .inr ?_
    rcases hfl with z | ⟨x0,t,z⟩
    ·rw[z]
     have hi0:i=0:=by
      have:=BB List.length hnm
      rw[z,Ar,Cd]at this
      simp at this
      lia
     exact⟨x,[],by rw[hk0 (by lia)];rfl⟩
    exact⟨x0,t++[ro],by rw[z];rfl⟩
   refine⟨λb o e=>?_,?_,?_,?_,?_,?_,⟨L3,by rw[Aj nD3.symm];exact kp _ _ q3 ap.n13.symm ap.n23.symm,by lia,by rw[th1];exact λ_ z=>nomatch z⟩,?_,by rw[Ak];simp,λz hz=>?_,by rw[AX,bl];rfl,λy z hz=>?_⟩
   ·rw[Aj (AL e ap.fD)]
    exact kp b o (M.sm b o e) (AL e ap.f1) (AL e ap.f2)
   ·rw[Aj nDr.symm]
    exact kp _ _ M.room ap.r1 ap.r2
   ·rw[Aj ap.Dp.symm]
    exact kp _ _ M.pl (Ck M.pl M.l1) (Ck M.pl M.l2)
   ·rw[Aj ap.Dt.symm]
    exact kp _ _ M.th (Ck M.th M.l1) (Ck M.th M.l2)
   ·rw[Aj nD1.symm,FV]
    exact u1
   ·rw[Aj nD2.symm,F0]
    exact u2
   ·rw[Aj ap.Dl.symm]
    exact kp _ _ M.nm (Ck M.nm M.l1) (Ck M.nm M.l2)
   ·rcases(Cc.mp hz)with hz | hz
    ·exact M.ok z hz
    rw[AW.mp hz];exact hnv
   rcases(Cc.mp hz)with hz | hz
   ·exact M.ks y z hz
   have e:=AW.mp hz
   have ey:y=x:=by rw[<- hro,<- e];rfl
   subst ey
   exact hkt z e.symm
  rintro ys H4 ⟨rs,rfl,hnm,hisP,hfl,M⟩
  have hpt:p.toNat=pn:=by lia
  rw[hpt]at hnm M
  refine⟨_,rfl,a,ns,_,_,rfl,M.sm.seq hS,hn,by decide,by decide,by decide,by decide,λl2 zs H5 s5 f5 e5 hz5 hzn hznd=>?_⟩
  obtain⟨x0,hx0,_,hat0⟩:=JC (xs:=xs) (j:=0) (by decide) (by lia)
  refine⟨_,rfl,l,_,_,_,rfl,rfl,SqL.of (s5 _ _ M.nm),hat0,by show 1<=sizeLine;decide,λl3 hl3=>?_⟩
  refine⟨l2,l3,_,_,rfl,rfl,by rw[Aj (AL e5 hl3)];exact e5,Ak,by rw[Ar];show zs.length+1<=sizeLine;lia,λsh hsh=>?_⟩
  obtain⟨y1,y2⟩:=BO hsh
  have s6:∀b o,H4 b=some o->(Ac (Ac H5 l3 (.lst [V.str x0])) sh (.lst (zs.map V.str++[V.str x0]))) b=some o:=λb o e=>by
   rw[Aj (AL (s5 b o e) y2),Aj (AL (s5 b o e) hl3)]
   exact s5 b o e
  have M6:Mk H (Ac (Ac H5 l3 (.lst [V.str x0])) sh (.lst (zs.map V.str++[V.str x0]))) r pl th d1 d2 d3 l D xs pn rs (pn+0):=by
   obtain⟨L3,q3,z3,w3⟩:=M.l3
   exact⟨λb o e=>s6 b o (M.sm b o e),s6 _ _ M.room,s6 _ _ M.pl,s6 _ _ M.th,s6 _ _ M.l1,s6 _ _ M.l2,⟨L3,s6 _ _ q3,by lia,w3⟩,s6 _ _ M.nm,s6 _ _ M.ln,M.ok,M.len,M.ks⟩
  have hsh6:(Ac (Ac H5 l3 (.lst [V.str x0])) sh (.lst (zs.map V.str++[V.str x0]))) sh=some (.lst ((zs++[x0]).map V.str)):=by rw[Ak];simp
  have hss:∀z∈zs++[x0],Nv z:=λz hz=>by
   rcases(Cc.mp hz)with hz | hz
   ·exact hzn z hz
   rw[AW.mp hz];exact hxs x0 hx0
  have hsl4:(zs++[x0]).length=4:=by rw[AX];show zs.length+1=4;lia
  generalize (Ac (Ac H5 l3 (.lst [V.str x0])) sh (.lst (zs.map V.str++[V.str x0])))=H6 at M6 hsh6 ⊢
  generalize zs++[x0]=ss at hsh6 hss hsl4
  have fsh:sh≠D:=λz=>by
   have:=s5 _ _ M.ln
   rw[<- z,y2]at this
   cases this
  have fsd:sh≠d3:=λz=>by
   obtain⟨L3,q3,_⟩:=M.l3
   have:=s5 _ _ q3
   rw[<- z,y2]at this
   cases this
  have BP:=Ir hisP
  have hfl':∃n t,plc rs=(n,false,none)::t:=by
   rcases hfl with z | ⟨x,t,z⟩
   ·have:=M.len
    rw[z]at this
    simp at this
    lia
   exact⟨x,plc t,by rw[z];rfl⟩
  refine⟨_,rfl,m,rfl,by lia,by lia,Hh (n:=m.toNat) (λi σ H7=>∃(v5 v8 v9:Option V) (rs':List Ro),
   σ = [some (.ref a),some (.int p),some (.int m),some (.ref l),some (.ref r),v5,some (.ref D),some (.ref sh),v8,v9]/\plc rs'=plc rs/\((ths rs').map (·.1)).Perm ((xs.drop pn).take i)/\Mk H H7 r pl th d1 d2 d3 l D xs pn rs' (pn+i)/\H7 sh=some (.lst (ss.map V.str)))
   ⟨none,none,none,rs,rfl,rfl,by rw[BP.2];exact .nil,M6,hsh6⟩ ?_ ?_⟩
  ·rintro i σ H7 hi ⟨v5,v8,v9,rs',rfl,hpl',hth',M,hsh7⟩
   obtain⟨x,hxm,hxi,hat⟩:=JC (xs:=xs) (j:=p+(0+(i:Int))) (by lia) (by lia)
   have hxN:=hxs x hxm
   have hxL:=hxN.len
   have hxi':(xs.drop pn)[i]? = some x:=by
    rw[LH]
    rw[show(p+(0+(i:Int))).toNat=pn+i by lia]at hxi
    exact hxi
   have hil:i<(xs.drop pn).length:=(AK.mp hxi').1
   have htk:(xs.drop pn).take (i+1)=(xs.drop pn).take i++[x]:=by
    rw[CD hil]
    congr 2
    exact(AK.mp hxi').2
   have hxn:x∉(xs.drop pn).take i:=by
    have nd2:((xs.drop pn).take (i+1)).Nodup:=LF ((JL _ _).trans (List.drop_sublist _ _)) hnd
    rw[htk]at nd2
    intro z
    exact((Eu.mp nd2).2.2 x z x (AW.mpr rfl)) rfl
   obtain⟨L3,q3,z3,w3⟩:=M.l3
   have bl:=M.len
   have hS7:=M.sm.seq hS
   refine⟨_,rfl,_,rfl,_,rfl,_,_,rfl,rfl,l,_,_,_,rfl,rfl,SqL.of M.nm,hat,?_⟩
   refine⟨_,rfl,_,rfl,_,rfl,_,_,rfl,rfl,a,ns,_,_,rfl,hS7,hn,by lia,by lia,by decide,λj j0 j1=>?_⟩
   obtain⟨y,hym,_,hay⟩:=JC (xs:=ss) (j:=j) j0 (by lia)
   have hyN:=hss y hym
   have hyL:=hyN.len
   refine⟨sh,_,_,_,rfl,rfl,SqL.of hsh7,hay,_,rfl,r,_,rfl,CN M.room (Na _ _ _ _ _),_,rfl,d3,_,rfl,DPut.k (k:=(Sum.inr x:Ag)) q3 (by lia),?_⟩
   have kp:∀b o,H7 b=some o->b≠d3->(Ac H7 d3 (.dK (BW L3 (Sum.inr x) (V.str y)))) b=some o:=λb o e hb=>by rw[Aj hb];exact e
   have nD3:D≠d3:=Ck M.ln q3
   have lnK:=kp _ _ M.ln nD3
   have sK:=Pz (K:=K) hS7 kp q3
   have z3':=Jn L3 (Sum.inr x:Ag) (V.str y)
   have hlm:((rs'.map Ro.txt).map V.str).length=rs'.length:=by rw[Ar,Ar]
   refine⟨_,rfl,_,rfl,_,_,rfl,rfl,_,rfl,_,_,rfl,.inl ⟨_,SqL.of lnK,rfl⟩,_,_,rfl,rfl,a,ns,_,_,rfl,sK,hn,by lia,by lia,by lia,λat' a0 a1=>?_⟩
   rw[hlm]at a1
   have t1:("thing " : Str).length=6:=by decide +kernel
   have t2:(" " : Str).length=1:=by decide +kernel
   have hv:Aw (BW L3 (Sum.inr x:Ag) (V.str y)) (Sum.inr x:Ag)=some (V.str y):=by rw[Dc,As rfl]
   refine⟨_,rfl,.inl ⟨rfl,_,SqL.of lnK⟩,_,rfl,_,rfl,_,_,rfl,rfl,by rw[t1];lia,_,_,rfl,rfl,by rw[CB,t1,t2];lia,_,rfl,r,_,rfl,CN (kp _ _ M.room ap.r3) (Na _ _ _ _ _),_,rfl,d3,_,rfl,CN Ak hv,
    _,_,rfl,rfl,by rw[CB,CB,t1,t2];lia,D,_,_,_,rfl,rfl,a0,by rw[hlm];lia,lnK,by rw[hlm];lia,?_⟩
   have nDr:D≠r:=Ck M.ln M.room
   have thp:=SY rs' at'.toNat x y
   refine⟨_,_,_,rs'.take at'.toNat++(.th x y::rs'.drop at'.toNat),rfl,by rw[Vg];exact hpl',?_,?_,?_⟩
   ·rw[htk]
    refine(thp.map (·.1)).trans ?_
    rw[Bj]
    exact(Lv x hth').trans (OO x _).symm
   ·refine⟨λb o e=>?_,?_,?_,?_,?_,?_,⟨_,by rw[Aj nD3.symm];exact Ak,by lia,λz hz=>?_⟩,?_,?_,λz hz=>?_,?_,λu v huv=>?_⟩
    ·rw[Aj (AL e ap.fD)]
     exact kp b o (M.sm b o e) (AL e ap.f3)
    ·rw[Aj nDr.symm]
     exact kp _ _ M.room ap.r3
    ·rw[Aj ap.Dp.symm]
     exact kp _ _ M.pl (Ck M.pl q3)
    ·rw[Aj ap.Dt.symm]
     exact kp _ _ M.th (Ck M.th q3)
    ·rw[Aj (Ck M.ln M.l1).symm,Yp]
     exact kp _ _ M.l1 ap.n13
    ·rw[Aj (Ck M.ln M.l2).symm,YA]
     exact kp _ _ M.l2 ap.n23
    ·rcases AD.mp (thp.mem_iff.mp hz)with e | e
     ·rw[e]
      exact hv
     have hne:z.1≠x:=λez=>hxn (hth'.mem_iff.mp (B0.mpr ⟨z,e,ez⟩))
     rw[Dc,Ai (Bz hne)]
     exact w3 z e
    ·rw[Aj ap.Dl.symm]
     exact kp _ _ M.nm (Ck M.nm q3)
    ·rw[Ak]
     simp[Hr,Lr]
     rfl
    ·rcases(Cc.mp hz)with hz | hz
     ·exact M.ok z (Lw hz)
     rcases(AD.mp hz)with hz | hz
     ·rw[hz]
      exact⟨hxN,hyN⟩
     exact M.ok z (LN hz)
    ·rw[AX,Cp,Cd,DY]
     lia
    rcases(Cc.mp huv)with hz | hz
    ·exact M.ks u v (Lw hz)
    rcases(AD.mp hz)with hz | hz
    ·cases hz
    exact M.ks u v (LN hz)
   rw[Aj fsh]
   exact kp _ _ hsh7 fsd
  rintro σ H7 ⟨v5,v8,v9,rs',rfl,hpl',hth',M,hsh7⟩
  have hdl:(xs.drop pn).length<=m.toNat:=by rw[DY];lia
  rw[Fp hdl]at hth'
  have G:Good rs':=Y6 hnd (by lia) (by lia) M.ok (by rw[hpl',BP.1];exact hnm) hth' (by rw[hpl'];exact hfl') M.ks
  refine⟨_,rfl,D,rfl,⟨_,SqL.of M.ln⟩,λD2 hD2=>?_⟩
  have hll:((rs'.map Ro.txt).map V.str).length=rs'.length:=by rw[Ar,Ar]
  have bl:=M.len
  refine Cj (n:=rs'.length) (λi ys H8=>ys=((ths (rs'.take i)).map (·.1)).map V.str/\Same H7 H8/\H8 D2=some (.lst ys)) ⟨rfl,Same.new hD2,Ak⟩
   (λi ys H8 hi hh0=>by obtain⟨_,s8,_⟩:=hh0;exact⟨_,.str rs'[i].txt,SqL.of (s8 _ _ M.ln),by simp[hi]⟩) (λys H8 hh0=>by obtain⟨_,s8,_⟩:=hh0;exact⟨_,SqL.of (s8 _ _ M.ln),by simp⟩) ?_ ?_
  ·rintro i ys H8 x H9 hi ⟨rfl,s8,hD8⟩ ⟨rfl,hx⟩
   have hx1:=hx _ (SqL.of (s8 _ _ M.ln))
   have hx2:x=.str rs'[i].txt:=by
    rw[A6,A6,Bi hi]at hx1
    exact(Bx hx1).symm
   subst hx2
   have hnv:=M.ok _ (Dy hi)
   have hLl:=O7 hnv
   have htk:rs'.take (i+1)=rs'.take i++[rs'[i]]:=CD hi
   have hle:(((ths (rs'.take i)).map (·.1)).map V.str).length<sizeLine:=by
    have h1:=Ys (rs'.take i)
    rw[Cd]at h1
    rw[Ar,Ar]
    lia
   generalize rs'[i]=ro at hnv hLl htk
   refine⟨_,rfl,rfl,_,_,rfl,rfl,_,rfl,?_⟩
   have hst:=TY ro
   refine A4 (λhs=>?_) (λhs=>⟨?_,s8,hD8⟩)
   ·rw[show Txt.startswith ro.txt (Str.ofString "thing ")=!ro.isP from hst]at hs
    refine⟨_,rfl,rfl,_,_,rfl,rfl,by decide +kernel,by lia,λp3 hp3=>?_⟩
    have hsp:=Pm hnv
    obtain⟨n,sh',rfl⟩:∃n s,ro=.th n s:=by
     cases ro with
     | th n s=>exact⟨n,s,rfl⟩
     | _=>exact absurd (show false=true from hs) Br
    have hay:AB ((Txt.split (Ro.th n sh').txt Bt).map V.str) ((1:Nat):Int)=some (.str n):=AO (by rw[hsp];rfl)
    refine⟨p3,_,_,_,rfl,rfl,SqL.of Ak,hay,_,by rw[Aj (AL hD8 hp3)];exact hD8,hle,?_,(s8.trans (Same.new hp3)).put hD2,Ak⟩
    rw[htk,Do,B5,B5]
    rfl
   rw[show Txt.startswith ro.txt (Str.ofString "thing ")=!ro.isP from hst]at hs
   have:ths (rs'.take (i+1))=ths (rs'.take i):=by
    rw[htk,Do]
    cases ro with
    | th n s=>exact absurd rfl hs
    | _=>exact CP _
   rw[this]
  rintro ys H8 ⟨rfl,s8,hD8⟩
  rw[Dx]at hD8
  refine⟨_,rfl,r,_,rfl,DPut.k (k:=(Sum.inr "things" : Ag)) (s8 _ _ M.room) (by show 5<sizeLine;decide),?_⟩
  have z9:=Jn (B1 pl th d1 d2 d3) (Sum.inr "things" : Ag) (V.ref D2)
  refine⟨_,rfl,_,rfl,r,_,rfl,DPut.k (k:=(Sum.inr "lines" : Ag)) Ak (by show _<sizeLine;have:(B1 pl th d1 d2 d3).length=5:=rfl;lia),?_⟩
  obtain⟨L3,q3,z3,w3⟩:=M.l3
  have nr2:D2≠r:=λz=>by rw[z]at hD2;rw[M.room]at hD2;cases hD2
  have up:∀(u v:HO) b o,H7 b=some o->b≠r->Ac (Ac H8 r u) r v b=some o:=λu v b o e hb=>by rw[Aj hb,Aj hb];exact s8 b o e
  have hplr:(plc rs').map (·.1)=xs.take pn:=by rw[hpl',BP.1];exact hnm
  have hc1:=BB List.length hplr
  rw[Ar,Cd]at hc1
  have hc2:=hth'.length_eq
  rw[Ar,DY]at hc2
  refine⟨_,rfl,q r rs' _ (λb o e=>up _ _ b o (M.sm b o e) (AL e ap.fr)) ⟨⟨_,L3,pl,D2,d1,d2,d3,D,Ak,?_,?_,?_,?_,?_,?_,?_,?_,up _ _ _ _ M.l1 ap.r1.symm,up _ _ _ _ M.l2 ap.r2.symm,up _ _ _ _ q3 ap.r3.symm,up _ _ _ _ M.ln (Ck M.ln M.room),w3⟩,G⟩ (by lia) (by lia) (by lia)⟩
  ·rw[Dc,Ai (Bz (by decide +kernel)),Dc,Ai (Bz (by decide +kernel))]
   exact UK _ _ _ _ _
  ·rw[Dc,Ai (Bz (by decide +kernel)),Dc,As rfl]
  ·rw[Dc,Ai (Bz (by decide +kernel)),Dc,Ai (Bz (by decide +kernel))]
   exact PM _ _ _ _ _
  ·rw[Dc,Ai (Bz (by decide +kernel)),Dc,Ai (Bz (by decide +kernel))]
   exact PN _ _ _ _ _
  ·rw[Dc,Ai (Bz (by decide +kernel)),Dc,Ai (Bz (by decide +kernel))]
   exact Na _ _ _ _ _
  ·rw[Dc,As rfl]
  ·rw[hplr]
   exact up _ _ _ _ M.pl (Ck M.pl M.room)
  rw[Aj nr2,Aj nr2]
  exact hD8
 obtain⟨tt,ht,rt⟩:=tail
 refine⟨_,Af (GC (i:=3) scRoom.nd rfl (EZ rfl) (AU GN hr (by rfl) DN.m DN.F.kp DN.b .nil Au (Aa (pv 0) (Aa Ah (Aa (Ax Bv (pv 1) (pv 2)) Ab))))) (Af (AH (AI A9 (AU GP hr1 (by rfl) DP.m DP.F.kp DP.b .nil Au (Aa (pv 0) (Aa Ah (Aa Ah Ab)))) Ah (AJ _)) (Am (Cs (Qn Ez PySem.F.slot_list_reverse PySem.F.type_list_reverse Yc (pv 3)))) AG) ht),?_⟩
 refine⟨_,rfl,_,rfl,_,rfl,_,_,rfl,rfl,a,ns,_,_,rfl,hS,hn,by decide,by decide,by lia,by lia,λl xs H2 sm hl hl2 hxl hxs hnd=>?_⟩
 refine⟨_,rfl,a,ns,_,_,rfl,sm.seq hS,hn,by decide,by decide,by decide,λb b0 b1=>⟨rfl,_,rfl,?_⟩⟩
 refine A4 (λ_=>?_) (λ_=>?_)
 ·refine⟨_,rfl,.inl ⟨rfl,_,SqL.of hl2⟩,l,_,rfl,rfl,hl2,?_⟩;exact rt l xs.reverse _ (sm.put hl) hl (by rw[Ak,List.map_reverse]) (by rw[LL];lia) (λx hx=>hxs x (List.mem_reverse.mp hx)) ((Oj xs).nodup_iff.mpr hnd)
 exact rt l xs H2 sm hl hl2 hxl hxs hnd
structure Wl where
 hand:Option Str
 heaps:List (List Str)
 lids:List Str
 deriving DecidableEq
def dO:Option Str->PyData
 | none=>.none
 | some x=>.str x
def dH (xs:List Str):PyData:=.tuple (xs.map PyData.str)
def dW (W:Wl):PyData:=.tuple [dO W.hand,.tuple (W.heaps.map dH),.tuple (W.lids.map PyData.str)]
def Sz (W:Wl)(n:Nat):Prop:=W.heaps.length=n/\W.lids.length=n
structure Ok (W:Wl):Prop where
 hand:∀x∈W.hand,Sk x
 heaps:∀h∈W.heaps,∀x∈h,Sk x
 lids:∀x∈W.lids,Sk x
 few:∀h∈W.heaps,h.length<=100
def parts (h:RdV H v (dW W)):∃(a:Addr) (v0:V) (b c:Addr) (xs ys:List V),v=.ref a/\H a=some (.tup [v0,.ref b,.ref c])/\RdV H v0 (dO W.hand) /\
  H b=some (.tup xs)/\RdVs H xs (W.heaps.map dH)/\H c=some (.tup ys)/\RdVs H ys (W.lids.map PyData.str):=by
 unfold dW at h
 cases h with
 | tup e rs=>
  cases rs with
  | cons r0 rs=>
   cases rs with
   | cons r1 rs=>
    cases rs with
    | cons r2 rs=>
     cases rs;cases r1 with
     | tup e1 s1=>
      cases r2 with
      | tup e2 s2=>exact⟨_,_,_,_,_,_,rfl,e,r0,e1,s1,e2,s2⟩
def DC (e:H a=some (.tup [v0,.ref b,.ref c]))(r0:RdV H v0 (dO W.hand))(e1:H b=some (.tup xs))(s1:RdVs H xs (W.heaps.map dH))(e2:H c=some (.tup ys))(s2:RdVs H ys (W.lids.map PyData.str)) :
  RdV H (.ref a) (dW W):=.tup e (.cons r0 (.cons (.tup e1 s1) (.cons (.tup e2 s2) .nil)))
def BN {α:Type}{xs:List α}{i:Nat}{v:α}(h:xs[i]? = some v):AB xs (0+(i:Int))=some v:=by rw[Hx];exact AO h
def oV:Option Str->V
 | none=>.non
 | some x=>.str x
theorem UX :∀o:Option Str,RdV H (oV o) (dO o)
 | none=>.non
 | some x=>.str x
abbrev Np:List Str:=["_law_script", "_law_k", "_law_room_here"]
structure Fw (rs:List Ro)(W:Wl):Prop where
 perm:(W.hand.toList++W.heaps.flatten).Perm ((ths rs).map (·.1))
 lids:∀(i:Nat) p l,(plc rs)[i]? = some p->W.lids[i]? = some l->Lo p l
def Yl (h:Lo p l):Sk l:=by rcases h with h | ⟨h,_⟩ | ⟨h,_⟩ <;> (rw[h];exact⟨by decide +kernel,by decide +kernel⟩)
def Fw.ok (g:Good rs)(f:Fw rs W)(sz:Sz W (plc rs).length):Ok W:=by
 have hm:∀x∈W.hand.toList++W.heaps.flatten,Sk x:=λx hx=>WY (QV g (ND (f.perm.mem_iff.mp hx)));refine⟨λx hx=>hm x (F4 _ (by rw[Option.mem_toList];exact hx)),λh hh x hx=>hm x (CQ _ (List.mem_flatten.mpr ⟨h,hh,hx⟩)),λl hl=>?_,λh hh=>?_⟩
 ·obtain⟨i,hi⟩:=Gk hl;have hlt:=(AK.mp hi).1;exact Yl (f.lids i _ l (Bi (by have:=sz.2;lia)) hi)
 have h1:=NH hh;have h2:=f.perm.length_eq;rw[AX,Ar]at h2;have:=g.fewT;lia
inductive Mi (K:W.Frag)(vs:List V)(H:Hp)(Q:VK)(E0_:XK):Prop
 | mk (a:Addr) (ns:List Int) (k:Int) (r:Addr) (rs:List Ro) (c0:vs=[.ref a,.int k,.ref r]) (c1:SqL K H a (ns.map V.int)) (c2:ns.length<=63) (c3:0<=k) (c4:k<100000) (c5:RmS H r rs) (c6:1<=(plc rs).length) (c7:∀(v:V) (W:Wl) (H':Hp),Same H H'->RdV H' v (dW W)->Sz W (plc rs).length->Fw rs W->Q v H'):Mi K vs H Q E0_
structure Hs (H H2:Hp)(D:Addr)(hs:List Addr)(xss:List (List Str)):Prop where
 len:hs.length=xss.length
 lst:H2 D=some (.lst (hs.map V.ref))
 nd:hs.Nodup
 fr:∀h∈hs,H h=none/\h≠D
 at':∀(i:Nat) h xs,hs[i]? = some h->xss[i]? = some xs->H2 h=some (.lst (xs.map V.str))
def Hs.same (S:Hs H H2 D hs xss)(s:Same H2 H3):Hs H H3 D hs xss:=
 ⟨S.len,s _ _ S.lst,S.nd,S.fr,λi h xs a b=>s _ _ (S.at' i h xs a b)⟩
def Hs.has (S:Hs H H2 D hs xss) (hh:h∈hs):∃o,H2 h=some o:=by obtain⟨i,hi⟩:=Gk hh;have hlt:=(AK.mp hi).1;exact⟨_,S.at' i h _ hi (Bi (by have:=S.len;lia))⟩
def Hs.off (S:Hs H H2 D hs xss)(n1:l≠D)(n2:∀h∈hs,l≠h):Hs H (Ac H2 l o) D hs xss:=
 ⟨S.len,by rw[Aj n1.symm];exact S.lst,S.nd,S.fr,λi h xs a b=>by rw[Aj (n2 h (BE a)).symm];exact S.at' i h xs a b⟩
def Hs.put (S:Hs H H2 D hs xss) {new:List Str}(hj:hs[j]? = some h):Hs H (Ac H2 h (.lst (new.map V.str))) D hs (xss.set j new):=by
 have hne:=(S.fr h (BE hj)).2;refine⟨by rw[ET];exact S.len,by rw[Aj hne.symm];exact S.lst,S.nd,S.fr,λi g xs a b=>?_⟩;have hjl:=(AK.mp hj).1;by_cases e:j=i
 ·subst e;rw[hj]at a;cases a;rw[Gb (by have:=S.len;lia)]at b;cases b;exact Ak
 rw[F7 e]at b;have hgh:g≠h:=λz=>by subst z;have hil:=(AK.mp a).1;have e1:=(AK.mp a).2;have e2:=(AK.mp hj).2;exact e ((Hv S.nd).mp (e2.trans e1.symm))
 rw[Aj hgh];exact S.at' i g xs a b
abbrev W8:List Str:=["_law_script", "_law_k", "_law_room_here", "_law_heaps", "_law_hand", "_law_i", "_law_thing", "_law_where", "_law_heap", "_law_lids_here", "_law_some"]
def scWorld:AF W8 Np (Aq Gz):=AN
def VF (F:Fun K "_law_world" "_law_world" Gz f fd)(DP:Df K mg "_law_pick" E7 Cz fP fdP)(DL:Df K mg "_law_lids" Kx K3 fL fdL)(T:Bl mg)(GP:FnOk P w K mg base CX0 1 fP fdP Cz (Gu K))(GL:FnOk P w K mg base CX0 1 fL fdL K3 MF) :
  FnOk P w K mg base CX0 2 f fd Np (Mi K):=by
 refine F.oq scWorld λcdv A outer s H vs Q E hr h=>?_
 obtain⟨a,ns,k,r,rs,rfl,hS,hn,k0,k1,R,p0',q⟩:=h
 have hu:=Dw hr
 have aa:sizeLine=16777216:=AM
 refine⟨_,(Af (FP (i:=3) (N:=["_law_place"]) (sc:=Aq Gz) (own:=["_law_place"]) (fr:=[]) (js:=[]) scWorld.nd rfl rfl Ci rfl (BQ (CJ hu (pv 2) Av (λ_ _=>rfl))) (λ_ _ _ _=>Bm (i:=0) (show List.Nodup (["_law_place"]:List Str) by decide +kernel)) (λ_ _ _ _=>Ct) (λ_ _ _ _=>Bh Ab)) (Af (Ay (i:=4) scWorld.nd Ej) (Af (CI Dj rfl (Ei (by rfl) T.range (Aa (AE Bq (by rfl) T.len A0 (Aa (CJ hu (pv 2) Av (λ_ _=>rfl)) Ab)) Ab)) (Bm (i:=5) scWorld.nd) (Af (Ay (i:=6) scWorld.nd (Az Bb (CJ hu (pv 2) Av (λ_ _=>rfl)) (pv 5) (λ_ _=>rfl))) (Af (Ay (i:=7) scWorld.nd (AU GP hr (by rfl) DP.m DP.F.kp DP.b .nil Au (Aa (pv 0) (Aa (Ax Bv (pv 1) (pv 5)) (Aa (Ax Bv (AE Bq (by rfl) T.len A0 (Aa (pv 3) Ab)) Ah) Ab))))) (Am (AH (PW.pt (Nh (AI A9 (pv 7) (AE Bq (by rfl) T.len A0 (Aa (pv 3) Ab)) (AJ _)) (Ng (AI Qt (pv 4) Ej (AJ _))))) (Am (Ay (i:=4) scWorld.nd (pv 6))) (Af (Ay (i:=8) scWorld.nd (Az Bb (pv 3) (Ax Ek (pv 7) (AE Bq (by rfl) T.len A0 (Aa (pv 3) Ab))) (λ_ _=>rfl))) (Am (Cs (B2 Ez OG PySem.F.type_list_insert QB (pv 8) (Aa (AU GP hr (by rfl) DP.m DP.F.kp DP.b .nil Au (Aa (pv 0) (Aa (Ax Bv (Ax Bv (pv 1) Ah) (pv 5)) (Aa (Ax Bv (AE Bq (by rfl) T.len A0 (Aa (pv 8) Ab)) Ah) Ab)))) (Aa (pv 6) Ab))))))))))) (Af (Ay (i:=9) scWorld.nd (Bh Ab)) (Af (CI Dj rfl (Ei (by rfl) T.range (Aa (AE Bq (by rfl) T.len A0 (Aa (pv 3) Ab)) Ab)) (Bm (i:=5) scWorld.nd) (Af (Ay (i:=10) scWorld.nd (AU GL hr (by rfl) DL.m DL.F.kp DL.b .nil Au (Aa (pv 2) (Aa (Az Bb (CJ hu (pv 2) Av (λ_ _=>rfl)) (pv 5) (λ_ _=>rfl)) Ab)))) (Am (Cs (B2 Ez JG LX G4 (pv 9) (Aa (Az Bb (pv 10) (AU GP hr (by rfl) DP.m DP.F.kp DP.b .nil Au (Aa (pv 0) (Aa (Ax Bv (Ax Bv (pv 1) Ah) (pv 5)) (Aa (AE Bq (by rfl) T.len A0 (Aa (pv 10) Ab)) Ab)))) (λ_ _=>rfl)) Ab)))))) (Am (AC (BR (Aa (pv 4) (Aa (Dq N3 (by rfl) T.tuple Lk (Aa (EI (N:=["_law_heap"]) (sc:=Aq Gz) (own:=["_law_heap"]) (fr:=[]) (js:=[]) Ci rfl (BQ (pv 3)) (λ_ _ _ _=>Bm (i:=0) (show List.Nodup (["_law_heap"]:List Str) by decide +kernel)) (λ_ _ _ _=>Ct) (λ_ _ _ _=>(Dq (ZS K rfl) (by rfl) T.tuple Lk (Aa (pv 0) Ab)))) Ab)) (Aa (Dq N3 (by rfl) T.tuple Lk (Aa (pv 9) Ab)) Ab))))))))))),?_⟩
 have g:=R.good
 obtain⟨kvs,L3,pl,th,d1,d2,d3,DD,h1,h2,h3,h4,h5,hb1,hb2,h6,h7,h8,h9,hb3,hb4,hb5⟩:=R.ex
 obtain⟨ps,hps⟩:∃ps,ps=(plc rs).map (·.1):=⟨_,rfl⟩
 obtain⟨ts,hts⟩:∃ts,ts=(ths rs).map (·.1):=⟨_,rfl⟩
 have hpl:ps.length=(plc rs).length:=by rw[hps,Ar]
 have htl:ts.length=(ths rs).length:=by rw[hts,Ar]
 have p0:1<=ps.length:=by lia
 have p1:ps.length<=6:=by have:=g.fewP;lia
 have t1:ts.length<=6:=by have:=g.fewT;lia
 rw[<- hps]at h6
 rw[<- hts]at h7
 have hpm:(ps.map V.str).length=ps.length:=Ar ..
 have htm:(ts.map V.str).length=ts.length:=Ar ..
 refine⟨_,rfl,r,_,rfl,CN h1 h2,pl,rfl,⟨_,SqL.of h6⟩,λD hD=>?_⟩
 refine Cj (n:=ps.length) (λi ys H2=>∃hs:List Addr,ys=hs.map V.ref/\Same H H2/\hs.length=i/\Hs H H2 D hs (replicate i [])) ⟨[],rfl,Same.new hD,rfl,rfl,Ak,.nil,(λ_ z=>nomatch z),λi h xs z=>by simp at z⟩
  (λi ys H2 hi hh0=>by obtain⟨hs,_,sm,_⟩:=hh0;exact⟨_,.str ps[i],SqL.of (sm _ _ h6),by simp[hi]⟩) (λys H2 hh0=>by obtain⟨hs,_,sm,_⟩:=hh0;exact⟨_,SqL.of (sm _ _ h6),by simp⟩) ?_ ?_
 ·rintro i ys H2 x H3 hi ⟨hs,rfl,sm,hl,S⟩ ⟨rfl,_⟩;refine Cu ?_;refine⟨Be _,λp hp=>⟨_,by rw[Aj (AL S.lst hp)];exact S.lst,by rw[Ar,hl];lia,hs++[p],by simp,?_,?_,?_⟩⟩
  ·exact(sm.put (sm.free hp)).put hD
  ·rw[AX,hl];rfl
  have pD:p≠D:=(AL S.lst hp).symm;have hold:∀h∈hs,h≠p/\H3 h=some (.lst []):=λh hh=>by obtain⟨j,hj⟩:=Gk hh;have hlt:=(AK.mp hj).1;have e:=S.at' j h [] hj (by rw[LJ,As (by lia)]);exact⟨AL e hp,e⟩
  refine⟨by rw[AX,hl,Ex];rfl,by rw[Ak];simp,W1 S.nd (λz=>(hold p z).1 rfl),λh hh=>?_,λj h xs ha hb=>?_⟩
  ·rcases(Cc.mp hh)with hh | hh
   ·exact S.fr h hh
   rw[AW.mp hh];exact⟨sm.free hp,pD⟩
  have hx:xs=[]:=OL (BE hb);subst hx;rcases Cc.mp (BE ha)with hh | hh
  ·rw[Aj (S.fr h hh).2,Aj (hold h hh).1];exact(hold h hh).2
  rw[AW.mp hh,Aj pD];exact Ak
 rintro ys H2 ⟨hs,rfl,sm,hl,S⟩
 have hrm:(hs.map V.ref).length=ps.length:=by rw[Ar,hl]
 refine⟨_,rfl,r,_,rfl,CN (sm _ _ h1) h3,_,_,rfl,.inl ⟨_,SqL.of (sm _ _ h7),rfl⟩,_,rfl,by lia,by rw[htm];lia,Hh (n:=(((ts.map V.str).length:Nat):Int).toNat) (λi σ H3=>∃(v5 v6 v7 v8:Option V) (o:Option Str) (xss:List (List Str)),σ = [some (.ref a),some (.int k),some (.ref r),some (.ref D),some (oV o),v5,v6,v7,v8,none,none]/\Same H H3/\Hs H H3 D hs xss/\(o.toList++xss.flatten).Perm (ts.take i)) ⟨none,none,none,none,none,_,rfl,sm,S,by simp⟩ ?_ ?_⟩
 ·rintro i σ H3 hi ⟨v5,v6,v7,v8,o,xss,rfl,sm3,S3,pm⟩;have hi':i<ts.length:=by rw[ES,htm]at hi;exact hi
  have hat:AB (ts.map V.str) (0+(i:Int))=some (.str ts[i]):=BN (by simp[hi']);have htk:ts.take (i+1)=ts.take i++[ts[i]]:=CD hi';generalize ts[i]=x at hat htk;refine⟨_,rfl,r,_,rfl,CN (sm3 _ _ h1) h3,_,rfl,_,_,_,_,rfl,rfl,SqL.of (sm3 _ _ h7),hat,?_⟩;refine⟨_,rfl,_,rfl,_,rfl,_,_,rfl,rfl,_,rfl,_,_,rfl,.inl ⟨_,SqL.of S3.lst,rfl⟩,_,_,rfl,rfl,a,ns,_,_,rfl,sm3.seq hS,hn,by lia,by lia,by lia,λwh w0 w1=>?_⟩;rw[hrm]at w1;have hpos:(0:Int)<((hs.map V.ref).length:Int):=by lia
  obtain⟨j,hj⟩:∃j:Nat,(j:Int)=wh % ((hs.map V.ref).length:Int):=⟨(wh % ((hs.map V.ref).length:Int)).toNat,D0 (Hu _ (by lia))⟩;have hjl:j<hs.length:=by have:=HB wh hpos;rw[Ar]at this hj;lia
  have hjx:j<xss.length:=by have:=S3.len;lia
  have hah:AB (hs.map V.ref) (wh % ((hs.map V.ref).length:Int))=some (.ref hs[j]):=by rw[<- hj];exact AO (by simp[hjl])
  have hhj:hs[j]? = some hs[j]:=Bi hjl;have hxj:xss[j]? = some xss[j]:=Bi hjx;have hxl:(xss[j]).length<=6:=by have e1:=NH (Dy hjx);have e2:=pm.length_eq;rw[AX,Cd]at e2;lia
  generalize hs[j]=h at hah hhj;generalize xss[j]=xs at hxj hxl;have z3:=S3.at' j h xs hhj hxj;have z1:=(S3.fr h (BE hhj)).1;have hxm':(xs.map V.str).length=xs.length:=Ar ..
  have ins:∀at':Int,Same H (Ac H3 h (.lst ((xs.map V.str).take at'.toNat++V.str x::(xs.map V.str).drop at'.toNat)))/\Hs H (Ac H3 h (.lst ((xs.map V.str).take at'.toNat++V.str x::(xs.map V.str).drop at'.toNat))) D hs (xss.set j (xs.take at'.toNat++x::xs.drop at'.toNat)) /\
    (o.toList++(xss.set j (xs.take at'.toNat++x::xs.drop at'.toNat)).flatten).Perm (ts.take (i+1)):=λat'=>by
   have e:(xs.map V.str).take at'.toNat++V.str x::(xs.map V.str).drop at'.toNat=(xs.take at'.toNat++x::xs.drop at'.toNat).map V.str:=by simp[Hr,Lr]
   rw[e]
   refine⟨sm3.put z1,S3.put hhj,?_⟩
   have e1:=Py (a:=xs.take at'.toNat) (b:=xs.drop at'.toNat) (x:=x) (xss:=xss) (j:=j) (by rw[C0];exact hxj)
   rw[htk]
   refine(EY _ e1).trans (JV.trans ?_)
   exact(Lv x pm).trans (OO x _).symm
  refine⟨_,rfl,_,rfl,_,_,rfl,.inl ⟨_,SqL.of S3.lst,rfl⟩,rfl,_,rfl,?_⟩;refine A4 (λ_=>?_) (λ_=>?_)
  ·refine⟨_,rfl,rfl,_,rfl,?_⟩;refine A4 (λho=>?_) (λ_=>?_)
   ·have ho':o=none:=by
     cases o with
     | none=>rfl
     | some y=>exact absurd (Bg ho) (by intro z;cases z)
    subst ho';refine⟨_,rfl,_,_,_,_,some x,xss,rfl,sm3,S3,?_⟩;rw[htk];exact(Lv x pm).trans (OO x _).symm
   refine⟨_,rfl,_,rfl,_,rfl,_,_,rfl,.inl ⟨_,SqL.of S3.lst,rfl⟩,_,_,rfl,rfl,hpos,D,_,_,_,rfl,rfl,SqL.of S3.lst,hah,?_⟩;refine⟨_,rfl,.inl ⟨rfl,_,SqL.of z3⟩,_,rfl,_,rfl,_,_,rfl,rfl,_,rfl,_,_,rfl,rfl,_,rfl,_,_,rfl,.inl ⟨_,SqL.of z3,rfl⟩,_,_,rfl,rfl,a,ns,_,_,rfl,sm3.seq hS,hn,by lia,by lia,by lia,λat' a0 a1=>?_⟩;rw[hxm']at a1;obtain⟨i1,i2,i3⟩:=ins at';exact⟨_,rfl,h,_,_,_,rfl,rfl,a0,by rw[hxm'];lia,z3,by rw[hxm'];lia,_,_,_,_,o,_,rfl,i1,i2,i3⟩
  refine Bc ?_;refine⟨_,rfl,_,rfl,_,rfl,_,_,rfl,.inl ⟨_,SqL.of S3.lst,rfl⟩,_,_,rfl,rfl,hpos,D,_,_,_,rfl,rfl,SqL.of S3.lst,hah,?_⟩;refine⟨_,rfl,.inl ⟨rfl,_,SqL.of z3⟩,_,rfl,_,rfl,_,_,rfl,rfl,_,rfl,_,_,rfl,rfl,_,rfl,_,_,rfl,.inl ⟨_,SqL.of z3,rfl⟩,_,_,rfl,rfl,a,ns,_,_,rfl,sm3.seq hS,hn,by lia,by lia,by lia,λat' a0 a1=>?_⟩;rw[hxm']at a1;obtain⟨i1,i2,i3⟩:=ins at';exact⟨_,rfl,h,_,_,_,rfl,rfl,a0,by rw[hxm'];lia,z3,by rw[hxm'];lia,_,_,_,_,o,_,rfl,i1,i2,i3⟩
 rintro σ H3 ⟨v5,v6,v7,v8,o,xss,rfl,sm3,S3,pm⟩
 rw[ES,htm,Dx]at pm
 refine⟨Be _,λll hll=>?_⟩
 have nD:ll≠D:=(AL S3.lst hll).symm
 have nH:∀h∈hs,ll≠h:=λh hh=>by obtain⟨oo,z3⟩:=S3.has hh;exact(AL z3 hll).symm
 have f0:H ll=none:=sm3.free hll
 have S4:=S3.same (Same.new (o:=.lst []) hll)
 refine⟨_,rfl,_,_,rfl,.inl ⟨_,SqL.of S4.lst,rfl⟩,_,rfl,by lia,by lia,Hh (n:=(((hs.map V.ref).length:Nat):Int).toNat) (λi σ H4=>∃(v5 v10:Option V) (ls:List Str),σ = [some (.ref a),some (.int k),some (.ref r),some (.ref D),some (oV o),v5,v6,v7,v8,some (.ref ll),v10]/\ls.length=i/\(∀(j:Nat) p l,(plc rs)[j]? = some p->ls[j]? = some l->Lo p l)/\Same H H4/\Hs H H4 D hs xss/\H4 ll=some (.lst (ls.map V.str))) ⟨_,none,[],rfl,rfl,(λ_ _ _ _ z=>by simp at z),sm3.put f0,S4,Ak⟩ ?_ ?_⟩
 ·rintro i σ H4 hi ⟨v5,v10,ls,rfl,hls,hlo,sm4,S5,hl4⟩;have hi':i<ps.length:=by rw[ES,hrm]at hi;exact hi
  have hip:i<(plc rs).length:=by lia
  have hpi:ps[i]? = some ((plc rs)[i]).1:=by rw[hps,A6,Bi hip];rfl
  have hat:AB (ps.map V.str) (0+(i:Int))=some (.str ((plc rs)[i]).1):=BN (by rw[A6,hpi];rfl);have hpm2:(plc rs)[i]∈plc rs:=Dy hip;have hpg:(plc rs)[i]? = some (plc rs)[i]:=Bi hip;generalize (plc rs)[i]=pp at hat hpm2 hpg;refine⟨_,rfl,_,rfl,r,_,rfl,CN (sm4 _ _ h1) h2,_,rfl,_,_,_,_,rfl,rfl,SqL.of (sm4 _ _ h6),hat,r,d1,d2,pp.1,kvs,_,_,rfl,sm4 _ _ h1,h4,h5,sm4 _ _ h8,sm4 _ _ h9,λl ys H5 s5 f5 e5 y1 y2=>?_⟩;have hym:(ys.map V.str).length=ys.length:=Ar ..;have hl5:=s5 _ _ hl4;refine⟨_,rfl,.inl ⟨rfl,_,SqL.of hl5⟩,_,rfl,_,rfl,_,rfl,_,_,rfl,rfl,_,rfl,_,_,rfl,rfl,_,rfl,_,_,rfl,.inl ⟨_,SqL.of e5,rfl⟩,a,ns,_,_,rfl,(sm4.trans s5).seq hS,hn,by lia,by lia,by lia,λj j0 j1=>?_⟩;rw[hym]at j1;obtain⟨y,hy,hay⟩:=Z4 (xs:=ys) j0 j1;refine⟨_,_,_,_,rfl,rfl,SqL.of e5,hay,ll,_,_,rfl,rfl,hl5,by rw[Ar];lia,?_⟩;have S6:=S5.same s5;refine⟨_,_,ls++[y],rfl,by simp[hls],λj' p' l' hp' hl'=>?_,(sm4.trans s5).put f0,S6.off nD nH,by rw[Ak];simp⟩;by_cases hj':j'<ls.length
  ·rw[EW hj']at hl';exact hlo j' p' l' hp' hl'
  have hlt:=(AK.mp hl').1;rw[AX,length_singleton]at hlt;have e:j'=ls.length:=by lia
  subst e;rw[List.getElem?_concat_length]at hl';cases hl';rw[hls,hpg]at hp';cases hp';exact Al.lo g hpm2 (y2 y hy)
 rintro σ H4 ⟨v5',v10,ls,rfl,hls,hlo,sm4,S5,hl4⟩
 have hls':ls.length=ps.length:=by rw[hls,ES,hrm]
 have hxp:xss.length=ps.length:=by have:=S5.len;lia
 refine⟨_,rfl,_,rfl,D,rfl,⟨_,SqL.of S5.lst⟩,λD2 hD2=>?_⟩
 refine Cj (n:=hs.length) (λi ys H5=>RdVs H5 ys ((xss.take i).map dH)/\ys.length=i/\Same H4 H5/\H5 D2=some (.lst ys)) ⟨.nil,rfl,Same.new hD2,Ak⟩
  (λi ys H5 hi hh0=>by obtain⟨_,_,s5,_⟩:=hh0;exact⟨_,.ref hs[i],SqL.of (s5 _ _ S5.lst),by simp[hi]⟩) (λys H5 hh0=>by obtain⟨_,_,s5,_⟩:=hh0;exact⟨_,SqL.of (s5 _ _ S5.lst),by simp⟩) ?_ ?_
 ·rintro i ys H5o x H5 hi ⟨hrd,hx2,s5,e5⟩ ⟨rfl,hx⟩;have hxi:=hx _ (SqL.of (s5 _ _ S5.lst));have hx':x=.ref hs[i]:=by rw[A6,Bi hi]at hxi;exact(Bx hxi).symm
  subst hx';have hix:i<xss.length:=by have:=S5.len;lia
  have z3:=S5.at' i hs[i] xss[i] (Bi hi) (Bi hix);have htk:xss.take (i+1)=xss.take i++[xss[i]]:=CD hix;generalize xss[i]=zs at z3 htk;refine Cu ?_;refine⟨_,rfl,_,_,rfl,.inl ⟨SqL.of (s5 _ _ z3),λl hl=>⟨_,by rw[Aj (AL e5 hl)];exact e5,by lia,?_,by simp[hx2],(s5.trans (Same.new hl)).put hD2,Ak⟩⟩⟩;have lD:l≠D2:=(AL e5 hl).symm;have kp:∀b us,H5 b=some (.tup us)->(Ac (Ac H5 l (.tup (zs.map V.str))) D2 (.lst (ys++[V.ref l]))) b=some (.tup us):=λb us e=>by rw[Aj (BJ e e5 (by intro z;cases z)),Aj (AL e hl)];exact e
  rw[htk,B5];exact(hrd.same kp).append (.cons (.tup (by rw[Aj lD];exact Ak) (RdVs.strs zs)) .nil)
 rintro ys H5 ⟨hrd,hx2,s5,e5⟩
 rw[Fp (by have:=S5.len;lia)]at hrd
 refine⟨_,_,rfl,.inl ⟨SqL.of e5,λtp htp=>?_⟩⟩
 have e6:=s5 _ _ hl4
 refine⟨_,rfl,_,_,rfl,.inl ⟨SqL.of (by rw[Aj (AL e6 htp)];exact e6),λtl htl=>⟨by show 3<=sizeLine;decide,λt ht=>?_⟩⟩⟩
 have s6:Same H5 (Ac H5 tp (.tup ys)):=Same.new htp
 have s7:Same (Ac H5 tp (.tup ys)) (Ac (Ac H5 tp (.tup ys)) tl (.tup (ls.map V.str))):=Same.new htl
 have s8:Same (Ac (Ac H5 tp (.tup ys)) tl (.tup (ls.map V.str))) (Ac (Ac (Ac H5 tp (.tup ys)) tl (.tup (ls.map V.str))) t (.tup [oV o,.ref tp,.ref tl])):=Same.new ht
 refine q (.ref t) ⟨o,xss,ls⟩ _ (((sm4.trans s5).trans s6).trans (s7.trans s8)) (DC Ak (UX o) (s8 _ _ (s7 _ _ Ak)) (s8.rds (s7.rds (s6.rds hrd))) (s8 _ _ Ak) (RdVs.strs ls)) ⟨?_,?_⟩ ⟨?_,hlo⟩
 ·show xss.length=_;lia
 ·show ls.length=_;lia
 rw[hts]at pm
 exact pm
def formsD:List PyData:=[.tuple [.str "place",.int 2],.tuple [.str "box",.int 2],.tuple [.str "box",.int 3],.tuple [.str "thing",.int 3]]
structure Md (K:W.Frag)(mg:Str->Option Value)(aN aF:Addr):Prop where
 letters:∃t,mg "LETTERS" = some (.str abc t)
 most:∃t,mg "MOST_LETTERS" = some (.int 8 t)
 mp:∃t,mg "MOST_PLACES" = some (.int 6 t)
 mt:∃t,mg "MOST_THINGS" = some (.int 6 t)
 nn:mg "NO_NAMES" = some (.ref aN)
 nv:∀H:Hp,SqT K H aN (fixedS.map V.str)
 ff:mg "FORMS" = some (.ref aF)
 fv:HG K (.ref aF) (.tuple formsD)
inductive MJ (vs:List V)(H:Hp)(Q:VK)(E0_:XK):Prop
 | mk (x:Str) (c0:vs=[.str x]) (c1:Nv x) (c2:∀H':Hp,Same H H'->Q (.bl true) H'):MJ  vs H Q E0_
def PF:AF ["text"] ["text"] (Aq FI):=AN
inductive Mw (vs:List V)(H:Hp)(Q:VK)(E0_:XK):Prop
 | mk (ro:Ro) (c0:vs=[.str ro.txt]) (c1:ro.nv) (c2:∀(l:Addr) (H':Hp),Same H H'->H l=none->H' l=some (.lst (ro.words.map V.str))->Q (.ref l) H'):Mw  vs H Q E0_
def scReadLine:AF ["line", "words", "word"] ["line"] (Aq E5):=AN
def RowsAt (H:Hp):List Ro->List Addr->Prop:=Paired λro a=>H a=some (.lst (ro.words.map V.str))
theorem RowsAt.same (s:Same H H'):∀{rs:List Ro}{ls:List Addr},RowsAt H rs ls->RowsAt H' rs ls
 | _,_,.nil=>.nil
 | _,_,.cons a b=>.cons (s _ _ a) (RowsAt.same s b)
theorem RowsAt.keep :∀{rs:List Ro}{ls:List Addr},RowsAt H rs ls->(∀a∈ls,∀o,H a=some o->H' a=some o)->RowsAt H' rs ls
 | _,_,.nil,_=>.nil
 | _,_,.cons a b,k=>.cons (k _ AZ _ a) (RowsAt.keep b λx hx=>k x (AR _ hx))
theorem RowsAt.snoc (h:H a=some (.lst (ro.words.map V.str))):∀{rs:List Ro}{ls:List Addr},RowsAt H rs ls->RowsAt H (rs++[ro]) (ls++[a])
 | _,_,.nil=>.cons h .nil
 | _,_,.cons x b=>.cons x (RowsAt.snoc h b)
def RowsAt.length (h:RowsAt H rs ls):rs.length=ls.length:=Fy h
theorem RowsAt.get :∀{rs:List Ro}{ls:List Addr}{i:Nat}{a:Addr},RowsAt H rs ls->ls[i]? = some a->∃ro,rs[i]? = some ro/\H a=some (.lst (ro.words.map V.str))
 | _,_,_,_,.nil,e=>by simp at e
 | _,_,0,_,.cons x _,e=>by simp at e;subst e;exact⟨_,rfl,x⟩
 | _,_,i+1,_,.cons _ b,e=>by obtain⟨ro,h1,h2⟩:=RowsAt.get (i:=i) b (by simpa using e);exact⟨ro,by simpa using h1,h2⟩
inductive Mu (vs:List V)(H:Hp)(Q:VK)(E0_:XK):Prop
 | mk (a:Addr) (rs:List Ro) (c0:vs=[.ref a]) (c1:H a=some (.lst ((rs.map Ro.txt).map V.str))) (c2:Good rs) (c3:rs.length<=12) (c4:∀(l:Addr) (ls:List Addr) (H':Hp),Same H H'->H' l=some (.lst (ls.map V.ref))->RowsAt H' rs ls->Q (.ref l) H'):Mu  vs H Q E0_
def scReadRows:AF ["lines", "rows", "names"] ["lines"] (Aq EG):=AN
inductive Mt (vs:List V)(H:Hp)(Q:VK)(E0_:XK):Prop
 | mk (a:Addr) (rs:List Ro) (ls:List Addr) (c0:vs=[.ref a]) (c1:H a=some (.lst (ls.map V.ref))) (c2:RowsAt H rs ls) (c3:Good rs) (c4:∀(d:Addr) (H':Hp),Same H H'->H d=none->H' d=some (.dK (CU rs))->Q (.ref d) H'):Mt  vs H Q E0_
def scReadThings:AF ["rows", "shapes", "words"] ["rows"] (Aq Km):=AN
def C4:Option Str->V
 | none=>.non
 | some x=>.str x
def PlOk (H:Hp):List (Str×Bool×Option Str)->List (Ag×V)->Prop:=Paired λp kv=>kv.1=Sum.inr p.1/\∃t,kv.2=.ref t/\H t=some (.tup [.bl p.2.1,C4 p.2.2])
theorem PlOk.same (s:∀b xs,H b=some (.tup xs)->H' b=some (.tup xs)):∀{ps:List (Str×Bool×Option Str)}{kvs:List (Ag×V)},PlOk H ps kvs->PlOk H' ps kvs
 | _,_,.nil=>.nil
 | _,_,.cons ⟨e,t,e2,e3⟩ b=>.cons ⟨e,t,e2,s _ _ e3⟩ (PlOk.same s b)
theorem PlOk.snoc {t:Addr}(h:H t=some (.tup [.bl p.2.1,C4 p.2.2])):∀{ps:List (Str×Bool×Option Str)}{kvs:List (Ag×V)},PlOk H ps kvs->PlOk H (ps++[p]) (kvs++[(Sum.inr p.1,.ref t)])
 | _,_,.nil=>.cons ⟨rfl,t,rfl,h⟩ .nil
 | _,_,.cons x b=>.cons x (PlOk.snoc h b)
def PlOk.length (h:PlOk H ps kvs):ps.length=kvs.length:=Fy h
theorem PlOk.keys :∀{ps:List (Str×Bool×Option Str)}{kvs:List (Ag×V)},PlOk H ps kvs->kvs.map (λkv=>kV kv.1)=(ps.map (·.1)).map V.str
 | _,_,.nil=>rfl
 | _,_,.cons ⟨e,_⟩ b=>by rw[Bj,Bj,Bj,PlOk.keys b,e];rfl
theorem PlOk.none :∀{ps:List (Str×Bool×Option Str)}{kvs:List (Ag×V)},PlOk H ps kvs->x∉ps.map (·.1)->Aw kvs (Sum.inr x:Ag)=.none
 | _,_,.nil,_=>rfl
 | _,_,.cons ⟨e,_⟩ b,h=>by rw[A7 (λz=>h (by rw[e]at z;rw[<- Di z];exact AZ))];exact PlOk.none b λz=>h (AR _ z)
theorem PlOk.get :∀{ps:List (Str×Bool×Option Str)}{kvs:List (Ag×V)}{i:Nat}{k:Ag}{v:V},PlOk H ps kvs->kvs[i]? = some (k,v)->∃p t,ps[i]? = some p/\v=.ref t/\H t=some (.tup [.bl p.2.1,C4 p.2.2])
 | _,_,_,_,_,.nil,e=>by simp at e
 | _,_,0,_,_,.cons ⟨e1,t,e2,e3⟩ _,e=>by simp at e;rw[e]at e2;exact⟨_,t,rfl,e2,e3⟩
 | _,_,i+1,_,_,.cons _ b,e=>by obtain⟨p,t,h1,h2,h3⟩:=PlOk.get (i:=i) b (by simpa using e);exact⟨p,t,by simpa using h1,h2,h3⟩
inductive Mv (vs:List V)(H:Hp)(Q:VK)(E0_:XK):Prop
 | mk (a:Addr) (rs:List Ro) (ls:List Addr) (c0:vs=[.ref a]) (c1:H a=some (.lst (ls.map V.ref))) (c2:RowsAt H rs ls) (c3:Good rs) (c4:∀(d:Addr) (kvs:List (Ag×V)) (H':Hp),Same H H'->H d=none->H' d=some (.dK kvs)->PlOk H' (plc rs) kvs->Q (.ref d) H'):Mv  vs H Q E0_
def scReadPlaces:AF ["rows", "places", "words"] ["rows"] (Aq Kp):=AN
inductive MW (vs:List V)(H:Hp)(Q:VK)(E0_:XK):Prop
 | mk (d1 d2:Addr) (rs:List Ro) (kvs:List (Ag×V)) (c0:vs=[.ref d1,.ref d2]) (c1:H d1=some (.dK kvs)) (c2:PlOk H (plc rs) kvs) (c3:H d2=some (.dK (CU rs))) (c4:d1≠d2) (c5:Good rs) (c6:∀(o:Obj) (H':Hp),(∀b u,H b=some u->b≠d1->H' b=some u)->H' d1=some (.frz o (.dK kvs))->Q .non H'):MW  vs H Q E0_
def scCheckKeys:AF ["places", "shapes", "lid", "key"] ["places", "shapes"] (Aq KQ):=AN
def Fd (d1 d2:Addr):List (Str×V):=putF "told_shapes" (.ref d2) (putF "told_places" (.ref d1) [])
def UN:¬(("told_places" : Str) = "told_shapes"):=by decide +kernel
def Im (d1 d2:Addr):(Fd d1 d2).lookup ("told_places" : Str)=some (.ref d1):=by unfold Fd;rw[FU,Ai UN,FU,As rfl]
def Cq (d1 d2:Addr){m:Str}(h1:¬m = "told_shapes")(h2:¬m = "told_places"):(Fd d1 d2).lookup m=none:=by unfold Fd;rw[FU,Ai h1,FU,Ai h2];rfl
inductive Sg (C:Addr)(H:Hp)(x:Addr)(rs:List Ro):Prop
 | mk (dx d1 d2:Addr) (o:Obj) (kvs:List (Ag×V)) (c0:H x=some (.ins C dx (Fd d1 d2))) (c1:H d1=some (.frz o (.dK kvs))) (c2:PlOk H (plc rs) kvs) (c3:H d2=some (.dK (CU rs))):Sg C H x rs
structure RoomAt (C:Addr)(H:Hp)(x:Addr)(rs:List Ro):Prop where
 ex:Sg C H x rs
def RoomAt.same (R:RoomAt C H x rs)(s:Same H H'):RoomAt C H' x rs:=by obtain⟨dx,d1,d2,o,kvs,h1,h2,h3,h4⟩:=R.ex;exact⟨dx,d1,d2,o,kvs,s _ _ h1,s _ _ h2,h3.same λb xs e=>s _ _ e,s _ _ h4⟩
structure Cl (K:W.Frag)(C:Addr):Prop where
 cl:Cls K C
 nP:NoAttr K C "told_places"
 nS:NoAttr K C "told_shapes"
inductive Kf (C:Addr)(vs:List V)(H:Hp)(Q:VK)(E0_:XK):Prop
 | mk (x dx a:Addr) (rs:List Ro) (c0:vs=[.ref x,.ref a]) (c1:H x=some (.ins C dx [])) (c2:H a=some (.lst ((rs.map Ro.txt).map V.str))) (c3:Good rs) (c4:rs.length<=12) (c5:∀H':Hp,(∀b u,H b=some u->b≠x->H' b=some u)->RoomAt C H' x rs->Q .non H'):Kf C vs H Q E0_
def scInit:AF ["self", "lines", "rows", "places", "shapes"] ["self", "lines"] (Aq KH):=AN
inductive Ee (C:Addr)(vs:List V)(H:Hp)(Q:VK)(E0_:XK):Prop
 | mk (x:Addr) (rs:List Ro) (c0:vs=[.ref x]) (c1:RoomAt C H x rs) (c2:∀(l:Addr) (H':Hp),Same H H'->H l=none->H' l=some (.lst (((plc rs).map (·.1)).map V.str))->Q (.ref l) H'):Ee C vs H Q E0_
def Um:AF ["self"] ["self"] (Aq M5):=AN
def Zc {a:Addr}{o:Obj}{kvs:List (Ag×V)}{g:TG}{tb:TS}{D:Gq}{σ:L2.St}{H:Hp}(Pv:Nat->L2.St->Hp->Prop)(h0:Pv 0 σ H)(hl:∀i σ H,i<=kvs.length->Pv i σ H->H a=some (.frz o (.dK kvs)))
  (hs:∀i k x σ H,kvs[i]? = some (k,x)->Pv i σ H->g x σ H λσ2 H2=>tb { D with nx:=Pv (i+1),ct:=Pv (i+1),bk:=D.nx } σ2 H2)(hd:∀σ H,Pv kvs.length σ H->D.nx σ H) :
  ∃W:Nat->Nat->L2.St->Hp->Prop,(∃m,W 0 m σ H)/\∀i m σ H,W i m σ H ->
   ((J0 a o kvs).stop i H/\D.nx σ H)\/((J0 a o kvs).go i H/\∃N:L2.St->Hp->Prop,(∀σ' H',N σ' H'->∃m',m'<m/\W (i+1) m' σ' H')/\∀x H',(J0 a o kvs).yld i H x H'->g x σ H' λσ2 H2=>tb { D with nx:=N,ct:=N,bk:=D.nx } σ2 H2):=by
 refine⟨λi m σ H=>m=kvs.length-i/\i<=kvs.length/\Pv i σ H,⟨kvs.length,by simp,Be _,h0⟩,?_⟩
 rintro i m σ H ⟨rfl,hi,p⟩
 have q:=hl i σ H hi p
 by_cases hlt:i<kvs.length
 ·refine .inr ⟨⟨hlt,q⟩,Pv (i+1),λσ' H' p'=>⟨kvs.length-(i+1),by lia,rfl,hlt,p'⟩,λx H' y=>?_⟩;obtain⟨e,k,y⟩:=y;subst e;exact hs i k x σ _ y p
 have e:i=kvs.length:=by lia
 subst e
 exact .inl ⟨⟨AA _,q⟩,hd σ H p⟩
def Wv (F:Fun K "is_name" "is_name" FI f fd)(T:Bl mg)(M:Md K mg aN aF):FnOk P w K mg base CX0 1 f fd ["text"] MJ:=by
 obtain⟨t1,m1⟩:=M.letters;obtain⟨t2,m2⟩:=M.most;refine F.oq PF λcdv A outer s H vs Q E hr h=>?_;obtain⟨x,rfl,hx,q⟩:=h;have aa:sizeLine=16777216:=AM;have hl:=hx.len;have hp:=hx.pos;refine⟨_,Af (AH (PW.pt (Cy (AI A9 (pv 0) Av (AJ _)) (Cy (AI Fg (AE Bq (by rfl) T.len A0 (Aa (pv 0) Ab)) (A1 (v:=.int 8) (by rfl) m2 ⟨_,rfl⟩) (AJ _)) (DE (AI Du (pv 0) (A1 (v:=.ref aN) (by rfl) M.nn rfl) (by rfl)))))) (Am (AC EJ)) AG) (Am (AC (AE (RK rfl) (by rfl) T.all RL (Aa (EI (N:=["sign"]) (sc:=Aq FI) (own:=["sign"]) (fr:=[]) (js:=[]) Ci rfl (Vm (pv 0)) (λ_ _ _ _=>Bm (i:=0) (show List.Nodup (["sign"]:List Str) by decide +kernel)) (λ_ _ _ _=>Ct) (λ_ _ _ _=>CV VA (pv 0) (A1 (v:=.str abc) (by rfl) m1 ⟨_,rfl⟩) (by rfl))) Ab)))),?_⟩;refine⟨_,rfl,rfl,_,rfl,?_⟩;refine A4 (λhe=>?_) (λ_=>?_)
 ·exfalso;have e:=V.str.inj (Bg he);rw[e]at hp;exact absurd hp (by decide +kernel)
 refine⟨_,rfl,_,_,rfl,⟨by lia,rfl⟩,_,_,rfl,rfl,_,rfl,?_⟩;refine A4 (λhe=>?_) (λ_=>?_)
 ·exfalso;have:=Bg he;lia
 refine⟨_,rfl,aN,_,rfl,.inr (M.nv H),rfl,flat_strs _,_,rfl,?_⟩;refine A4 (λhe=>?_) (λ_=>?_)
 ·exfalso;have he':CM (.str x) (fixedS.map V.str)=true:=he;rw[Dg]at he';exact hx.fix (Bg he')
 refine⟨_,rfl,x,rfl,hx.ascii,λD hD=>?_⟩;refine Cj (n:=x.cps.size) (λi ys H2=>ys=replicate i (V.bl true)/\Same H H2/\H2 D=some (.lst ys)) ⟨rfl,Same.new hD,Ak⟩ (λi _ _ hi _=>hi) (λ_ _ _=>AA _) ?_ ?_
 ·rintro i ys H2 v H3 hi ⟨rfl,sm,hD2⟩ ⟨rfl,c,hc,rfl⟩;refine Cu ?_;have hcm:c∈cs x:=by have:=BE (l:=x.cps.toList) (i:=i) (a:=c) (by simpa using hc);exact this
  have hcl:=hx.low c hcm;have hxz:x.cps.size<=8:=hl;refine⟨_,rfl,_,_,rfl,rfl,_,hD2,by rw[Ex];lia,?_,sm.put hD,Ak⟩;rw[YS hcl.1 hcl.2,List.replicate_succ']
 rintro ys H2 ⟨rfl,sm,hD2⟩;refine⟨D,replicate x.cps.size true,rfl,SqL.of (by rw[hD2,List.map_replicate]),?_⟩;have e:(replicate x.cps.size true).all (λb=>b)=true:=by rw[DW];intro b hb;exact(Hl.mp hb).2
 rw[e];exact q H2 sm
def V0 (F:Fun K "read_line" "read_line" E5 f fd)(DI:Df K mg "is_name" FI ["text"] fI fdI)(T:Bl mg)(M:Md K mg aN aF)(GI:FnOk P w K mg base CX0 1 fI fdI ["text"] MJ):FnOk P w K mg base CX0 2 f fd ["line"] Mw:=by
 refine F.oq scReadLine λcdv A outer s H vs Q E hr h=>?_;obtain⟨ro,rfl,hv,q⟩:=h;have ae:(A.deeper (envOfC "read_line" (Aq E5) s.heap.objs.size f cdv)).units+65<cLine:=by have:=hr.un;lia
 have aa:sizeLine=16777216:=AM;have hll:=O7 hv;refine⟨_,Af (Ay (i:=1) scReadLine.nd (B2 DA C6 Ec DQ (pv 0) (Aa Av Ab))) (Af (AH (AI (Qr ae) (BR (Aa (Az Bb (pv 1) Ah (λ_ _=>rfl)) (Aa (AE Bq (by rfl) T.len A0 (Aa (pv 1) Ab)) Ab))) (A1 (v:=.ref aF) (by rfl) M.ff rfl) (by rfl)) Bu AG) (Af (CI Dj rfl (BQ (DH FE (pv 1) (DF Ah) DG)) (Bm (i:=2) scReadLine.nd) (Am (AH (CG (Cr (AU GI hr (by rfl) DI.m DI.F.kp DI.b .nil Au (Aa (pv 2) Ab)))) Bu AG))) (Am (AC (pv 1))))),?_⟩;refine⟨_,rfl,rfl,_,_,rfl,rfl,by decide +kernel,by lia,λl hl=>?_⟩;rw[show Txt.split ro.txt (Str.ofString " ")=ro.words from Pm hv];have s1:Same H (Ac H l (.lst (ro.words.map V.str))):=Same.new hl;have e1:(Ac H l (.lst (ro.words.map V.str))) l=some (.lst (ro.words.map V.str)):=Ak;generalize Ac H l (.lst (ro.words.map V.str))=H1 at s1 e1 ⊢;obtain⟨w0,rest,ew⟩:∃w0 rest,ro.words=w0::rest:=by cases ro <;> exact⟨_,_,rfl⟩
 have hat:AB (ro.words.map V.str) ((0:Nat):Int)=some (.str w0):=AO (by rw[ew];rfl);refine⟨_,rfl,l,_,_,_,rfl,rfl,SqL.of e1,hat,_,rfl,_,_,rfl,.inl ⟨_,SqL.of e1,rfl⟩,by show 2<=sizeLine;decide,λp hp=>?_⟩;have s2:Same H1 (Ac H1 p (.tup [.str w0,.int ((ro.words.map V.str).length:Nat)])):=Same.new hp;have hwl:(ro.words.map V.str).length=ro.words.length:=Ar ..;refine⟨.tuple [.str w0,.int (ro.words.length:Nat)],formsD,.tup (by rw[Ak,hwl]) (.cons (.str w0) (.cons (.int _) .nil)),M.fv,?_,by decide +kernel,_,rfl,?_⟩
 ·cases ro with
  | pl n=>cases ew;exact(by decide +kernel:shaped (PyData.tuple [PyData.str "place",PyData.int ((2:Nat):Int)])=true)
  | bx n=>cases ew;exact(by decide +kernel:shaped (PyData.tuple [PyData.str "box",PyData.int ((2:Nat):Int)])=true)
  | lk n k=>cases ew;exact(by decide +kernel:shaped (PyData.tuple [PyData.str "box",PyData.int ((3:Nat):Int)])=true)
  | th n k=>cases ew;exact(by decide +kernel:shaped (PyData.tuple [PyData.str "thing",PyData.int ((3:Nat):Int)])=true)
 have hany:(formsD.any λe=>PyData.eqv e (.tuple [.str w0,.int (ro.words.length:Nat)]))=true:=by
  cases ro with
  | pl n=>cases ew;exact(by decide +kernel:(formsD.any λe=>PyData.eqv e (.tuple [.str "place",.int ((2:Nat):Int)]))=true)
  | bx n=>cases ew;exact(by decide +kernel:(formsD.any λe=>PyData.eqv e (.tuple [.str "box",.int ((2:Nat):Int)]))=true)
  | lk n k=>cases ew;exact(by decide +kernel:(formsD.any λe=>PyData.eqv e (.tuple [.str "box",.int ((3:Nat):Int)]))=true)
  | th n k=>cases ew;exact(by decide +kernel:(formsD.any λe=>PyData.eqv e (.tuple [.str "thing",.int ((3:Nat):Int)]))=true)
 rw[hany];refine Bc ?_;have s12:=s1.trans s2;generalize (Ac H1 p (.tup [.str w0,.int ((ro.words.map V.str).length:Nat)]))=H2 at s2 s12 ⊢;have e2:=s2 _ _ e1;refine⟨_,rfl,_,rfl,l,_,rfl,SqL.of e2,λz hz=>?_⟩;have s3:Same H2 (Ac H2 z (.lst (A5 (ro.words.map V.str) (some 1) none))):=Same.new hz;have hcut:A5 (ro.words.map V.str) (some ((1:Nat):Int)) none=(ro.words.drop 1).map V.str:=by unfold A5;rw[HT.sIx_none,HT.sIx_nat,hwl,ew,Cp,Oh (by lia),Lr];refine Fp ?_;simp
 have e3:(Ac H2 z (.lst (A5 (ro.words.map V.str) (some 1) none))) z=some (.lst ((ro.words.drop 1).map V.str)):=by rw[Ak];exact BB (λx=>some (HO.lst x)) hcut
 generalize Ac H2 z (.lst (A5 (ro.words.map V.str) (some 1) none))=H3 at s3 e3 ⊢
 have hnm:∀x∈ro.words.drop 1,Nv x:=λx hx=>by
  cases ro with
  | pl n=>rw[AW.mp hx];exact hv
  | bx n=>rw[AW.mp hx];exact hv
  | lk n k=>
   rcases(AD.mp hx)with e | e
   ·rw[e];exact hv.1
   rw[AW.mp e];exact hv.2
  | th n k=>
   rcases(AD.mp hx)with e | e
   ·rw[e];exact hv.1
   rw[AW.mp e];exact hv.2
 refine⟨z,rfl,⟨_,SqL.of e3⟩,EO (K:=K) (a:=z) (xs:=(ro.words.drop 1).map V.str) (λi σ H4=>∃v2:Option V,σ = [some (.str ro.txt),some (.ref l),v2]/\Same H3 H4) ⟨none,rfl,Same.refl _⟩ (λi σ H4 _ hh0=>by obtain⟨_,_,s4⟩:=hh0;exact SqL.of (s4 _ _ e3)) ?_ ?_⟩
 ·rintro i x σ H4 hx ⟨v2,rfl,s4⟩;rw[A6]at hx;cases e:(ro.words.drop 1)[i]? with
  | none=>rw[e]at hx;cases hx
  | some y=>rw[e]at hx;cases hx;refine⟨_,rfl,y,rfl,hnm y (BE e),λH5 s5=>⟨_,rfl,?_⟩⟩;refine Bc ?_;exact⟨_,rfl,s4.trans s5⟩
 rintro σ H4 ⟨v2,rfl,s4⟩;have s34:=s3.trans s4;exact⟨_,rfl,q l H4 (s12.trans s34) hl (s34 _ _ e2)⟩
def VX (F:Fun K "read_rows" "read_rows" EG f fd)(DR:Df K mg "read_line" E5 ["line"] fR fdR)(T:Bl mg)(GR:FnOk P w K mg base CX0 2 fR fdR ["line"] Mw):FnOk P w K mg base CX0 3 f fd ["lines"] Mu:=by
 refine F.oq scReadRows λcdv A outer s H vs Q E hr h=>?_;obtain⟨a,rs,rfl,ha,g,hrl,q⟩:=h;have aa:sizeLine=16777216:=AM;refine⟨_,Af (FP (i:=1) (N:=["line"]) (sc:=Aq EG) (own:=["line"]) (fr:=[]) (js:=[]) scReadRows.nd rfl rfl Ci rfl (BQ (pv 0)) (λ_ _ _ _=>Bm (i:=0) (show List.Nodup (["line"]:List Str) by decide +kernel)) (λ_ _ _ _=>Ct) (λ_ _ _ _=>AU GR hr (by rfl) DR.m DR.F.kp DR.b .nil Au (Aa (pv 0) Ab))) (Af (FP (i:=2) (N:=["words"]) (sc:=Aq EG) (own:=["words"]) (fr:=[]) (js:=[]) scReadRows.nd rfl rfl Ci rfl (BQ (pv 1)) (λ_ _ _ _=>Bm (i:=0) (show List.Nodup (["words"]:List Str) by decide +kernel)) (λ_ _ _ _=>Ct) (λ_ _ _ _=>Az (Js K rfl) (pv 0) Ah (λ_ _=>rfl))) (Af (AH (AI Je (AE N6 (by rfl) T.len A0 (Aa (Dq (N4 rfl) (by rfl) T.set N8 (Aa (pv 2) Ab)) Ab)) (AE Bq (by rfl) T.len A0 (Aa (pv 2) Ab)) (AJ _)) Bu AG) (Am (AC (pv 1))))),?_⟩;refine⟨_,rfl,a,rfl,⟨_,SqL.of ha⟩,λD hD=>?_⟩
 refine Cj (n:=rs.length) (λi ys H2=>∃ls:List Addr,ys=ls.map V.ref/\RowsAt H2 (rs.take i) ls/\(∀l∈ls,l≠D)/\Same H H2/\H2 D=some (.lst ys)) ⟨[],rfl,.nil,(λ_ z=>nomatch z),Same.new hD,Ak⟩
  (λi ys H2 hi hh0=>by obtain⟨_,_,_,_,s2,_⟩:=hh0;exact⟨_,.str rs[i].txt,SqL.of (s2 _ _ ha),by simp[hi]⟩) (λys H2 hh0=>by obtain⟨_,_,_,_,s2,_⟩:=hh0;exact⟨_,SqL.of (s2 _ _ ha),by simp⟩) ?_ ?_
 ·rintro i ys H2 x H3 hi ⟨ls,rfl,ra,nD,s2,e2⟩ ⟨rfl,hx⟩;refine Cu ?_;have hx1:=hx _ (SqL.of (s2 _ _ ha));have hx2:x=.str rs[i].txt:=by rw[A6,A6,Bi hi]at hx1;exact(Bx hx1).symm
  subst hx2;refine⟨_,rfl,rs[i],rfl,g.nv _ (Dy hi),λl H4 s4 fl el=>?_⟩;have lD:l≠D:=(AL e2 fl).symm;have hlen:=ra.length;rw[Cd]at hlen;refine⟨_,s4 _ _ e2,by rw[Ar];lia,ls++[l],by simp,?_,λz hz=>?_,(s2.trans s4).put hD,Ak⟩
  ·rw[CD hi];refine RowsAt.snoc (by rw[Aj lD];exact el) (ra.keep λb hb o e=>?_);rw[Aj (nD b hb)];exact s4 _ _ e
  rcases(Cc.mp hz)with hz | hz
  ·exact nD z hz
  rw[AW.mp hz];exact lD
 rintro ys H2 ⟨ls,rfl,ra,nD,s2,e2⟩;rw[Dx]at ra;have hlen:=ra.length;refine⟨_,rfl,D,rfl,⟨_,SqL.of e2⟩,λD2 hD2=>?_⟩
 refine Cj (n:=rs.length) (λi ys H3=>ys=((rs.take i).map Ro.name).map V.str/\Same H2 H3/\H3 D2=some (.lst ys)) ⟨rfl,Same.new hD2,Ak⟩
  (λi ys H3 hi hh0=>by obtain⟨_,s3,_⟩:=hh0;exact⟨_,.ref (ls[i]'(by lia)),SqL.of (s3 _ _ e2),by simp[show i<ls.length by lia]⟩) (λys H3 hh0=>by obtain⟨_,s3,_⟩:=hh0;exact⟨_,SqL.of (s3 _ _ e2),by simp;lia⟩) ?_ ?_
 ·rintro i ys H3 x H4 hi ⟨rfl,s3,e3⟩ ⟨rfl,hx⟩;refine Cu ?_;have hx1:=hx _ (SqL.of (s3 _ _ e2));have hil:i<ls.length:=by lia
  rw[A6,Bi hil]at hx1;have hx2:x=.ref ls[i]:=(Bx hx1).symm;subst hx2;obtain⟨ro,h1,h2⟩:=ra.get (Bi hil);have hat:AB (ro.words.map V.str) ((1:Nat):Int)=some (.str ro.name):=AO (by cases ro <;> rfl);refine⟨_,rfl,ls[i],_,_,_,rfl,rfl,SqL.of (s3 _ _ h2),hat,_,e3,by rw[Ar,Ar,Cd];lia,?_,s3.put hD2,Ak⟩;have hro:rs[i]=ro:=(AK.mp h1).2;rw[CD hi,B5,B5,hro];rfl
 rintro ys H3 ⟨rfl,s3,e3⟩;rw[Dx]at e3;have ek:(rs.map Ro.name).map V.str=((rs.map Ro.name).map (Sum.inr:Str->Ag)).map kV:=by rw[Dk,Dk,Dk];rfl
 have hkl:((rs.map Ro.name).map (Sum.inr:Str->Ag)).length=rs.length:=by rw[Ar,Ar]
 refine⟨_,rfl,D2,(rs.map Ro.name).map Sum.inr,rfl,SqL.of (by rw[<- ek];exact e3),by lia,λst hst=>?_⟩
 have hdd:(SK.dd (Cv ((rs.map Ro.name).map (Sum.inr:Str->Ag))) ((rs.map Ro.name).map (Sum.inr:Str->Ag)).length).length=rs.length:=by
  rw[SK.dd_full (n:=rs.length) (λi j hi hj e=>?_) _ (by lia),hkl];have ei:Cv ((rs.map Ro.name).map (Sum.inr:Str->Ag)) i=Sum.inr ((rs.map Ro.name)[i]'(by rw[Ar];exact hi)):=by simp[Cv,List.getD,hi]
  have ej:Cv ((rs.map Ro.name).map (Sum.inr:Str->Ag)) j=Sum.inr ((rs.map Ro.name)[j]'(by rw[Ar];exact hj)):=by simp[Cv,List.getD,hj]
  rw[ei,ej]at e;exact(Hv g.nd).mp (Di e)
 have s4:Same H3 (Ac H3 st (Gy P w st (SK.dd (Cv ((rs.map Ro.name).map (Sum.inr:Str->Ag))) ((rs.map Ro.name).map (Sum.inr:Str->Ag)).length).length)):=Same.new hst;refine⟨st,_,rfl,Ak,_,rfl,_,_,rfl,.inl ⟨_,SqL.of (s4 _ _ e3),rfl⟩,_,_,rfl,rfl,_,rfl,?_⟩;rw[hdd]at s4 ⊢;refine A4 (λhlt=>?_) (λ_=>?_)
 ·exfalso;have:=Bg hlt;rw[Ar,Ar]at this;lia
 have s24:=s3.trans s4;exact⟨_,rfl,q D ls _ (s2.trans s24) (s24 _ _ e2) (ra.same s24)⟩
def VM (F:Fun K "read_things" "read_things" Km f fd)(T:Bl mg)(M:Md K mg aN aF):FnOk P w K mg base CX0 1 f fd ["rows"] Mt:=by
 obtain⟨t1,m1⟩:=M.mt;refine F.oq scReadThings λcdv A outer s H vs Q E hr h=>?_;obtain⟨a,rs,ls,rfl,ha,ra,g,q⟩:=h;have hu:=Dw hr;have aa:sizeLine=16777216:=AM;have hft:=g.fewT;have hlen:=ra.length;refine⟨_,Af (Ay (i:=1) scReadThings.nd IA) (Af (CI Dj rfl (BQ (pv 0)) (Bm (i:=2) scReadThings.nd) (Am (AH (AI A9 (Az Bb (pv 2) Ah (λ_ _=>rfl)) Av (AJ _)) (Am (EH hu (pv 1) (Az Bb (pv 2) Ah (λ_ _=>rfl)) (Az Bb (pv 2) Ah (λ_ _=>rfl)) rfl)) AG))) (Af (AH (AI Fg (AE Lj (by rfl) T.len A0 (Aa (pv 1) Ab)) (A1 (v:=.int 6) (by rfl) m1 ⟨_,rfl⟩) (AJ _)) Bu AG) (Am (AC (pv 1))))),?_⟩;intro d hd;have s0:Same H (Ac H d (.dK [])):=Same.new hd;refine⟨_,rfl,a,rfl,⟨_,SqL.of (s0 _ _ ha)⟩,EO (K:=K) (a:=a) (xs:=ls.map V.ref) (λi σ H2=>∃v2:Option V,σ = [some (.ref a),some (.ref d),v2]/\Same H H2/\H2 d=some (.dK (CU (rs.take i)))) ⟨none,rfl,s0,Ak⟩ (λi σ H2 _ hh0=>by obtain⟨_,_,s2,_⟩:=hh0;exact SqL.of (s2 _ _ ha)) ?_ ?_⟩
 ·rintro i x σ H2 hx ⟨v2,rfl,s2,e2⟩;rw[A6]at hx;cases el:ls[i]? with
  | none=>rw[el]at hx;cases hx
  | some l=>
   rw[el]at hx;cases hx;obtain⟨ro,h1,h2⟩:=ra.get el;have hi:i<rs.length:=(AK.mp h1).1;have hro:rs[i]=ro:=(AK.mp h1).2;have htk:rs.take (i+1)=rs.take i++[ro]:=by rw[CD hi,hro]
   have hw:=s2 _ _ h2;obtain⟨w0,w1,rest,ew⟩:∃w0 w1 rest,ro.words=w0::w1::rest:=by cases ro <;> exact⟨_,_,_,rfl⟩
   have BN:AB (ro.words.map V.str) ((0:Nat):Int)=some (.str w0):=AO (by rw[ew];rfl);refine⟨_,rfl,l,_,_,_,rfl,rfl,SqL.of hw,BN,rfl,_,rfl,?_⟩;refine A4 (λhe=>?_) (λhe=>?_)
   ·have e0:=V.str.inj (Bg he)
    obtain⟨n,sp,rfl⟩:∃n s,ro=.th n s:=by
     cases ro with
     | th n s=>exact⟨n,s,rfl⟩
     | pl n=>cases ew;exact absurd e0 (by decide +kernel)
     | bx n=>cases ew;exact absurd e0 (by decide +kernel)
     | lk n k=>cases ew;exact absurd e0 (by decide +kernel)
    have at1:AB ((Ro.th n sp).words.map V.str) ((1:Nat):Int)=some (.str n):=AO rfl;have at2:AB ((Ro.th n sp).words.map V.str) ((2:Nat):Int)=some (.str sp):=AO rfl
    have hsh:(CU (rs.take i)).length<=6:=by
     have:(ths rs).length=(ths (rs.take i)).length+(ths (rs.drop i)).length:=by rw[<- AX,<- Do,C0]
     unfold CU;rw[Ar];lia
    refine⟨_,rfl,l,_,_,_,rfl,rfl,SqL.of hw,at2,_,rfl,_,rfl,l,_,_,_,rfl,rfl,SqL.of hw,at1,d,_,rfl,DPut.k (k:=(Sum.inr n:Ag)) e2 (by lia),?_⟩
    have hnone:Aw (CU (rs.take i)) (Sum.inr n:Ag)=none:=by
     have hnd:((rs.take (i+1)).map Ro.name).Nodup:=by rw[Hr];exact LF (JL _ _) g.nd
     rw[htk,B5]at hnd;cases hv:Aw (CU (rs.take i)) (Sum.inr n:Ag)with
     | none=>rfl
     | some v=>exfalso;have hm:=SF hv;unfold CU at hm;rw[Dk]at hm;obtain⟨z,hz,ez⟩:=B0.mp hm;have ez':z.1=n:=Di ez;have hmn:n∈(rs.take i).map Ro.name:=ND (B0.mpr ⟨z,hz,ez'⟩);exact(Eu.mp hnd).2.2 n hmn n (AW.mpr rfl) rfl
    rw[FN _ hnone];refine⟨_,rfl,s2.put hd,?_⟩;rw[Ak,htk];unfold CU;rw[Do,B5];rfl
   refine⟨_,rfl,s2,?_⟩
   have e3:ths (rs.take (i+1))=ths (rs.take i):=by
    rw[htk,Do];cases ro with
    | th n s=>cases ew;exact absurd (AQ rfl) he
    | _=>exact CP _
   unfold CU;rw[e3];exact e2
 rintro σ H2 ⟨v2,rfl,s2,e2⟩;rw[show(ls.map V.ref).length=rs.length by rw[Ar,hlen],Dx]at e2;have hsh:(CU rs).length<=6:=by unfold CU;rw[Ar];lia
 refine⟨_,rfl,d,_,rfl,e2,_,_,rfl,rfl,_,rfl,?_⟩;refine A4 (λhlt=>?_) (λ_=>⟨_,rfl,q d H2 s2 hd e2⟩);exfalso;have:=Bg hlt;lia
def V4 (F:Fun K "read_places" "read_places" Kp f fd)(T:Bl mg)(M:Md K mg aN aF):FnOk P w K mg base CX0 1 f fd ["rows"] Mv:=by
 obtain⟨t1,m1⟩:=M.mp;refine F.oq scReadPlaces λcdv A outer s H vs Q E hr h=>?_;obtain⟨a,rs,ls,rfl,ha,ra,g,q⟩:=h;have hu:=Dw hr;have aa:sizeLine=16777216:=AM;have hfp:=g.fewP;have hlen:=ra.length;refine⟨_,Af (Ay (i:=1) scReadPlaces.nd IA) (Af (CI Dj rfl (BQ (pv 0)) (Bm (i:=2) scReadPlaces.nd) (Af (AH (AI A9 (Az Bb (pv 2) Ah (λ_ _=>rfl)) Av (AJ _)) (Am (EH hu (pv 1) (Az Bb (pv 2) Ah (λ_ _=>rfl)) (BR (Aa EJ (Aa Ej Ab))) rfl)) AG) (Am (AH (AI A9 (Az Bb (pv 2) Ah (λ_ _=>rfl)) Av (AJ _)) (Af (AH (AI A9 (AE Lj (by rfl) T.len A0 (Aa (pv 1) Ab)) Ah (AJ _)) Bu AG) (Am (EH hu (pv 1) (Az Bb (pv 2) Ah (λ_ _=>rfl)) (BR (Aa EJ (Aa (K0 (AI A9 (AE Bq (by rfl) T.len A0 (Aa (pv 2) Ab)) Ah (AJ _)) (Az Bb (pv 2) Ah (λ_ _=>rfl)) Ej) Ab))) rfl))) AG)))) (Af (AH (PW.pt (Cy (AI A9 (AE Lj (by rfl) T.len A0 (Aa (pv 1) Ab)) Ah (AJ _)) (DE (AI Fg (AE Lj (by rfl) T.len A0 (Aa (pv 1) Ab)) (A1 (v:=.int 6) (by rfl) m1 ⟨_,rfl⟩) (AJ _))))) Bu AG) (Am (AC (pv 1))))),?_⟩;intro d hd;have s0:Same H (Ac H d (.dK [])):=Same.new hd;refine⟨_,rfl,a,rfl,⟨_,SqL.of (s0 _ _ ha)⟩,EO (K:=K) (a:=a) (xs:=ls.map V.ref) (λi σ H2=>∃(v2:Option V) (kvs:List (Ag×V)),σ = [some (.ref a),some (.ref d),v2]/\Same H H2/\H2 d=some (.dK kvs)/\PlOk H2 (plc (rs.take i)) kvs) ⟨none,[],rfl,s0,Ak,.nil⟩ (λi σ H2 _ hh0=>by obtain⟨_,_,_,s2,_⟩:=hh0;exact SqL.of (s2 _ _ ha)) ?_ ?_⟩
 ·rintro i x σ H2 hx ⟨v2,kvs,rfl,s2,e2,pk2⟩;rw[A6]at hx;cases el:ls[i]? with
  | none=>rw[el]at hx;cases hx
  | some l=>
   rw[el]at hx;cases hx;obtain⟨ro,h1,h2⟩:=ra.get el;have hi:i<rs.length:=(AK.mp h1).1;have hro:rs[i]=ro:=(AK.mp h1).2;have htk:rs.take (i+1)=rs.take i++[ro]:=by rw[CD hi,hro]
   have hsp:rs=rs.take i++ro::rs.drop (i+1):=by rw[<- hro,List.getElem_cons_drop,C0]
   have hw:=s2 _ _ h2;obtain⟨w0,rest,ew⟩:∃w0 rest,ro.words=w0::ro.name::rest:=by cases ro <;> exact⟨_,_,rfl⟩
   have BN:AB (ro.words.map V.str) ((0:Nat):Int)=some (.str w0):=AO (by rw[ew];rfl);have at1:AB (ro.words.map V.str) ((1:Nat):Int)=some (.str ro.name):=AO (by rw[ew];rfl);have hkl:=pk2.length
   have hfew:(plc (rs.take i)).length<=6:=by
    have:(plc rs).length=(plc (rs.take i)).length+(plc (rs.drop i)).length:=by rw[<- AX,<- Eh,C0]
    lia
   have hnone:Aw kvs (Sum.inr ro.name:Ag)=none:=by
    refine pk2.none λz=>?_;have hnd:((rs.take (i+1)).map Ro.name).Nodup:=by rw[Hr];exact LF (JL _ _) g.nd
    rw[htk,B5]at hnd;exact(Eu.mp hnd).2.2 _ (Ji z) ro.name (AW.mpr rfl) rfl
   have put:∀(p:Str×Bool×Option Str) (tp:Addr) (H3:Hp),plc [ro]=[p]->p.1=ro.name->H2 tp=none->H3=Ac H2 tp (.tup [.bl p.2.1,C4 p.2.2])->Same H (Ac H3 d (.dK (kvs++[(Sum.inr ro.name,.ref tp)]))) /\
     PlOk (Ac H3 d (.dK (kvs++[(Sum.inr ro.name,.ref tp)]))) (plc (rs.take (i+1))) (kvs++[(Sum.inr ro.name,.ref tp)]):=λp tp H3 ep en ht e3=>by
    subst e3
    have dt:d≠tp:=AL e2 ht
    have s3:Same H2 (Ac H2 tp (.tup [.bl p.2.1,C4 p.2.2])):=Same.new ht
    refine⟨(s2.trans s3).put hd,?_⟩
    rw[htk,Eh,ep,<- en]
    refine PlOk.snoc (by rw[Aj dt.symm];exact Ak) (pk2.same λb xs e=>?_)
    rw[Aj (BJ e e2 (by intro z;cases z))]
    exact s3 _ _ e
   refine⟨_,rfl,l,_,_,_,rfl,rfl,SqL.of hw,BN,rfl,_,rfl,?_⟩;refine A4 (λhe=>?_) (λhe=>?_)
   ·have e0:=V.str.inj (Bg he)
    obtain⟨n,rfl⟩:∃n,ro=.pl n:=by
     cases ro with
     | pl n=>exact⟨n,rfl⟩
     | th n s=>cases ew;exact absurd e0 (by decide +kernel)
     | bx n=>cases ew;exact absurd e0 (by decide +kernel)
     | lk n k=>cases ew;exact absurd e0 (by decide +kernel)
    refine⟨by show 2<=sizeLine;decide,λtp htp=>?_⟩;have s3:Same H2 (Ac H2 tp (.tup [.bl false,.non])):=Same.new htp;obtain⟨p1,p2⟩:=put (n,false,none) tp _ rfl rfl htp rfl;refine⟨_,rfl,_,rfl,l,_,_,_,rfl,rfl,SqL.of (s3 _ _ hw),at1,d,_,rfl,DPut.k (k:=(Sum.inr (Ro.pl n).name:Ag)) (s3 _ _ e2) (by lia),?_⟩;rw[FN _ hnone];have hl4:=p1;have ld:l≠d:=BJ hw e2 (by intro z;cases z);have hw4:(Ac (Ac H2 tp (.tup [.bl false,.non])) d (.dK (kvs++[(Sum.inr (Ro.pl n).name,.ref tp)]))) l=some (.lst ((Ro.pl n).words.map V.str)):=by rw[Aj ld];exact s3 _ _ hw
    refine⟨_,rfl,l,_,_,_,rfl,rfl,SqL.of hw4,BN,rfl,_,rfl,?_⟩;refine A4 (λhb=>?_) (λ_=>⟨_,_,rfl,p1,Ak,p2⟩);exfalso;cases ew;exact absurd (V.str.inj (Bg hb)) (by decide +kernel)
   refine⟨_,rfl,l,_,_,_,rfl,rfl,SqL.of hw,BN,rfl,_,rfl,?_⟩;refine A4 (λhb=>?_) (λhb=>?_)
   ·have e0:=V.str.inj (Bg hb)
    have hbx:ro.boxed=true:=by
     cases ro with
     | pl n=>cases ew;exact absurd e0 (by decide +kernel)
     | th n s=>cases ew;exact absurd e0 (by decide +kernel)
     | bx n=>rfl
     | lk n k=>rfl
    have hne:=g.floor hsp hbx;refine⟨_,rfl,d,_,rfl,e2,rfl,_,rfl,?_⟩;refine A4 (λhz=>?_) (λ_=>?_)
    ·exfalso;have:=V.int.inj (Bg hz);exact hne (length_eq_zero_iff.mp (by lia))
    have hwl:(ro.words.map V.str).length=ro.words.length:=Ar ..;refine⟨_,rfl,_,_,rfl,.inl ⟨_,SqL.of hw,rfl⟩,rfl,_,rfl,?_⟩;refine A4 (λh3=>?_) (λh3=>?_)
    ·obtain⟨n,k,rfl⟩:∃n k,ro=.lk n k:=by
      cases ro with
      | lk n k=>exact⟨n,k,rfl⟩
      | bx n=>exact absurd (show((2:Nat):Int)=3 from V.int.inj (Bg h3)) (by decide)
      | pl n=>cases hbx
      | th n s=>cases hbx
     have at2:AB ((Ro.lk n k).words.map V.str) ((2:Nat):Int)=some (.str k):=AO rfl;refine⟨_,rfl,l,_,_,_,rfl,rfl,SqL.of hw,at2,by show 2<=sizeLine;decide,λtp htp=>?_⟩;have s3:Same H2 (Ac H2 tp (.tup [.bl true,.str k])):=Same.new htp;obtain⟨p1,p2⟩:=put (n,true,some k) tp _ rfl rfl htp rfl;refine⟨_,rfl,_,rfl,l,_,_,_,rfl,rfl,SqL.of (s3 _ _ hw),at1,d,_,rfl,DPut.k (k:=(Sum.inr (Ro.lk n k).name:Ag)) (s3 _ _ e2) (by lia),?_⟩;rw[FN _ hnone];exact⟨_,_,rfl,p1,Ak,p2⟩
    obtain⟨n,rfl⟩:∃n,ro=.bx n:=by
     cases ro with
     | bx n=>exact⟨n,rfl⟩
     | lk n k=>exact absurd (by rfl) h3
     | pl n=>cases hbx
     | th n s=>cases hbx
    refine⟨by show 2<=sizeLine;decide,λtp htp=>?_⟩;have s3:Same H2 (Ac H2 tp (.tup [.bl true,.non])):=Same.new htp;obtain⟨p1,p2⟩:=put (n,true,none) tp _ rfl rfl htp rfl;refine⟨_,rfl,_,rfl,l,_,_,_,rfl,rfl,SqL.of (s3 _ _ hw),at1,d,_,rfl,DPut.k (k:=(Sum.inr (Ro.bx n).name:Ag)) (s3 _ _ e2) (by lia),?_⟩;rw[FN _ hnone];exact⟨_,_,rfl,p1,Ak,p2⟩
   refine⟨_,kvs,rfl,s2,e2,?_⟩
   have:plc (rs.take (i+1))=plc (rs.take i):=by
    rw[htk,Eh];cases ro with
    | th n s=>exact CP _
    | pl n=>cases ew;exact absurd (AQ rfl) he
    | bx n=>cases ew;exact absurd (AQ rfl) hb
    | lk n k=>cases ew;exact absurd (AQ rfl) hb
   rw[this];exact pk2
 rintro σ H2 ⟨v2,kvs,rfl,s2,e2,pk2⟩;rw[show(ls.map V.ref).length=rs.length by rw[Ar,hlen],Dx]at pk2;have hkl:=pk2.length;obtain⟨n,t,hfl⟩:=g.first;have hpos:0<(plc rs).length:=by rw[hfl];exact Nat.zero_lt_succ _
 refine⟨_,rfl,d,_,rfl,e2,rfl,_,rfl,?_⟩;refine A4 (λhz=>?_) (λ_=>?_)
 ·exfalso;have:=V.int.inj (Bg hz);lia
 refine⟨_,rfl,d,_,rfl,e2,_,_,rfl,rfl,_,rfl,?_⟩;refine A4 (λhlt=>?_) (λ_=>⟨_,rfl,q d kvs H2 s2 hd e2 pk2⟩);exfalso;have:=Bg hlt;lia
def WN (F:Fun K "check_keys" "check_keys" KQ f fd):FnOk P w K mg base CX0 1 f fd ["places", "shapes"] MW:=by
 refine F.oq scCheckKeys λcdv A outer s H vs Q E hr h=>?_;obtain⟨d1,d2,rs,kvs,rfl,h1,pk1,h2,ne,g,q⟩:=h;have hu:=Dw hr;refine⟨_,Am (CI Dj rfl (Vl (Qn PySem.F.plainAttrs_dict PySem.F.slot_dict_values PySem.F.type_dict_values Ya (pv 0))) (Bm (i:=2) scCheckKeys.nd) (Af (Ay (i:=3) scCheckKeys.nd (Az Bs (pv 2) Ah (λ_ _=>rfl))) (Am (AH (PW.pt (Nh (AI Vy (pv 3) Ej (AJ _)) (Ng (FO (K1 hu (pv 3) (pv 1)))))) Bu AG)))),?_⟩;refine⟨_,rfl,.inr (.inr (.inl ⟨rfl,.inl ⟨_,h1⟩⟩)),d1,kvs,rfl,rfl,h1,λv hv=>?_⟩;have v1:d1≠v:=AL h1 hv;refine⟨v,d1,kvs,rfl,Ak,by rw[Aj v1];exact h1,λo=>?_⟩;have kp:∀b u,H b=some u->b≠d1->(Ac (Ac H v (Gs v d1)) d1 (.frz o (.dK kvs))) b=some u:=λb u e hb=>by rw[Aj hb,Aj (AL e hv)];exact e
 have e1:(Ac (Ac H v (Gs v d1)) d1 (.frz o (.dK kvs))) d1=some (.frz o (.dK kvs)):=Ak;generalize (Ac (Ac H v (Gs v d1)) d1 (.frz o (.dK kvs)))=H2 at kp e1 ⊢;have h22:=kp _ _ h2 ne.symm;have pk2:PlOk H2 (plc rs) kvs:=pk1.same λb xs e=>kp _ _ e (BJ e h1 (by intro z;cases z));refine Zc (a:=d1) (o:=o) (kvs:=kvs) (λ_ σ H3=>∃v2 v3:Option V,σ = [some (.ref d1),some (.ref d2),v2,v3]/\H3=H2) ⟨none,none,rfl,rfl⟩ (λi σ H3 _ hh0=>by obtain⟨_,_,_,e⟩:=hh0;rw[e];exact e1) ?_ ?_
 ·rintro i k x σ H3 hx ⟨v2,v3,rfl,rfl⟩;obtain⟨p,t,hp,rfl,ht⟩:=pk2.get hx;have hpm:p∈plc rs:=BE hp;have at1:AB [V.bl p.2.1,C4 p.2.2] ((1:Nat):Int)=some (C4 p.2.2):=AO rfl;refine⟨_,rfl,t,_,_,_,rfl,rfl,SqT.of ht,at1,?_⟩;cases hk:p.2.2 with
  | none=>refine⟨_,rfl,rfl,_,rfl,?_⟩;refine Bc ?_;exact Bc ⟨_,_,rfl,rfl⟩
  | some key=>
   refine⟨_,rfl,rfl,_,rfl,?_⟩;refine AS ?_;refine⟨_,rfl,_,rfl,d2,_,rfl,DGet.k (k:=(Sum.inr key:Ag)) h22,_,rfl,?_⟩;have hmem:=g.keys p hpm key hk;obtain⟨y,hy,ey⟩:=B0.mp hmem;have hs:(Aw (CU rs) (Sum.inr key:Ag)).isSome=true:=by rw[<- E3,JK];exact⟨(Sum.inr y.1,.str y.2),B0.mpr ⟨y,hy,rfl⟩,AQ (by rw[ey])⟩
   rw[hs];exact Bc ⟨_,_,rfl,rfl⟩
 rintro σ H3 ⟨v2,v3,rfl,rfl⟩;exact q o _ kp e1
def Wz (F:Fun K "__init__" "Room.__init__" KH f fd)(L:Cl K C)(DR:Df K mg "read_rows" EG ["lines"] fR dR)(DP:Df K mg "read_places" Kp ["rows"] fP dP)(DT:Df K mg "read_things" Km ["rows"] fT dT)(DK:Df K mg "check_keys" KQ ["places", "shapes"] fK dK)
  (GR:FnOk P w K mg base CX0 3 fR dR ["lines"] Mu)(GP:FnOk P w K mg base CX0 1 fP dP ["rows"] Mv)(GT:FnOk P w K mg base CX0 1 fT dT ["rows"] Mt)(GK:FnOk P w K mg base CX0 1 fK dK ["places", "shapes"] MW):FnOk P w K mg base CX0 4 f fd ["self", "lines"] (Kf C):=by
 refine F.oq scInit λcdv A outer s H vs Q E hr h=>?_
 obtain⟨x,dx,a,rs,rfl,hx,ha,g,hrl,q⟩:=h
 have hr1:Room 1 _:=hr.mono (by decide)
 refine⟨_,Af (Ay (i:=2) scInit.nd (AU GR hr (by rfl) DR.m DR.F.kp DR.b .nil Au (Aa (pv 1) Ab))) (Af (Ay (i:=3) scInit.nd (AU GP hr1 (by rfl) DP.m DP.F.kp DP.b .nil Au (Aa (pv 2) Ab))) (Af (Ay (i:=4) scInit.nd (AU GT hr1 (by rfl) DT.m DT.F.kp DT.b .nil Au (Aa (pv 2) Ab))) (Af (Cs (AU GK hr1 (by rfl) DK.m DK.F.kp DK.b .nil Au (Aa (pv 3) (Aa (pv 4) Ab)))) (Af (KZ (pv 0) (pv 3) rfl) (Am (KZ (pv 0) (pv 4) rfl)))))),?_⟩
 refine⟨_,rfl,a,rs,rfl,ha,g,hrl,λl ls H1 s1 el ra=>?_⟩
 refine⟨_,rfl,l,rs,ls,rfl,el,ra,g,λd1 kvs H2 s2 f1 e1 pk1=>?_⟩
 refine⟨_,rfl,l,rs,ls,rfl,s2 _ _ el,ra.same s2,g,λd2 H3 s3 f2 e2=>?_⟩
 have n12:d1≠d2:=AL e1 f2
 refine⟨_,rfl,_,rfl,d1,d2,rs,kvs,rfl,s3 _ _ e1,pk1.same (λb xs e=>s3 _ _ e),e2,n12,g,λo H4 kp e4=>?_⟩
 have s13:=(s1.trans s2).trans s3
 have hx3:=s13 _ _ hx
 have x1:x≠d1:=λz=>by have:=s1 _ _ hx;rw[z,f1]at this;cases this
 have x2:x≠d2:=λz=>by have:=(s1.trans s2) _ _ hx;rw[z,f2]at this;cases this
 have hx4:=kp _ _ hx3 x1
 refine⟨_,rfl,_,rfl,x,C,dx,[],rfl,hx4,L.cl,L.nP,(by show 0<1000;decide),?_⟩
 refine⟨_,rfl,_,rfl,x,C,dx,_,rfl,Ak,L.cl,L.nS,(by show 1<1000;decide),?_⟩
 rw[SH]
 have all:∀b u,H4 b=some u->b≠x->(Ac H4 x (.ins C dx (Fd d1 d2))) b=some u:=λb u e hb=>by rw[Aj hb];exact e
 refine q _ (λb u e hb=>all b u (kp b u (s13 _ _ e) ?_) hb) ⟨dx,d1,d2,o,kvs,Ak,all _ _ e4 x1.symm,?_,all _ _ (kp _ _ e2 n12.symm) x2.symm⟩
 ·intro z;have:=s1 _ _ e;rw[z,f1]at this;cases this
 refine pk1.same λb xs e=>all _ _ (kp _ _ (s3 _ _ e) (BJ e e1 (by intro z;cases z))) ?_
 exact BJ (s3 _ _ e) hx3 (by intro z;cases z)
def V5 (F:Fun K "places" "Room.places" M5 f fd)(L:Cl K C)(T:Bl mg):FnOk P w K mg base CX0 1 f fd ["self"] (Ee C):=by refine F.oq Um λcdv A outer s H vs Q E hr h=>?_;obtain⟨x,rs,rfl,R,q⟩:=h;obtain⟨dx,d1,d2,o,kvs,h1,h2,h3,h4⟩:=R.ex;refine⟨_,Am (AC (Dq (RJ rfl) (by rfl) T.list Hj (Aa (Iz (pv 0) rfl) Ab))),?_⟩;refine⟨_,rfl,x,C,dx,_,_,rfl,h1,L.cl,L.nP,Im d1 d2,d1,kvs,rfl,.inr ⟨o,h2⟩,λl hl=>?_⟩;exact q l _ (Same.new hl) hl (by rw[Ak,h3.keys])
def UM (d1 d2:Addr):(Fd d1 d2).lookup ("told_shapes" : Str)=some (.ref d2):=by unfold Fd;rw[FU,As rfl]
abbrev BC:=Str×Bool×Option Str
theorem PlOk.find :∀{ps:List BC}{kvs:List (Ag×V)},PlOk H ps kvs->(ps.map (·.1)).Nodup->p∈ps->∃t,Aw kvs (Sum.inr p.1:Ag)=some (.ref t)/\H t=some (.tup [.bl p.2.1,C4 p.2.2])
 | _,_,.nil,_,hm=>nomatch hm
 | _,_,.cons ⟨e,t,e2,e3⟩ b,nd,h=>by
  rcases(AD.mp h)with z | z
  ·subst z;exact⟨t,by rw[BV e,e2],e3⟩
  have nd':=BU.mp (show((_::_:List Str)).Nodup from nd);rw[A7 (λq=>nd'.1 (by rw[e]at q;exact B0.mpr ⟨p,z,(Di q).symm⟩))];exact PlOk.find b nd'.2 z
theorem KY :∀{xs:List V}{ys:List Str},RdVs H xs (ys.map PyData.str)->xs=ys.map V.str
 | [],[],_=>rfl
 | _::_,[],h=>by cases h
 | [],_::_,h=>by cases h
 | x::xs,y::ys,h=>by
  cases h with
  | cons a b=>cases a;rw[KY b];rfl
def Ob {ps:List Str}(nd:ps.Nodup){i:Nat}{x:Str}(h:ps[i]? = some x):∀m,m<i->ps[m]?≠some x:=λm hm e=>by obtain⟨h1,h2⟩:=AK.mp h;obtain⟨e1,e2⟩:=AK.mp e;have:=(Hv nd).mp (e2.trans h2.symm);lia
def Y1 {H:Hp}{xs:List V}{hs:List (List Str)}(r:RdVs H xs (hs.map dH)){i:Nat}{hp:List Str}(h:hs[i]? = some hp):∃t,xs[i]? = some (.ref t)/\H t=some (.tup (hp.map V.str)):=by
 have hl:=r.length;rw[Ar]at hl;have hi:=(AK.mp h).1;obtain⟨y,hx⟩:∃y,xs[i]? = some y:=⟨xs[i],Bi (by lia)⟩;obtain⟨d,hd,rd⟩:=r.get hx;rw[A6,h]at hd;have hd':dH hp=d:=Bx hd;subst hd';unfold dH at rd;cases rd with
 | tup eh rh=>rw[KY rh]at eh;exact⟨_,hx,eh⟩
def NM (h:RdV H v (dO o)):v=oV o:=by
 cases o with
 | none=>cases h;rfl
 | some x=>cases h;rfl
inductive Gw (C:Addr)(vs:List V)(H:Hp)(Q:VK)(E0_:XK):Prop
 | mk (x:Addr) (rs:List Ro) (v:V) (W:Wl) (i:Nat) (p:BC) (hp:List Str) (c0:vs=[.ref x,v,.str p.1]) (c1:RoomAt C H x rs) (c2:Good rs) (c3:RdV H v (dW W)) (c4:(plc rs)[i]? = some p) (c5:W.heaps[i]? = some hp) (c6:∀(t:Addr) (H':Hp),Same H H'->H t=some (.tup (hp.map V.str))->Q (.ref t) H'):Gw C vs H Q E0_
inductive Kc (C:Addr)(vs:List V)(H:Hp)(Q:VK)(E0_:XK):Prop
 | mk (x:Addr) (rs:List Ro) (v:V) (W:Wl) (i:Nat) (p:BC) (l:Str) (c0:vs=[.ref x,v,.str p.1]) (c1:RoomAt C H x rs) (c2:Good rs) (c3:RdV H v (dW W)) (c4:(plc rs)[i]? = some p) (c5:W.lids[i]? = some l) (c6:∀H':Hp,Same H H'->Q (.str l) H'):Kc C vs H Q E0_
abbrev DO:List Str:=["room", "world", "place"]
abbrev XG:List Str:=DO
def Ux:AF XG DO (Aq FJ):=AN
abbrev GM:List Str:=["room", "world", "place"]
abbrev Xr:List Str:=GM
def Uq:AF Xr GM (Aq Ig):=AN
inductive Kd (C:Addr)(vs:List V)(H:Hp)(Q:VK)(E0_:XK):Prop
 | mk (x:Addr) (rs:List Ro) (p:BC) (c0:vs=[.ref x,.str p.1]) (c1:RoomAt C H x rs) (c2:Good rs) (c3:p∈plc rs) (c4:∀t:Addr,H t=some (.tup [.bl p.2.1,C4 p.2.2])->Q (.ref t) H):Kd C vs H Q E0_
def PB:AF ["self", "place"] ["self", "place"] (Aq Ky):=AN
inductive MG (C:Addr)(vs:List V)(H:Hp)(Q:VK)(E0_:XK):Prop
 | mk (x:Addr) (rs:List Ro) (p:BC) (c0:vs=[.ref x,.str p.1]) (c1:RoomAt C H x rs) (c2:Good rs) (c3:p∈plc rs) (c4:Q (.bl p.2.1) H):MG C vs H Q E0_
def Up:AF ["self", "place"] ["self", "place"] (Aq M7):=AN
inductive MH (C:Addr)(vs:List V)(H:Hp)(Q:VK)(E0_:XK):Prop
 | mk (x:Addr) (rs:List Ro) (p:BC) (c0:vs=[.ref x,.str p.1]) (c1:RoomAt C H x rs) (c2:Good rs) (c3:p∈plc rs) (c4:Q (C4 p.2.2) H):MH C vs H Q E0_
def PD:AF ["self", "place"] ["self", "place"] (Aq KB):=AN
theorem He {α:Type}{g:α->PyData}:∀{xs:List α},(∀x∈xs,(g x).canLay0=true)->PyData.canLayAll0 (xs.map g)=true
 | [],_=>by rw[map_nil,PyData.canLayAll0]
 | x::xs,h=>by rw[Bj,PyData.canLayAll0,h x AZ,He λy hy=>h y (AR _ hy)];rfl
theorem Le {α:Type}{g:α->PyData}{n:Nat}:∀{xs:List α},(∀x∈xs,(g x).depth<=n)->PyData.depthAll (xs.map g)<=n
 | [],_=>by rw[map_nil,PyData.depthAll];exact Be _
 | x::xs,h=>by have h1:=h x AZ;have h2:=Le λy hy=>h y (AR _ hy);rw[Bj,PyData.depthAll];lia
def La (h:strOk x=true):(PyData.str x).canLay0=true:=by rw[PyData.canLay0];exact h
def Yx (h:∀x∈xs,strOk x=true):(dH xs).canLay0=true:=by unfold dH;rw[PyData.canLay0];exact He λx hx=>La (h x hx)
def NT (xs:List Str):PyData.depthAll (xs.map PyData.str)<=0:=Le (g:=PyData.str) (n:=0) (xs:=xs) λx _=>by rw[PyData.depth];exact AA 0
def Zz (xs:List Str):(dH xs).depth<=1:=by unfold dH;rw[PyData.depth];have:=NT xs;lia
def M3 (h1:d.canLay0=true)(h2:d.depth<=64):shaped d=true:=by unfold shaped;rw[h1,AQ h2];rfl
def Pu {xs:List Str}(h:∀x∈xs,strOk x=true):shaped (.list (xs.map PyData.str))=true:=by
 refine M3 ?_ ?_
 ·rw[PyData.canLay0];exact He λx hx=>La (h x hx)
 rw[PyData.depth];have:=NT xs;lia
def Ua (h:Ok W):shaped (dW W)=true:=by
 have l1:(dO W.hand).canLay0=true:=by
  cases hh:W.hand with
  | none=>decide +kernel
  | some x=>exact La (h.hand x hh).1
 have d1:(dO W.hand).depth<=0:=by
  cases W.hand with
  | none=>rw[dO,PyData.depth];exact AA 0
  | some x=>rw[dO,PyData.depth];exact AA 0
 have l2:=He (g:=dH) (xs:=W.heaps) λx hx=>Yx λy hy=>(h.heaps x hx y hy).1;have d2:=Le (g:=dH) (n:=1) (xs:=W.heaps) λx _=>Zz x;have l3:=He (g:=PyData.str) (xs:=W.lids) λx hx=>La (h.lids x hx).1;have d3:=NT W.lids;refine M3 ?_ ?_
 ·unfold dW;rw[PyData.canLay0,PyData.canLayAll0,PyData.canLayAll0,PyData.canLayAll0,PyData.canLayAll0,l1,PyData.canLay0,l2,PyData.canLay0,l3];rfl
 unfold dW;rw[PyData.depth,PyData.depthAll,PyData.depthAll,PyData.depthAll,PyData.depthAll,PyData.depth,PyData.depth];lia
def placesK:List (Ag×V):=[(Sum.inr "take",.int 1),(Sum.inr "put",.int 1),(Sum.inr "toss",.int 1),(Sum.inr "open",.int 1),(Sum.inr "shut",.int 1),(Sum.inr "lock",.int 1),(Sum.inr "unlock",.int 1),(Sum.inr "tip",.int 2),(Sum.inr "shake",.int 1)]
structure Dd (P:Program)(w:World)(K:W.Frag)(mg:Str->Option Value)(aP:Addr):Prop where
 pm:mg "PLACES" = some (.ref aP)
 pd:KD P w K aP placesK
def BP (a:Str):V:=(Aw placesK (Sum.inr a:Ag)).getD .non
def SE {k:Ag} (h:Aw kvs k=some v):∃kv∈kvs,kv.2=v:=by
 induction kvs with
 | nil=>cases h
 | cons p r ih=>
  by_cases e:p.1=k
  ·rw[BV e]at h;exact⟨p,AZ,Bx h⟩
  rw[A7 e]at h;obtain⟨kv,a,b⟩:=ih h;exact⟨kv,AR _ a,b⟩
def Nk (a:Str):BP a=.non\/BP a=.int 1\/BP a=.int 2:=by
 unfold BP;cases h:Aw placesK (Sum.inr a:Ag)with
 | none=>exact .inl rfl
 | some v=>obtain⟨kv,hm,e⟩:=SE h;have:=(by decide +kernel:∀kv∈placesK,kv.2=V.int 1\/kv.2=V.int 2) kv hm;rw[e]at this;exact .inr this
def ZZ:bootBuiltins "ValueError" = some (.type "ValueError"):=by decide +kernel
def SL:typeOf (.type "ValueError")=pure (.type "type"):=by kernel_rfl
def Rp (x:Str):Prop:=(reprText x).length<=100000
structure Wd (line:Str)(ws:List Str):Prop where
 e:line=Txt.join Bt ws
 ne:ws≠[]
 nb:∀w∈ws,32∉cs w
def Wd.split (h:Wd line ws):Txt.split line Bt=ws:=by rw[h.e];exact J9 h.ne h.nb
def Fm (rs:List Ro)(a:Str)(ps:List Str):Bool:=decide (BP a=V.int (ps.length:Int)) && ((ps.all λp=>decide (p∈(plc rs).map (·.1))) && decide ps.Nodup)
abbrev Ff:List Str:=["room", "line"]
abbrev Xi:List Str:=BZ Ff ["words", "places"]
def scReadDeed:AF Xi Ff (Aq E6):=AN
inductive FC (vs:List V)(H:Hp)(Q:VK)(E0_:XK):Prop
 | mk (v:V) (W:Wl) (c0:vs=[v]) (c1:RdV H v (dW W)) (c2:Q (.bl W.hand.isNone) H):FC  vs H Q E0_
abbrev De:List Str:=["world"]
abbrev XA:List Str:=De
def Uv:AF XA De (Aq E8):=AN
inductive FD (C:Addr)(vs:List V)(H:Hp)(Q:VK)(E0_:XK):Prop
 | mk (x:Addr) (rs:List Ro) (e:Addr) (xs:List V) (i:Nat) (p:BC) (y:V) (c0:vs=[.ref x,.ref e,.str p.1,y]) (c1:RoomAt C H x rs) (c2:Good rs) (c3:H e=some (.tup xs)) (c4:i<xs.length) (c5:xs.length<=100) (c6:(plc rs)[i]? = some p) (c7:∀(t:Addr) (H':Hp),Same H H'->H' t=some (.tup (xs.set i y))->Q (.ref t) H'):FD C vs H Q E0_
abbrev Dr:List Str:=["room", "entries", "place", "entry"]
abbrev XX:List Str:=BZ Dr ["spot"]
def scChanged:AF XX Dr (Aq Fb):=AN
def PL (n d:Nat):HT.sIx n d (some (-1))=n-1:=by show(if (-1:Int)<0 then((-1:Int)+(n:Int)).toNat else min (-1:Int).toNat n)=n-1;rw[As (by decide)];lia
structure Pt (rs:List Ro)(W:Wl)(i:Nat)(p:BC)(hp:List Str)(l:Str):Prop where
 pl:(plc rs)[i]? = some p
 he:W.heaps[i]? = some hp
 li:W.lids[i]? = some l
 few:W.heaps.length<=100
 len:hp.length<=100
def Pt.of (g:Good rs)(fw:Fw rs W)(sz:Sz W (plc rs).length)(h:i<(plc rs).length):∃p hp l,Pt rs W i p hp l:=by
 have h1:i<W.heaps.length:=by have:=sz.1;lia
 have h2:i<W.lids.length:=by have:=sz.2;lia
 have h3:=g.fewP;exact⟨_,_,_,Bi h,Bi h1,Bi h2,by have:=sz.1;lia,(fw.ok g sz).few _ (Dy h1)⟩
inductive Gv (C:Addr)(vs:List V)(H:Hp)(Q:VK)(E0_:XK):Prop
 | mk (x:Addr) (rs:List Ro) (v:V) (W:Wl) (i:Nat) (p:BC) (l:Str) (c0:vs=[.ref x,v,.str p.1]) (c1:RoomAt C H x rs) (c2:Good rs) (c3:RdV H v (dW W)) (c4:(plc rs)[i]? = some p) (c5:W.lids[i]? = some l) (c6:∀H':Hp,Same H H'->Q (.bl (decide (l = "open"))) H'):Gv C vs H Q E0_
abbrev DM:List Str:=["room", "world", "place"]
abbrev Xz:List Str:=DM
def Uu:AF Xz DM (Aq FH):=AN
theorem FL :∀{xs:List V}{ds:List PyData}(i:Nat) {x:V}{d:PyData},RdVs H xs ds->RdV H x d->RdVs H (xs.set i x) (ds.set i d)
 | _,_,_,_,_,.nil,_=>.nil
 | _,_,0,_,_,.cons _ b,r=>.cons r b
 | _,_,i+1,_,_,.cons a b,r=>.cons a (FL i b r)
def Ed (W:Wl)(i:Nat)(hp:List Str)(l:Str):List Wl:=if W.hand=none/\l = "open" /\ hp≠[]then [⟨hp.getLast?,W.heaps.set i hp.dropLast,W.lids⟩]else []
def FW (t1 t2 t3 t4:Addr):List (Ag×V):=[(Sum.inr "open",.ref t1),(Sum.inr "shut",.ref t2),(Sum.inr "lock",.ref t3),(Sum.inr "unlock",.ref t4)]
structure Dl (P:Program)(w:World)(K:W.Frag)(mg:Str->Option Value)(aL t1 t2 t3 t4:Addr):Prop where
 lm:mg "LIDS_deeds" = some (.ref aL)
 ld:KD P w K aL (FW t1 t2 t3 t4)
 k1:∀H:Hp,SqT K H t1 [V.str "shut",V.str "open"]
 k2:∀H:Hp,SqT K H t2 [V.str "open",V.str "shut"]
 k3:∀H:Hp,SqT K H t3 [V.str "shut",V.str "locked"]
 k4:∀H:Hp,SqT K H t4 [V.str "locked",V.str "shut"]
def En:List Str:=["open", "shut", "lock", "unlock"]
def Hk (w:Str):Str:=if w = "shut" then "open" else if w = "unlock" then "locked" else "shut"
def F3 (w:Str):Str:=if w = "open" then "open" else if w = "lock" then "locked" else "shut"
def NG {w:Str}(h:w∈En):w = "open" \/ w = "shut" \/ w = "lock" \/ w = "unlock" := by simpa only [En,AD,B6,B4] using h
def Dl.got (D:Dl P w K mg aL t1 t2 t3 t4) (h:x∈En):∃t,Aw (FW t1 t2 t3 t4) (Sum.inr x:Ag)=some (.ref t)/\∀H:Hp,SqT K H t [V.str (Hk x),V.str (F3 x)]:=by
 unfold FW;rcases NG h with e | e | e | e
 ·subst e;exact⟨t1,BV rfl,D.k1⟩
 ·subst e;exact⟨t2,by rw[A7 (Bz (by decide +kernel)),BV rfl],D.k2⟩
 ·subst e;exact⟨t3,by rw[A7 (Bz (by decide +kernel)),A7 (Bz (by decide +kernel)),BV rfl],D.k3⟩
 subst e;exact⟨t4,by rw[A7 (Bz (by decide +kernel)),A7 (Bz (by decide +kernel)),A7 (Bz (by decide +kernel)),BV rfl],D.k4⟩
def Jx (W:Wl)(p:BC)(w:Str):Bool:=if w∈(["lock", "unlock"]:List Str)then W.hand.isSome && decide (oV W.hand=C4 p.2.2)else W.hand.isNone && p.2.1
def FX (w:Str)(p:BC)(W:Wl)(i:Nat)(l:Str):List Wl:=if l=Hk w/\Jx W p w=true then [⟨W.hand,W.heaps,W.lids.set i (F3 w)⟩]else []
inductive Ka (C:Addr)(vs:List V)(H:Hp)(Q:VK)(E0_:XK):Prop
 | mk (x:Addr) (rs:List Ro) (line a:Str) (ps:List Str) (c0:vs=[.ref x,.str line]) (c1:RoomAt C H x rs) (c2:Wd line (a::ps)) (c3:line.length<=1000) (c4:ps.length<=100) (c5:Fm rs a ps=true) (c6:∀(l:Addr) (H':Hp),Same H H'->H' l=some (.lst ((a::ps).map V.str))->Q (.ref l) H'):Ka C vs H Q E0_
inductive MO (C:Addr)(vs:List V)(H:Hp)(Q:VK)(E0_:XK):Prop
 | mk (x:Addr) (rs:List Ro) (v:V) (W:Wl) (w:Str) (p:BC) (c0:vs=[.ref x,v,.str w,.str p.1]) (c1:RoomAt C H x rs) (c2:Good rs) (c3:RdV H v (dW W)) (c4:p∈plc rs) (c5:∀H':Hp,Same H H'->Q (.bl (Jx W p w)) H'):MO C vs H Q E0_
abbrev IV:List Str:=["room", "world", "word", "place"]
abbrev XH:List Str:=IV
def Uy:AF XH IV (Aq KJ):=AN
inductive MB (C:Addr)(vs:List V)(H:Hp)(Q:VK)(E0_:XK):Prop
 | mk (x:Addr) (rs:List Ro) (v:V) (W:Wl) (w:Str) (i:Nat) (p:BC) (hp:List Str) (l:Str) (c0:vs=[.ref x,v,.str w,.str p.1]) (c1:RoomAt C H x rs) (c2:Good rs) (c3:RdV H v (dW W)) (c4:Pt rs W i p hp l) (c5:W.lids.length<=100) (c6:w∈En) (c7:∀(lw:Addr) (us:List V) (H':Hp),Same H H'->H' lw=some (.lst us)->RdVs H' us ((FX w p W i l).map dW)->Q (.ref lw) H'):MB C vs H Q E0_
abbrev IP:List Str:=["room", "world", "word", "place"]
abbrev Xp:List Str:=BZ IP ["before", "behind"]
def scMoveLid:AF Xp IP (Aq Ku):=AN
abbrev FQ:List Str:=["room", "line", "world"]
abbrev W9:List Str:=BZ FQ ["words"]
def scTurns:AF W9 FQ (Aq GA):=AN
def Ra {rs:List Ro}{a:Str}{i:Nat}{p:BC}(hp:(plc rs)[i]? = some p)(ha:BP a=V.int 1):Fm rs a [p.1]=true:=by
 unfold Fm;rw[show decide (BP a=V.int (([p.1].length:Nat):Int))=true from AQ ha];rw[show([p.1].all λp=>decide (p∈(plc rs).map (·.1)))=true from ?_]
 ·rw[AQ (show [p.1].Nodup from by simp)];rfl
 rw[DW];intro y hy;rw[AW.mp hy];exact AQ (EV (BE hp))
def QC {w:Str}(h:w∈En):BP w=V.int 1:=by rcases NG h with e | e | e | e <;> (rw[e];decide +kernel)
def FY (t:Str)(W:Wl)(i:Nat):Wl:=⟨none,W.heaps.set i (W.heaps.getD i []++[t]),W.lids⟩
def CF (i:Nat):List Nat:=if i=0 then [0]else [i,0]
def putF (W:Wl)(i:Nat)(_:List Str)(l:Str):List Wl:=match W.hand with
 | some t=>if l = "open" then [FY t W i]else []
 | none=>[]
def ED (W:Wl)(i:Nat)(_:List Str)(l:Str):List Wl:=match W.hand with
 | some t=>if l = "open" then(CF i).map (FY t W)else []
 | none=>[]
def FA (hp:List Str):List Str:=hp.take (hp.length-2)++(hp.drop (hp.length-2)).reverse
def Ef (W:Wl)(i:Nat)(hp:List Str)(l:Str):List Wl:=if W.hand=none/\l ≠ "open" /\ 2<=hp.length then [W,⟨none,W.heaps.set i (FA hp),W.lids⟩]else []
def EE (W:Wl)(i:Nat)(hp:List Str)(l:Str)(j:Nat)(hq:List Str)(lq:Str):List Wl:=if W.hand=none/\l = "open" /\ lq = "open" /\ hp≠[]then [⟨none,(W.heaps.set i []).set j (hq++hp.reverse),W.lids⟩]else []
def Jh (w:Str):Wl->Nat->List Str->Str->List Wl:=if w = "take" then Ed else if w = "put" then putF else if w = "toss" then ED else Ef
inductive EF (C:Addr)(F:Wl->Nat->List Str->Str->List Wl)(vs:List V)(H:Hp)(Q:VK)(E0_:XK):Prop
 | mk (x:Addr) (rs:List Ro) (v:V) (W:Wl) (i:Nat) (p:BC) (hp:List Str) (l:Str) (c0:vs=[.ref x,v,.str p.1]) (c1:RoomAt C H x rs) (c2:Good rs) (c3:RdV H v (dW W)) (c4:Pt rs W i p hp l) (c5:(∀h∈W.heaps,h.length<=100)) (c6:∀(lw:Addr) (us:List V) (H':Hp),Same H H'->H lw=none->H' lw=some (.lst us)->RdVs H' us ((F W i hp l).map dW)->Q (.ref lw) H'):EF C F vs H Q E0_
inductive Mm (C:Addr)(vs:List V)(H:Hp)(Q:VK)(E0_:XK):Prop
 | mk (x:Addr) (rs:List Ro) (v:V) (W:Wl) (i:Nat) (p:BC) (hp:List Str) (l:Str) (j:Nat) (pj:BC) (hq:List Str) (lq:Str) (c0:vs=[.ref x,v,.str p.1,.str pj.1]) (c1:RoomAt C H x rs) (c2:Good rs) (c3:RdV H v (dW W)) (c4:Pt rs W i p hp l) (c5:Pt rs W j pj hq lq) (c6:∀(lw:Addr) (us:List V) (H':Hp),Same H H'->H lw=none->H' lw=some (.lst us)->RdVs H' us ((EE W i hp l j hq lq).map dW)->Q (.ref lw) H'):Mm C vs H Q E0_
inductive Kg (C:Addr)(vs:List V)(H:Hp)(Q:VK)(E0_:XK):Prop
 | mk (x:Addr) (rs:List Ro) (v:V) (W:Wl) (i:Nat) (p:BC) (l:Str) (c0:vs=[.ref x,v,.str p.1]) (c1:RoomAt C H x rs) (c2:Good rs) (c3:RdV H v (dW W)) (c4:(plc rs)[i]? = some p) (c5:W.lids[i]? = some l) (c6:∀H':Hp,Same H H'->Q (.bl (W.hand.isSome && decide (l = "open"))) H'):Kg C vs H Q E0_
abbrev FT:List Str:=["room", "world", "place"]
abbrev XY:List Str:=FT
def UD:AF XY FT (Aq Il):=AN
inductive Ke (C:Addr)(vs:List V)(H:Hp)(Q:VK)(E0_:XK):Prop
 | mk (x:Addr) (rs:List Ro) (v:V) (W:Wl) (i:Nat) (p:BC) (hp:List Str) (l t:Str) (c0:vs=[.ref x,v,.str p.1]) (c1:RoomAt C H x rs) (c2:Good rs) (c3:RdV H v (dW W)) (c4:Pt rs W i p hp l) (c5:W.hand=some t) (c6:∀(v':V) (H':Hp),Same H H'->RdV H' v' (dW (FY t W i))->Q v' H'):Ke C vs H Q E0_
abbrev FS:List Str:=["room", "world", "place"]
abbrev Xt:List Str:=BZ FS ["heap"]
def scLaid:AF Xt FS (Aq Ii):=AN
abbrev IK:List Str:=["room", "world", "place"]
abbrev Xl:List Str:=IK
def Ul:AF Xl IK (Aq Kr):=AN
abbrev IC:List Str:=["room", "world", "place"]
abbrev Xa:List Str:=BZ IC ["floor", "ends"]
def scToss:AF Xa IC (Aq Ia):=AN
abbrev IF:List Str:=["room", "world", "place"]
abbrev Xd:List Str:=BZ IF ["heap", "shaken"]
def scShake:AF Xd IF (Aq Kl):=AN
abbrev ID:List Str:=["room", "world", "place", "other"]
abbrev Xb:List Str:=BZ ID ["heap", "filled", "heaps"]
def scTip:AF Xb ID (Aq Kj):=AN
abbrev IE:List Str:=["room", "world", "place"]
abbrev Xc:List Str:=BZ IE ["heap"]
def scTake:AF Xc IE (Aq Kk):=AN
inductive MA (C:Addr)(vs:List V)(H:Hp)(Q:VK)(E0_:XK):Prop
 | mk (x:Addr) (rs:List Ro) (v:V) (W:Wl) (w:Str) (i:Nat) (p:BC) (hp:List Str) (l:Str) (c0:vs=[.ref x,v,.str w,.str p.1]) (c1:RoomAt C H x rs) (c2:Good rs) (c3:RdV H v (dW W)) (c4:Pt rs W i p hp l) (c5:(∀h∈W.heaps,h.length<=100)) (c6:∀(lw:Addr) (us:List V) (H':Hp),Same H H'->H lw=none->H' lw=some (.lst us)->RdVs H' us ((Jh w W i hp l).map dW)->Q (.ref lw) H'):MA C vs H Q E0_
abbrev IM:List Str:=["room", "world", "word", "place"]
abbrev Xo:List Str:=IM
def Uo:AF Xo IM (Aq Kt):=AN
def G5:List Str:=["take", "put", "toss", "tip", "shake"]
def K8 {w:Str}(h:w∈G5):w = "take" \/ w = "put" \/ w = "toss" \/ w = "tip" \/ w = "shake" := by simpa only [G5,AD,B6,B4] using h
def JD (w:Str)(W:Wl)(i:Nat)(hp:List Str)(l:Str)(j:Nat)(hq:List Str)(lq:Str):List Wl:=if w = "tip" then EE W i hp l j hq lq else Jh w W i hp l
def HN (w a b:Str):List Str:=if w = "tip" then [w,a,b]else [w,a]
def Yo {t1 t2 t3 t4:Addr}{w:Str}(h:w∈G5):Aw (FW t1 t2 t3 t4) (Sum.inr w:Ag)=none:=by
 unfold FW;have hn:∀z∈En,z≠w:=by rcases K8 h with e | e | e | e | e <;> (rw[e];decide +kernel)
 rw[A7 (Bz (hn "open" (by decide +kernel))),A7 (Bz (hn "shut" (by decide +kernel))),A7 (Bz (hn "lock" (by decide +kernel))),A7 (Bz (hn "unlock" (by decide +kernel)))];rfl
def Pt.getD (h:Pt rs W i p hp l):W.heaps.getD i []=hp:=by rw[F8,h.he];rfl
def Nj {rs:List Ro}{i j:Nat}{p q:BC}(g:Good rs)(hp:(plc rs)[i]? = some p)(hq:(plc rs)[j]? = some q)(e:p.1=q.1):i=j:=by
 have h1:((plc rs).map (·.1))[i]? = some p.1:=by rw[A6,hp];rfl
 have h2:((plc rs).map (·.1))[j]? = some p.1:=by rw[A6,hq,e];rfl
 obtain⟨l1,e1⟩:=AK.mp h1;obtain⟨l2,e2⟩:=AK.mp h2;exact(Hv g.ndP).mp (e1.trans e2.symm)
def PK (n d:Nat):HT.sIx n d (some (-2))=n-2:=by show(if (-2:Int)<0 then((-2:Int)+(n:Int)).toNat else min (-2:Int).toNat n)=n-2;rw[As (by decide)];lia
def SM (h:2<=hp.length):∃r b a,hp=r++[b,a]:=by
 refine⟨hp.take (hp.length-2),hp[hp.length-2]'(by lia),hp[hp.length-1]'(by lia),?_⟩
 have e:hp.drop (hp.length-2)=[hp[hp.length-2]'(by lia),hp[hp.length-1]'(by lia)]:=by
  rw[R7 (by lia),R7 (by lia),List.drop_of_length_le (by lia)];have e2:hp.length-2+1=hp.length-1:=by lia
  simp only[e2]
 rw[<- e,C0]
def TV (r:List Str)(b a:Str):FA (r++[b,a])=r++[a,b]:=by
 unfold FA;have e:(r++[b,a]).length-2=r.length:=by simp
 rw[e,List.take_left,List.drop_left];rfl
def Z6 {α:Type}(xs:List α)(u v:α):AB (xs++[u,v]) (-2)=some u:=by
 have hl:(xs++[u,v]).length=xs.length+2:=by simp
 have e:Ep (xs++[u,v]).length (-2)=some xs.length:=by unfold Ep;rw[hl,Ai (by decide),As (by lia)];congr 1;lia
 unfold AB;rw[e];simp
def Pt.at' (pt:Pt rs W i p hp l)(fh:∀h∈W.heaps,h.length<=100){k:Nat}{pk:BC}(hk:(plc rs)[k]? = some pk)(h1:k<W.heaps.length)(h2:k<W.lids.length):∃hk lk,Pt rs W k pk hk lk:=
 ⟨_,_,hk,Bi h1,Bi h2,pt.few,fh _ (Dy h1)⟩
def Ug (I:L2.St->Hp->Prop)(hR:∀σ' H',I σ' H'->R D σ' H')(hs:∀N:L2.St->Hp->Prop,(∀σ' H',I σ' H'->N σ' H')->s { D with nx:=N } σ H):Pd s R D σ H:=hs (R D) hR
def WB (F:Fun K "heap_in" "heap_in" FJ f fd)(L:Cl K C)(b_places:Binds K d_places ["self"] [])(m_places:B7 K C "places" f_places)(G_places:FnOk P w K mg base CX0 1 f_places d_places ["self"] (Ee C)):FnOk P w K mg base CX0 2 f fd DO (Gw C):=by
 refine F.oq Ux λcdv A outer s H vs Q E hr1 h=>?_;obtain⟨x,rs,v,W,i,p,hp,rfl,R,g,rv,hi,hh,q⟩:=h;obtain⟨dx,d1,d2,o,kvs,h1,h2,h3,h4⟩:=R.ex;obtain⟨c,v0,hb,cl,xs,ys,rfl,ea,r0,eb,rb,ec,rc⟩:=parts rv;obtain⟨t,et,ht⟩:=Y1 rb hh;have at1:AB [v0,V.ref hb,V.ref cl] ((1:Nat):Int)=some (.ref hb):=AO rfl;have hpi:((plc rs).map (·.1))[i]? = some p.1:=by rw[A6,hi];rfl
 refine⟨_,(Am (AC (Az Bs (Az Bs (pv 1) Ah (λ_ _=>rfl)) (B2 Ez LW OJ NC (DJ (pv 0) L.cl m_places G_places hr1 b_places .nil Au) (Aa (pv 2) Ab)) (λ_ _=>rfl)))),?_⟩;refine⟨_,rfl,c,_,_,_,rfl,rfl,SqT.of ea,at1,_,rfl,x,dx,_,rfl,h1,Cq d1 d2 (by decide +kernel) (by decide +kernel),x,rs,rfl,R,λl H1 s1 fl el=>?_⟩;exact⟨.inl ⟨rfl,_,SqL.of el⟩,_,rfl,l,_,_,i,rfl,rfl,el,hpi,Ob g.ndP hpi,hb,_,_,_,rfl,rfl,SqT.of (s1 _ _ eb),AO et,q t H1 s1 ht⟩
def Wj (F:Fun K "lid_on" "lid_on" Ig f fd)(L:Cl K C)(b_places:Binds K d_places ["self"] [])(m_places:B7 K C "places" f_places)(G_places:FnOk P w K mg base CX0 1 f_places d_places ["self"] (Ee C)):FnOk P w K mg base CX0 2 f fd GM (Kc C):=by
 refine F.oq Uq λcdv A outer s H vs Q E hr1 h=>?_;obtain⟨x,rs,v,W,i,p,l,rfl,R,g,rv,hi,hh,q⟩:=h;obtain⟨dx,d1,d2,o,kvs,h1,h2,h3,h4⟩:=R.ex;obtain⟨c,v0,hb,cl,xs,ys,rfl,ea,r0,eb,rb,ec,rc⟩:=parts rv;have hys:=KY rc;subst hys;have el:(W.lids.map V.str)[i]? = some (.str l):=by rw[A6,hh];rfl
 have at2:AB [v0,V.ref hb,V.ref cl] ((2:Nat):Int)=some (.ref cl):=AO rfl;have hpi:((plc rs).map (·.1))[i]? = some p.1:=by rw[A6,hi];rfl
 refine⟨_,(Am (AC (Az Bs (Az Bs (pv 1) Ah (λ_ _=>rfl)) (B2 Ez LW OJ NC (DJ (pv 0) L.cl m_places G_places hr1 b_places .nil Au) (Aa (pv 2) Ab)) (λ_ _=>rfl)))),?_⟩;refine⟨_,rfl,c,_,_,_,rfl,rfl,SqT.of ea,at2,_,rfl,x,dx,_,rfl,h1,Cq d1 d2 (by decide +kernel) (by decide +kernel),x,rs,rfl,R,λl1 H1 s1 fl e1=>?_⟩;exact⟨.inl ⟨rfl,_,SqL.of e1⟩,_,rfl,l1,_,_,i,rfl,rfl,e1,hpi,Ob g.ndP hpi,cl,_,_,_,rfl,rfl,SqT.of (s1 _ _ ec),AO el,q H1 s1⟩
def Wm (F:Fun K "lid_of" "Room.lid_of" Ky f fd)(L:Cl K C):FnOk P w K mg base CX0 1 f fd ["self", "place"] (Kd C):=by refine F.oq PB λcdv A outer s H vs Q E hr h=>?_;obtain⟨x,rs,p,rfl,R,g,hp,q⟩:=h;have hu:=Dw hr;obtain⟨dx,d1,d2,o,kvs,h1,h2,h3,h4⟩:=R.ex;obtain⟨t,hv,ht⟩:=h3.find g.ndP hp;have dg:DGet H d1 (.str p.1) (some (.ref t)):=.inl ⟨kvs,(Sum.inr p.1:Ag),.inr ⟨o,h2⟩,rfl,hv.symm⟩;refine⟨_,Af (AH (FO (K1 hu (pv 1) (Iz (pv 0) rfl))) Bu AG) (Am (AC (CJ hu (Iz (pv 0) rfl) (pv 1) (λ_ _=>rfl)))),?_⟩;refine⟨_,rfl,_,rfl,x,C,dx,_,_,rfl,h1,L.cl,L.nP,Im d1 d2,d1,_,rfl,dg,_,rfl,?_⟩;refine Bc ?_;exact⟨_,rfl,x,C,dx,_,_,rfl,h1,L.cl,L.nP,Im d1 d2,_,rfl,d1,_,rfl,dg,q t ht⟩
def Wn (F:Fun K "lidded" "Room.lidded" M7 f fd)(L:Cl K C)(bL:Binds K dL ["self", "place"] [])(mL:B7 K C "lid_of" fL)(GL:FnOk P w K mg base CX0 1 fL dL ["self", "place"] (Kd C)):FnOk P w K mg base CX0 2 f fd ["self", "place"] (MG C):=by refine F.oq Up λcdv A outer s H vs Q E hr h=>?_;obtain⟨x,rs,p,rfl,R,g,hp,q⟩:=h;obtain⟨dx,d1,d2,o,kvs,h1,h2,h3,h4⟩:=R.ex;refine⟨_,Am (AC (Az Bs (GJ (pv 0) L.cl mL GL hr bL .nil Au (Aa (pv 1) Ab)) Ah (λ_ _=>rfl))),?_⟩;refine⟨_,rfl,x,dx,_,rfl,h1,Cq d1 d2 (by decide +kernel) (by decide +kernel),_,rfl,x,rs,p,rfl,R,g,hp,λt ht=>?_⟩;have a0:AB [V.bl p.2.1,C4 p.2.2] ((0:Nat):Int)=some (.bl p.2.1):=AO rfl;exact⟨t,_,_,_,rfl,rfl,SqT.of ht,a0,q⟩
def Wr (F:Fun K "key_of" "Room.key_of" KB f fd)(L:Cl K C)(bL:Binds K dL ["self", "place"] [])(mL:B7 K C "lid_of" fL)(GL:FnOk P w K mg base CX0 1 fL dL ["self", "place"] (Kd C)):FnOk P w K mg base CX0 2 f fd ["self", "place"] (MH C):=by refine F.oq PD λcdv A outer s H vs Q E hr h=>?_;obtain⟨x,rs,p,rfl,R,g,hp,q⟩:=h;obtain⟨dx,d1,d2,o,kvs,h1,h2,h3,h4⟩:=R.ex;refine⟨_,Am (AC (Az Bs (GJ (pv 0) L.cl mL GL hr bL .nil Au (Aa (pv 1) Ab)) Ah (λ_ _=>rfl))),?_⟩;refine⟨_,rfl,x,dx,_,rfl,h1,Cq d1 d2 (by decide +kernel) (by decide +kernel),_,rfl,x,rs,p,rfl,R,g,hp,λt ht=>?_⟩;have a1:AB [V.bl p.2.1,C4 p.2.2] ((1:Nat):Int)=some (C4 p.2.2):=AO rfl;exact⟨t,_,_,_,rfl,rfl,SqT.of ht,a1,q⟩
def Ww (F:Fun K "is_free" "is_free" E8 f fd):FnOk P w K mg base CX0 1 f fd De FC:=by
 refine F.oq Uv λcdv A outer s H vs Q E hr h=>?_;obtain⟨v,W,rfl,rv,q⟩:=h;obtain⟨c,v0,hb,cl,xs,ys,rfl,ea,r0,eb,rb,ec,rc⟩:=parts rv;have hv0:=NM r0;subst hv0;have w0:AB [oV W.hand,V.ref hb,V.ref cl] ((0:Nat):Int)=some (oV W.hand):=AO rfl;refine⟨_,(Am (AC (CV Qt (Az Bs (pv 0) Ah (λ_ _=>rfl)) Ej (AJ _)))),?_⟩;refine⟨_,rfl,c,_,_,_,rfl,rfl,SqT.of ea,w0,rfl,?_⟩;cases hh:W.hand with
 | none=>rw[hh]at q;exact q
 | some t=>rw[hh]at q;exact q
def Wt (F:Fun K "is_open" "is_open" FH f fd)(C_lid_on:Ca P w K mg base CX0 2 "lid_on" Ig GM (Kc C)):FnOk P w K mg base CX0 3 f fd DM (Gv C):=by refine F.oq Uu λcdv A outer s H vs Q E hr2 h=>?_;obtain⟨x,rs,v,W,i,p,l,rfl,R,g,rv,hi,hl,q⟩:=h;refine⟨_,(Am (AC (CV A9 (AY C_lid_on hr2 Au (Aa (pv 0) (Aa (pv 1) (Aa (pv 2) Ab)))) Av (AJ _)))),?_⟩;refine⟨_,rfl,_,rfl,_,rfl,x,rs,v,W,i,p,l,rfl,R,g,rv,hi,hl,λH1 s1=>⟨rfl,?_⟩⟩;rw[NU];exact q H1 s1
def WO (F:Fun K "changed" "changed" Fb f fd)(L:Cl K C)(b_places:Binds K d_places ["self"] [])(m_places:B7 K C "places" f_places)(G_places:FnOk P w K mg base CX0 1 f_places d_places ["self"] (Ee C)):FnOk P w K mg base CX0 2 f fd Dr (FD C):=by
 refine F.oq scChanged λcdv A outer s H vs Q E hr1 h=>?_;obtain⟨x,rs,e,xs,i,p,y,rfl,R,g,he,hi,hx,hpi',q⟩:=h;have aa:sizeLine=16777216:=AM;obtain⟨dx,d1,d2,o,kvs,h1,h2,h3,h4⟩:=R.ex;have hpi:((plc rs).map (·.1))[i]? = some p.1:=by rw[A6,hpi'];rfl
 refine⟨_,(Af (Ay (i:=4) scChanged.nd (B2 Ez LW OJ NC (DJ (pv 0) L.cl m_places G_places hr1 b_places .nil Au) (Aa (pv 2) Ab))) (Am (AC (Ax Jf (Ax Jf (DH Kh (pv 1) DG (DF (pv 4))) (BR (Aa (pv 3) Ab))) (DH Kh (pv 1) (DF (Ax Bv (pv 4) Ah)) DG))))),?_⟩;refine⟨_,rfl,x,dx,_,rfl,h1,Cq d1 d2 (by decide +kernel) (by decide +kernel),x,rs,rfl,R,λl H1 s1 fl el=>?_⟩;refine⟨.inl ⟨rfl,_,SqL.of el⟩,_,rfl,l,_,_,i,rfl,rfl,el,hpi,Ob g.ndP hpi,?_⟩;have he1:=s1 _ _ he;have c1:A5 xs none (some ((i:Nat):Int))=xs.take i:=by unfold A5;rw[HT.sIx_none,HT.sIx_nat,JR,Lq];congr 1;lia
 have c2:A5 xs (some (((i+1:Nat)):Int)) none=xs.drop (i+1):=Rq (by lia);refine⟨_,rfl,_,rfl,_,rfl,e,xs,rfl,SqT.of he1,?_,λp1 hp1=>?_⟩
 ·rw[HT.sIx_none,HT.sIx_nat];lia
 rw[c1];obtain⟨H2,g0,s2,e2⟩:=Bd (H:=H1) (o:=.tup (xs.take i)) hp1;rw[g0];refine⟨_,rfl,Ba,λp2 hp2=>?_⟩;obtain⟨H3,g0,s3,e3⟩:=Bd (H:=H2) (o:=.tup [y]) hp2;rw[g0];refine JA (s3 _ _ e2) e3 (by rw[Cd];show _+1<=_;lia) λp3 H4 s4 e4=>?_;have s14:=(s1.trans s2).trans (s3.trans s4);have he4:=s14 _ _ he;refine⟨_,rfl,_,rfl,_,_,rfl,rfl,_,rfl,e,xs,rfl,SqT.of he4,?_,λp4 hp4=>?_⟩
 ·rw[show((i:Int)+1)=((i+1:Nat):Int) from rfl,HT.sIx_nat];lia
 rw[show((i:Int)+1)=((i+1:Nat):Int) from rfl,c2];have s5:Same H4 (Ac H4 p4 (.tup (xs.drop (i+1)))):=Same.new hp4;refine JA (s5 _ _ e4) Ak (by rw[AX,Cd,DY];show _+1+_<=_;lia) λt H6 s6 e6=>?_;refine q t H6 (s14.trans (s5.trans s6)) ?_;rw[e6,List.set_eq_take_append_cons_drop,As hi,DZ];rfl
def V2 (F:Fun K "read_deed" "read_deed" E6 f fd)(T:Bl mg)(L:Cl K C)(DD:Dd P w K mg aP)(b_places:Binds K d_places ["self"] [])(m_places:B7 K C "places" f_places)(G_places:FnOk P w K mg base CX0 1 f_places d_places ["self"] (Ee C)):FnOk P w K mg base CX0 2 f fd Ff (Ka C):=by
 refine F.oq scReadDeed λcdv A outer s H vs Q E hr1 h=>?_;obtain⟨x,rs,line,a,ps,rfl,R,hw,ln,pl,dk,q⟩:=h;have aa:sizeLine=16777216:=AM;obtain⟨dx,d1,d2,o,kvs,h1,h2,h3,h4⟩:=R.ex;unfold Fm at dk;rw[Ce,Ce]at dk;have hn:=Bg dk.1;have ha:=dk.2.1;have hnd:=Bg dk.2.2;refine⟨_,(Af (Ay (i:=2) scReadDeed.nd (B2 DA C6 Ec DQ (pv 1) (Aa Av Ab))) (Af (Ay (i:=3) scReadDeed.nd (DH FE (pv 2) (DF Ah) DG)) (Af (AH (AI GZ (Qj (A1 (v:=.ref aP) (by rfl) DD.pm rfl) (Az Bb (pv 2) Ah (λ_ _=>rfl)) ⟨by rfl,by rfl,by rfl,by rfl⟩) (AE Bq (by rfl) T.len A0 (Aa (pv 3) Ab)) (AJ _)) Bu AG) (Af (AH (CG (Cr (AE (RK rfl) (by rfl) T.all RL (Aa (EI (N:=["place", "room"]) (sc:=Aq E6) (own:=["place"]) (fr:=["room"]) (js:=[0]) Ci rfl (BQ (pv 3)) (λ_ _ _ _=>Bm (i:=0) (show List.Nodup (["place", "room"]:List Str) by decide +kernel)) (λ_ _ _ _=>Ct) (λ_ _ _ _=>(CV (VB K rfl) (pv 0) (DJ (pv 1) L.cl m_places G_places hr1 b_places .nil Au) (by rfl)))) Ab)))) Bu AG) (Af (AH (AI Je (AE N6 (by rfl) T.len A0 (Aa (Dq (N4 rfl) (by rfl) T.set N8 (Aa (pv 3) Ab)) Ab)) (AE Bq (by rfl) T.len A0 (Aa (pv 3) Ab)) (AJ _)) Bu AG) (Am (AC (pv 2)))))))),?_⟩;refine⟨_,rfl,rfl,_,_,rfl,rfl,by rfl,by lia,λl hl=>?_⟩;refine Jj (a::ps) _ (by show(Txt.split _ Bt).map V.str=_;rw[hw.split]) hl λH1 s1 el=>?_;refine⟨_,rfl,_,rfl,l,_,rfl,SqL.of el,λlp hlp=>?_⟩;have elp:(Ac H1 lp (.lst (A5 ((a::ps).map V.str) (some 1) none))) lp=some (.lst (ps.map V.str)):=by rw[Ak,show((1:Int))=((1:Nat):Int) from rfl,Rq (by simp)];rfl
 have s2:Same H1 (Ac H1 lp (.lst (A5 ((a::ps).map V.str) (some 1) none))):=Same.new hlp;generalize (Ac H1 lp (.lst (A5 ((a::ps).map V.str) (some 1) none)))=H2 at elp s2 ⊢;have s12:=s1.trans s2;have a0:AB ((a::ps).map V.str) ((0:Nat):Int)=some (.str a):=AO rfl;have hpm:(ps.map V.str).length=ps.length:=Ar ..;refine⟨aP,_,rfl,DD.pd,_,rfl,l,_,_,_,rfl,rfl,SqL.of (s2 _ _ el),a0,(Sum.inr a:Ag),rfl,_,rfl,_,_,rfl,.inl ⟨_,SqL.of elp,rfl⟩,?_,_,rfl,?_⟩
 ·show Ki (BP a) _=true;rcases Nk a with e | e | e <;> (rw[e];rfl)
 show if (!decide (BP a=V.int ((ps.map V.str).length:Int)))=true then _ else _
 rw[hpm,AQ hn];refine Bc ?_;refine⟨_,rfl,lp,rfl,⟨_,SqL.of elp⟩,λD hD=>?_⟩
 refine Cj (n:=ps.length) (λi ys H3=>ys=((ps.take i).map λp=>decide (p∈(plc rs).map (·.1))).map V.bl/\Same H2 H3/\H3 D=some (.lst ys)) ⟨rfl,Same.new hD,Ak⟩
  (λi ys H3 hi hh0=>by obtain⟨_,s3,_⟩:=hh0;exact⟨_,.str ps[i],SqL.of (s3 _ _ elp),by simp[hi]⟩) (λys H3 hh0=>by obtain⟨_,s3,_⟩:=hh0;exact⟨_,SqL.of (s3 _ _ elp),by simp⟩) ?_ ?_
 ·rintro i ys H3 y H4 hi ⟨rfl,s3,e3⟩ ⟨rfl,hx⟩;have hx1:=hx _ (SqL.of (s3 _ _ elp));have hx2:y=.str ps[i]:=by rw[A6,Bi hi]at hx1;exact(Bx hx1).symm
  subst hx2;refine Cu ?_;have R3:=R.same (s12.trans s3);refine⟨_,rfl,_,rfl,x,dx,_,rfl,(s12.trans s3) _ _ h1,Cq d1 d2 (by decide +kernel) (by decide +kernel),x,rs,rfl,R3,λl4 H5 s5 f5 e5=>?_⟩;refine⟨l4,_,rfl,.inl (SqL.of e5),rfl,flat_strs _,_,s5 _ _ e3,by simp only[Ar,Cd];lia,?_,(s3.trans s5).put hD,Ak⟩;rw[CD hi,B5,B5];show _++[V.bl (CM (V.str ps[i]) (((plc rs).map (·.1)).map V.str))]=_;rw[Dg];rfl
 rintro ys H3 ⟨rfl,s3,e3⟩;rw[Dx]at e3;have s13:=s12.trans s3;refine⟨D,_,rfl,SqL.of e3,_,rfl,?_⟩;have hall:(ps.map λp=>decide (p∈(plc rs).map (·.1))).all (λb=>b)=ps.all λp=>decide (p∈(plc rs).map (·.1)):=by rw[List.all_map];rfl
 rw[hall,ha];refine Bc ?_;have ek:ps.map V.str=(ps.map (Sum.inr:Str->Ag)).map kV:=by rw[Dk];rfl
 refine⟨_,rfl,lp,ps.map Sum.inr,rfl,SqL.of (by rw[<- ek];exact s3 _ _ elp),by rw[Ar];lia,λst hst=>?_⟩;have s4:Same H3 (Ac H3 st (Gy P w st (SK.dd (Cv (ps.map (Sum.inr:Str->Ag))) (ps.map (Sum.inr:Str->Ag)).length).length)):=Same.new hst;refine⟨st,_,rfl,Ak,_,rfl,_,_,rfl,.inl ⟨_,SqL.of (s4 _ _ (s3 _ _ elp)),rfl⟩,_,_,rfl,rfl,_,rfl,?_⟩;refine A4 (λz=>?_) (λ_=>?_)
 ·exfalso;have:=Bg z;rw[Px hnd]at this;lia
 exact⟨_,rfl,q l _ (s13.trans s4) (s4 _ _ (s3 _ _ (s2 _ _ el)))⟩
def WC (F:Fun K "hand_fits" "hand_fits" KJ f fd)(L:Cl K C)(D_is_free:Df K mg "is_free" E8 De f1 d1)(G_is_free:FnOk P w K mg base CX0 1 f1 d1 De FC)
  (b_key_of:Binds K d_key_of ["self", "place"] [])(m_key_of:B7 K C "key_of" f_key_of)(G_key_of:FnOk P w K mg base CX0 2 f_key_of d_key_of ["self", "place"] (MH C))(b_lidded:Binds K d_lidded ["self", "place"] [])(m_lidded:B7 K C "lidded" f_lidded)(G_lidded:FnOk P w K mg base CX0 2 f_lidded d_lidded ["self", "place"] (MG C)):FnOk P w K mg base CX0 3 f fd IV (MO C):=by
 refine F.oq Uy λcdv A outer s H vs Q E hr2 h=>?_
 obtain⟨x,rs,v,W,w,p,rfl,R,g,rv,hp,q⟩:=h
 have hr1:Room 1 _:=hr2.mono (by decide)
 obtain⟨dx,d1,d2,o,kvs,h1,h2,h3,h4⟩:=R.ex
 refine⟨_,(Af (AH (AI Du (pv 2) (BR (Aa Av (Aa Av Ab))) (by rfl)) (Am (AC (IB (Nl (AU G_is_free hr1 (by rfl) D_is_free.m D_is_free.F.kp D_is_free.b .nil Au (Aa (pv 1) Ab))) (GH (CV A9 (Az Bs (pv 1) Ah (λ_ _=>rfl)) (GJ (pv 0) L.cl m_key_of G_key_of hr2 b_key_of .nil Au (Aa (pv 3) Ab)) (AJ _)))))) AG) (Am (AC (IB (AU G_is_free hr1 (by rfl) D_is_free.m D_is_free.F.kp D_is_free.b .nil Au (Aa (pv 1) Ab)) (GH (GJ (pv 0) L.cl m_lidded G_lidded hr2 b_lidded .nil Au (Aa (pv 3) Ab))))))),?_⟩
 refine⟨_,rfl,by decide,λtp htp=>?_⟩
 have s0:Same H (Ac H tp (.tup [V.str "lock",V.str "unlock"])):=Same.new htp
 refine⟨tp,_,rfl,.inr (SqT.of Ak),rfl,flat_strs ["lock", "unlock"],_,rfl,?_⟩
 show if CM (V.str w) ((["lock", "unlock"]:List Str).map V.str)=true then _ else _
 rw[Dg]
 generalize Ac H tp (.tup [V.str "lock",V.str "unlock"])=H0 at s0 ⊢
 unfold Jx at q
 have rv0:=s0.rd rv
 have R0:=R.same s0
 have h10:=s0 _ _ h1
 by_cases hb:w∈(["lock", "unlock"]:List Str)
 ·rw[As hb]at q;rw[AQ hb];refine AS ?_;refine⟨_,rfl,v,W,rfl,rv0,_,rfl,_,rfl,?_⟩;cases hh:W.hand with
  | none=>rw[hh]at q;refine Bc ?_;exact q H0 s0
  | some t=>
   rw[hh]at q;refine AS ?_;obtain⟨c,v0,hb,cl,xs,ys,rfl,ea,r0,eb,rb,ec,rc⟩:=parts rv0;have hv0:=NM r0;subst hv0;have w0:AB [oV W.hand,V.ref hb,V.ref cl] ((0:Nat):Int)=some (oV W.hand):=AO rfl;refine⟨_,rfl,c,_,_,_,rfl,rfl,SqT.of ea,w0,_,rfl,x,dx,_,rfl,h10,Cq d1 d2 (by decide +kernel) (by decide +kernel),_,rfl,x,rs,p,rfl,R0,g,hp,?_,?_⟩
   ·rw[hh];cases p.2.2 <;> rfl
   rw[hh];exact q H0 s0
 rw[Ai hb]at q
 rw[A8 hb]
 refine Bc ?_
 refine⟨_,rfl,v,W,rfl,rv0,_,rfl,?_⟩
 cases hh:W.hand with
 | some t=>rw[hh]at q;refine Bc ?_;exact q H0 s0
 | none=>rw[hh]at q;refine AS ?_;exact⟨_,rfl,x,dx,_,rfl,h10,Cq d1 d2 (by decide +kernel) (by decide +kernel),_,rfl,x,rs,p,rfl,R0,g,hp,q H0 s0⟩
def Wb (F:Fun K "move_lid" "move_lid" Ku f fd)(DL:Dl P w K mg aL t1 t2 t3 t4)(C_lid_on:Ca P w K mg base CX0 2 "lid_on" Ig GM (Kc C))(C_hand_fits:Ca P w K mg base CX0 3 "hand_fits" KJ IV (MO C))(C_changed:Ca P w K mg base CX0 2 "changed" Fb Dr (FD C)):FnOk P w K mg base CX0 4 f fd IP (MB C):=by
 refine F.oq scMoveLid λcdv A outer s H vs Q E hr3 h=>?_;obtain⟨x,rs,v,W,w,i,p,hp,l,rfl,R,g,rv,pt,hll,hw,q⟩:=h;have hr2:Room 2 _:=hr3.mono (by decide);have aa:sizeLine=16777216:=AM;obtain⟨t,hv,hT⟩:=DL.got hw;have b0:AB [V.str (Hk w),V.str (F3 w)] ((0:Nat):Int)=some (.str (Hk w)):=AO rfl;have b1:AB [V.str (Hk w),V.str (F3 w)] ((1:Nat):Int)=some (.str (F3 w)):=AO rfl;have hpm:=BE pt.pl;refine⟨_,(Af (Ay (i:=4) scMoveLid.nd (Az Bs (Qk (A1 (v:=.ref aL) (by rfl) DL.lm rfl) (pv 2) (λ_ _=>rfl)) Ah (λ_ _=>rfl))) (Af (Ay (i:=5) scMoveLid.nd (Az Bs (Qk (A1 (v:=.ref aL) (by rfl) DL.lm rfl) (pv 2) (λ_ _=>rfl)) Ah (λ_ _=>rfl))) (Af (AH (PW.pt (Cy (AI GZ (AY C_lid_on hr2 Au (Aa (pv 0) (Aa (pv 1) (Aa (pv 3) Ab)))) (pv 4) (AJ _)) (DE (CG (Cr (AY C_hand_fits hr3 Au (Aa (pv 0) (Aa (pv 1) (Aa (pv 2) (Aa (pv 3) Ab)))))))))) (Am (AC (Bh Ab))) AG) (Am (AC (Bh (Aa (BR (Aa (Az Bs (pv 1) Ah (λ_ _=>rfl)) (Aa (Az Bs (pv 1) Ah (λ_ _=>rfl)) (Aa (AY C_changed hr2 Au (Aa (pv 0) (Aa (Az Bs (pv 1) Ah (λ_ _=>rfl)) (Aa (pv 3) (Aa (pv 5) Ab))))) Ab)))) Ab))))))),?_⟩;refine⟨_,rfl,aL,_,(Sum.inr w:Ag),_,rfl,DL.ld,rfl,hv,t,_,_,_,rfl,rfl,hT H,b0,?_⟩;refine⟨_,rfl,aL,_,(Sum.inr w:Ag),_,rfl,DL.ld,rfl,hv,t,_,_,_,rfl,rfl,hT H,b1,?_⟩;refine⟨_,rfl,_,rfl,_,rfl,x,rs,v,W,i,p,l,rfl,R,g,rv,pt.pl,pt.li,λH1 s1=>?_⟩;have none':FX w p W i l=[]->∀H':Hp,Same H H'->∀l':Addr,H' l'=none->Q (.ref l') (Ac H' l' (.lst [])):=λe H' s' l' hl'=>q l' [] _ (s'.trans (Same.new hl')) Ak (by rw[e];exact .nil);refine⟨_,rfl,rfl,_,rfl,?_⟩;by_cases hl:l=Hk w
 ·refine YL hl ?_;refine⟨_,rfl,_,rfl,_,rfl,_,rfl,x,rs,v,W,w,p,rfl,R.same s1,g,s1.rd rv,hpm,λH2 s2=>⟨_,rfl,?_⟩⟩;have s12:=s1.trans s2;cases hf:Jx W p w with
  | false=>refine AS ?_;exact⟨Be _,none' (by unfold FX;rw[Ai (λz=>by rw[hf]at z;cases z.2)]) H2 s12⟩
  | true=>
   refine Bc ?_;obtain⟨c,v0,hb,cl,xs,ys,rfl,ea,r0,eb,rb,ec,rc⟩:=parts rv;have hys:=KY rc;subst hys;have BN:AB [v0,V.ref hb,V.ref cl] ((0:Nat):Int)=some v0:=AO rfl;have at1:AB [v0,V.ref hb,V.ref cl] ((1:Nat):Int)=some (.ref hb):=AO rfl;have at2:AB [v0,V.ref hb,V.ref cl] ((2:Nat):Int)=some (.ref cl):=AO rfl;have hi:i<(W.lids.map V.str).length:=by rw[Ar];exact(AK.mp pt.li).1
   refine⟨_,rfl,c,_,_,_,rfl,rfl,SqT.of (s12 _ _ ea),BN,_,rfl,c,_,_,_,rfl,rfl,SqT.of (s12 _ _ ea),at1,_,rfl,_,rfl,c,_,_,_,rfl,rfl,SqT.of (s12 _ _ ea),at2,_,rfl,_,rfl,?_⟩;refine⟨x,rs,cl,_,i,p,.str (F3 w),rfl,R.same s12,g,s12 _ _ ec,hi,by rw[Ar];exact hll,pt.pl,λt2 H4 s4 e4=>?_⟩;have s14:=s12.trans s4;refine⟨Ba,λtw htw=>⟨Ba,λlw hlw=>?_⟩⟩;have s5:Same H4 (Ac H4 tw (.tup [v0,.ref hb,.ref t2])):=Same.new htw;have s6:Same (Ac H4 tw (.tup [v0,.ref hb,.ref t2])) (Ac (Ac H4 tw (.tup [v0,.ref hb,.ref t2])) lw (.lst [V.ref tw])):=Same.new hlw;have s46:=s5.trans s6;have sA:=s14.trans s46;refine q lw [.ref tw] _ sA Ak ?_;unfold FX;rw[As ⟨hl,hf⟩];refine .cons (DC (s6 _ _ Ak) (sA.rd r0) (sA _ _ eb) (sA.rds rb) (s46 _ _ e4) ?_) .nil;rw[Hw];exact FL i (sA.rds rc) (.str _)
 refine YM hl ?_;refine AS ?_;exact⟨Be _,none' (by unfold FX;rw[Ai (λz=>hl z.1)]) H1 s1⟩
def WQ (F:Fun K "can_put" "can_put" Il f fd)(C_is_free:Ca P w K mg base CX0 1 "is_free" E8 De FC)(C_is_open:Ca P w K mg base CX0 3 "is_open" FH DM (Gv C)):FnOk P w K mg base CX0 4 f fd FT (Kg C):=by
 refine F.oq UD λcdv A outer s H vs Q E hr3 h=>?_;obtain⟨x,rs,v,W,i,p,l,rfl,R,g,rv,hi,hl,q⟩:=h;have hr1:Room 1 _:=hr3.mono (by decide);refine⟨_,(Am (AC (IB (Nl (AY C_is_free hr1 Au (Aa (pv 1) Ab))) (GH (AY C_is_open hr3 Au (Aa (pv 0) (Aa (pv 1) (Aa (pv 2) Ab)))))))),?_⟩;refine⟨_,rfl,v,W,rfl,rv,_,rfl,_,rfl,?_⟩;cases hh:W.hand with
 | none=>rw[hh]at q;exact Bc (q H (Same.refl _))
 | some t=>rw[hh]at q;refine AS ?_;exact⟨_,rfl,_,rfl,_,rfl,x,rs,v,W,i,p,l,rfl,R,g,rv,hi,hl,λH1 s1=>q H1 s1⟩
def Wp (F:Fun K "laid" "laid" Ii f fd)(C_heap_in:Ca P w K mg base CX0 2 "heap_in" FJ DO (Gw C))(C_changed:Ca P w K mg base CX0 2 "changed" Fb Dr (FD C)):FnOk P w K mg base CX0 3 f fd FS (Ke C):=by
 refine F.oq scLaid λcdv A outer s H vs Q E hr2 h=>?_;obtain⟨x,rs,v,W,i,p,hp,l,t,rfl,R,g,rv,pt,hh,q⟩:=h;have aa:sizeLine=16777216:=AM;have hlen:=pt.len;have hif:=pt.few;have rv':=rv;obtain⟨c,v0,hb,cl,xs,ys,rfl,ea,r0,eb,rb,ec,rc⟩:=parts rv;have hv0:=NM r0;subst hv0;have hlb:=rb.length;rw[Ar]at hlb;have hi:i<xs.length:=by have:=(AK.mp pt.he).1;lia
 have hlm:(hp.map V.str).length=hp.length:=Ar ..;have at0':AB [oV W.hand,V.ref hb,V.ref cl] ((0:Nat):Int)=some (.str t):=by rw[hh];exact AO rfl
 have at1:AB [oV W.hand,V.ref hb,V.ref cl] ((1:Nat):Int)=some (.ref hb):=AO rfl;have at2:AB [oV W.hand,V.ref hb,V.ref cl] ((2:Nat):Int)=some (.ref cl):=AO rfl;refine⟨_,(Af (Ay (i:=3) scLaid.nd (Ax Jf (AY C_heap_in hr2 Au (Aa (pv 0) (Aa (pv 1) (Aa (pv 2) Ab)))) (BR (Aa (Az Bs (pv 1) Ah (λ_ _=>rfl)) Ab)))) (Am (AC (BR (Aa Ej (Aa (AY C_changed hr2 Au (Aa (pv 0) (Aa (Az Bs (pv 1) Ah (λ_ _=>rfl)) (Aa (pv 2) (Aa (pv 3) Ab))))) (Aa (Az Bs (pv 1) Ah (λ_ _=>rfl)) Ab))))))),?_⟩;refine⟨_,rfl,_,rfl,_,rfl,x,rs,_,W,i,p,hp,rfl,R,g,rv',pt.pl,pt.he,λt1 H1 s1 et=>?_⟩;refine⟨_,rfl,c,_,_,_,rfl,rfl,SqT.of (s1 _ _ ea),at0',Ba,λp2 hp2=>?_⟩;obtain⟨H2,g0,s2,e2⟩:=Bd (H:=H1) (o:=.tup [V.str t]) hp2;rw[g0];refine JA (s2 _ _ (s1 _ _ et)) e2 (by rw[hlm];show _+1<=_;lia) λp3 H3 s3 e3=>?_;have s13:=(s1.trans s2).trans s3;refine⟨_,rfl,_,rfl,c,_,_,_,rfl,rfl,SqT.of (s13 _ _ ea),at1,_,rfl,_,rfl,x,rs,hb,xs,i,p,.ref p3,rfl,R.same s13,g,s13 _ _ eb,hi,by lia,pt.pl,λt2 H4 s4 e4=>?_⟩;have s14:=s13.trans s4;refine⟨_,rfl,c,_,_,_,rfl,rfl,SqT.of (s14 _ _ ea),at2,Ba,λtw htw=>?_⟩;have s5:Same H4 (Ac H4 tw (.tup [V.non,.ref t2,.ref cl])):=Same.new htw;refine q (.ref tw) _ (s14.trans s5) (DC Ak .non (s5 _ _ e4) ?_ (s5 _ _ (s14 _ _ ec)) ((s14.trans s5).rds rc));show RdVs _ _ ((W.heaps.set i (W.heaps.getD i []++[t])).map dH);rw[Hw,pt.getD];refine FL i ((s14.trans s5).rds rb) (.tup (s5 _ _ (s4 _ _ e3)) ?_);rw[show hp.map V.str++[V.str t]=(hp++[t]).map V.str by simp];exact RdVs.strs _
def V3 (F:Fun K "put" "put" Kr f fd)(C_can_put:Ca P w K mg base CX0 4 "can_put" Il FT (Kg C))(C_laid:Ca P w K mg base CX0 3 "laid" Ii FS (Ke C)):FnOk P w K mg base CX0 5 f fd IK (EF C putF):=by
 refine F.oq Ul λcdv A outer s H vs Q E hr4 h=>?_;obtain⟨x,rs,v,W,i,p,hp,l,rfl,R,g,rv,pt,fh,q⟩:=h;have hr3:Room 3 _:=hr4.mono (by decide);have aa:sizeLine=16777216:=AM;have none':putF W i hp l=[]->∀H':Hp,Same H H'->∀l':Addr,H' l'=none->Q (.ref l') (Ac H' l' (.lst [])):=λe H' s' l' hl'=>q l' [] _ (s'.trans (Same.new hl')) (s'.free hl') Ak (by rw[e];exact .nil);refine⟨_,(Am (AC (K0 (Cr (AY C_can_put hr4 Au (Aa (pv 0) (Aa (pv 1) (Aa (pv 2) Ab))))) (Bh (Aa (AY C_laid hr3 Au (Aa (pv 0) (Aa (pv 1) (Aa (pv 2) Ab)))) Ab)) (Bh Ab)))),?_⟩;refine⟨_,rfl,_,rfl,_,rfl,x,rs,v,W,i,p,l,rfl,R,g,rv,pt.pl,pt.li,λH1 s1=>⟨_,rfl,?_⟩⟩;cases hh:W.hand with
 | none=>exact Bc ⟨Be _,none' (by unfold putF;rw[hh]) H1 s1⟩
 | some t=>
  by_cases hl:l = "open"
  ·rw[AQ hl];refine AS ?_;refine⟨_,rfl,_,rfl,_,rfl,x,rs,v,W,i,p,hp,l,t,rfl,R.same s1,g,s1.rd rv,pt,hh,λv' H2 s2 rd=>⟨Ba,λlw hlw=>?_⟩⟩;refine q lw [v'] _ ((s1.trans s2).trans (Same.new hlw)) ((s1.trans s2).free hlw) Ak ?_;unfold putF;rw[hh];dsimp only;rw[As hl];exact .cons ((Same.new hlw).rd rd) .nil
  rw[A8 hl];refine Bc ⟨Be _,none' ?_ H1 s1⟩;unfold putF;rw[hh];dsimp only;rw[Ai hl]
def VI (F:Fun K "toss" "toss" Ia f fd)(L:Cl K C)(b_places:Binds K d_places ["self"] [])(m_places:B7 K C "places" f_places)(G_places:FnOk P w K mg base CX0 1 f_places d_places ["self"] (Ee C))(D_can_put:Df K mg "can_put" Il FT f1 d1)(G_can_put:FnOk P w K mg base CX0 4 f1 d1 FT (Kg C))(D_laid:Df K mg "laid" Ii FS f2 d2)(G_laid:FnOk P w K mg base CX0 3 f2 d2 FS (Ke C)):FnOk P w K mg base CX0 5 f fd IC (EF C ED):=by
 refine F.oq scToss λcdv A outer s H vs Q E hr4 h=>?_;obtain⟨x,rs,v,W,i,p,hp,l,rfl,R,g,rv,pt,fh,q⟩:=h;have hr1:Room 1 _:=hr4.mono (by decide);have hr3:Room 3 _:=hr4.mono (by decide);have aa:sizeLine=16777216:=AM;obtain⟨dx,d1,d2,o,kvs,h1,h2,h3,h4⟩:=R.ex;have none':ED W i hp l=[]->∀H':Hp,Same H H'->∀l':Addr,H' l'=none->Q (.ref l') (Ac H' l' (.lst [])):=λe H' s' l' hl'=>q l' [] _ (s'.trans (Same.new hl')) (s'.free hl') Ak (by rw[e];exact .nil);refine⟨_,(Af (AH (CG (Cr (AU G_can_put hr4 (by rfl) D_can_put.m D_can_put.F.kp D_can_put.b .nil Au (Aa (pv 0) (Aa (pv 1) (Aa (pv 2) Ab)))))) (Am (AC (Bh Ab))) AG) (Af (Ay (i:=3) scToss.nd (Az Bb (DJ (pv 0) L.cl m_places G_places hr1 b_places .nil Au) Ah (λ_ _=>rfl))) (Af (Ay (i:=4) scToss.nd (K0 (AI A9 (pv 2) (pv 3) (AJ _)) (Bh (Aa (pv 2) Ab)) (Bh (Aa (pv 2) (Aa (pv 3) Ab))))) (Am (AC (EI (N:=["end", "room", "world"]) (sc:=Aq Ia) (own:=["end"]) (fr:=["room", "world"]) (js:=[0,1]) Ci rfl (BQ (pv 4)) (λ_ _ _ _=>Bm (i:=0) (show List.Nodup (["end", "room", "world"]:List Str) by decide +kernel)) (λ_ _ _ _=>Ct) (λ_ _ _ _=>(AU G_laid hr3 (by rfl) D_laid.m D_laid.F.kp D_laid.b .nil Au (Aa (pv 1) (Aa (pv 2) (Aa (pv 0) Ab))))))))))),?_⟩;refine⟨_,rfl,_,rfl,_,rfl,x,rs,v,W,i,p,l,rfl,R,g,rv,pt.pl,pt.li,λH1 s1=>⟨_,rfl,?_⟩⟩;cases hh:W.hand with
 | none=>exact AS ⟨Be _,none' (by unfold ED;rw[hh]) H1 s1⟩
 | some t=>
  by_cases hl:l = "open"
  ·rw[AQ hl];refine Bc ?_;have hip:=(AK.mp pt.pl).1;have hih:=(AK.mp pt.he).1;have hil:=(AK.mp pt.li).1;obtain⟨p0,hp0⟩:∃p0,(plc rs)[0]? = some p0:=⟨_,Bi (by lia)⟩;have e0:(((plc rs).map (·.1)).map V.str)[0]? = some (.str p0.1):=by rw[A6,A6,hp0];rfl
   obtain⟨h0,l0,pt0⟩:=pt.at' fh hp0 (by lia) (by lia);refine⟨_,rfl,x,dx,_,rfl,s1 _ _ h1,Cq d1 d2 (by decide +kernel) (by decide +kernel),x,rs,rfl,R.same s1,λlp H2 s2 f2 e2=>?_⟩;have s12:=s1.trans s2;refine⟨lp,_,_,_,rfl,rfl,SqL.of e2,AO e0,?_⟩;dsimp only;refine Ug (λσ' H'=>∃(le:Addr) (es:List BC),σ'=[some (.ref x),some v,some (.str p.1),some (.str p0.1),some (.ref le)]/\Same H2 H'/\H' le=some (.lst ((es.map (·.1)).map V.str))/\es.length=(CF i).length/\∀(k:Nat) j pk,(CF i)[k]? = some j->es[k]? = some pk->∃hk lk,Pt rs W j pk hk lk) ?_ (λN hN=>?_);rotate_left
   ·refine⟨_,rfl,_,rfl,rfl,_,rfl,?_⟩;by_cases hpp:p.1=p0.1
    ·refine Hf hpp ?_;have hi0:i=0:=Nj g pt.pl hp0 hpp;refine⟨_,rfl,Ba,λle hle=>hN _ _ ⟨le,[p],rfl,Same.new hle,Ak,?_,λk j pk hk hpk=>?_⟩⟩
     ·unfold CF;rw[As hi0];rfl
     unfold CF at hk;rw[As hi0]at hk;have hk0:k=0:=by have:=(AK.mp hpk).1;simp at this;lia
     subst hk0;cases hk;cases hpk;rw[<- hi0];exact⟨hp,l,pt⟩
    refine Hg hpp ?_;have hi0:i≠0:=λz=>hpp (by have e9:=pt.pl;rw[z,hp0]at e9;exact BB (·.1) (Bx e9).symm);refine⟨_,rfl,_,rfl,Ba,λle hle=>hN _ _ ⟨le,[p,p0],rfl,Same.new hle,Ak,?_,λk j pk hk hpk=>?_⟩⟩
    ·unfold CF;rw[Ai hi0];rfl
    unfold CF at hk;rw[Ai hi0]at hk;have hk2:=(AK.mp hpk).1;simp at hk2;rcases(by lia:k=0\/k=1)with e | e
    ·subst e;cases hk;cases hpk;exact⟨hp,l,pt⟩
    subst e;cases hk;cases hpk;exact⟨h0,l0,pt0⟩
   rintro _ H3 ⟨le,es,rfl,s3,e3,hel,hall⟩;have s13:=s12.trans s3;have hj2:(CF i).length<=2:=by unfold CF;split <;> simp
   have hem:((es.map (·.1)).map V.str).length=(CF i).length:=by rw[Ar,Ar,hel]
   refine⟨_,rfl,le,rfl,⟨_,SqL.of e3⟩,λD hD=>?_⟩
   refine Cj (n:=(CF i).length) (λk ys H4=>RdVs H4 ys (((CF i).take k).map λj=>dW (FY t W j))/\ys.length=k/\Same H3 H4/\H4 D=some (.lst ys)) ⟨.nil,rfl,Same.new hD,Ak⟩
    (λk ys H4 hk ⟨_,_,s4,_⟩=>⟨_,((es.map (·.1)).map V.str)[k]'(by lia),SqL.of (s4 _ _ e3),Bi (by lia)⟩) (λys H4 hh0=>by obtain⟨_,_,s4,_⟩:=hh0;exact⟨_,SqL.of (s4 _ _ e3),by lia⟩) ?_ ?_
   ·rintro k ys H4o y H4 hk ⟨hrd,hyl,s4,e4⟩ ⟨rfl,hx⟩;have hx1:=hx _ (SqL.of (s4 _ _ e3));have hke:k<es.length:=by lia
    have hx2:y=.str es[k].1:=by rw[A6,A6,Bi hke]at hx1;exact(Bx hx1).symm
    subst hx2;obtain⟨hk',lk',ptk⟩:=hall k (CF i)[k] es[k] (Bi hk) (Bi hke);refine Cu ?_;have s14:=s13.trans s4;refine⟨_,rfl,_,rfl,_,rfl,x,rs,v,W,(CF i)[k],es[k],hk',lk',t,rfl,R.same s14,g,s14.rd rv,ptk,hh,λv' H6 s6 r6=>?_⟩;refine⟨_,s6 _ _ e4,by lia,?_,by simp[hyl],(s4.trans s6).put hD,Ak⟩;rw[CD hk,B5];have kp:∀b us,H6 b=some (.tup us)->(Ac H6 D (.lst (ys++[v']))) b=some (.tup us):=λb us e=>by rw[Aj (BJ e (s6 _ _ e4) (by intro z;cases z))];exact e
    exact((s6.rds hrd).same kp).append (.cons (r6.same kp) .nil)
   rintro ys H4 ⟨hrd,hyl,s4,e4⟩;rw[Dx]at hrd;refine q D ys H4 (s13.trans s4) (s13.free hD) e4 ?_;unfold ED;rw[hh];dsimp only;rw[As hl,Dk];exact hrd
  rw[A8 hl];refine AS ⟨Be _,none' ?_ H1 s1⟩;unfold ED;rw[hh];dsimp only;rw[Ai hl]
def VO (F:Fun K "take" "take" Kk f fd)(T:Bl mg)(D_heap_in:Df K mg "heap_in" FJ DO f1 d1)(D_is_free:Df K mg "is_free" E8 De f2 d2)(D_is_open:Df K mg "is_open" FH DM f3 d3)(D_changed:Df K mg "changed" Fb Dr f4 d4)
  (G_heap_in:FnOk P w K mg base CX0 2 f1 d1 DO (Gw C))(G_is_free:FnOk P w K mg base CX0 1 f2 d2 De FC)(G_is_open:FnOk P w K mg base CX0 3 f3 d3 DM (Gv C))(G_changed:FnOk P w K mg base CX0 2 f4 d4 Dr (FD C)):FnOk P w K mg base CX0 4 f fd IE (EF C Ed):=by
 refine F.oq scTake λcdv A outer s H vs Q E hr3 h=>?_
 obtain⟨x,rs,v,W,i,p,hp,l,rfl,R,g,rv,pt,fh,q⟩:=h
 have hr1:Room 1 _:=hr3.mono (by decide)
 have hr2:Room 2 _:=hr3.mono (by decide)
 have aa:sizeLine=16777216:=AM
 have hlen:=pt.len
 have none':Ed W i hp l=[]->∀H':Hp,Same H H'->∀l':Addr,H' l'=none->Q (.ref l') (Ac H' l' (.lst [])):=λe H' s' l' hl'=>q l' [] _ (s'.trans (Same.new hl')) (s'.free hl') Ak (by rw[e];exact .nil)
 refine⟨_,(Af (Ay (i:=3) scTake.nd (AU G_heap_in hr2 (by rfl) D_heap_in.m D_heap_in.F.kp D_heap_in.b .nil Au (Aa (pv 0) (Aa (pv 1) (Aa (pv 2) Ab))))) (Af (AH (PW.pt (Cy (CG (Cr (AU G_is_free hr1 (by rfl) D_is_free.m D_is_free.F.kp D_is_free.b .nil Au (Aa (pv 1) Ab)))) (Cy (CG (Cr (AU G_is_open hr3 (by rfl) D_is_open.m D_is_open.F.kp D_is_open.b .nil Au (Aa (pv 0) (Aa (pv 1) (Aa (pv 2) Ab)))))) (DE (AI A9 (AE Bq (by rfl) T.len A0 (Aa (pv 3) Ab)) Ah (AJ _)))))) (Am (AC (Bh Ab))) AG) (Am (AC (Bh (Aa (BR (Aa (Az Bs (pv 3) (Iv HP Ah) (λ_ _=>rfl)) (Aa (AU G_changed hr2 (by rfl) D_changed.m D_changed.F.kp D_changed.b .nil Au (Aa (pv 0) (Aa (Az Bs (pv 1) Ah (λ_ _=>rfl)) (Aa (pv 2) (Aa (DH Kh (pv 3) DG (DF (Iv HP Ah))) Ab))))) (Aa (Az Bs (pv 1) Ah (λ_ _=>rfl)) Ab)))) Ab)))))),?_⟩
 refine⟨_,rfl,_,rfl,_,rfl,x,rs,v,W,i,p,hp,rfl,R,g,rv,pt.pl,pt.he,λt H1 s1 et=>?_⟩
 refine⟨_,rfl,v,W,rfl,s1.rd rv,_,rfl,?_⟩
 cases hh:W.hand with
 | some tt=>refine AS (AS ?_);exact⟨Be _,none' (by unfold Ed;rw[Ai (λz=>by rw[hh]at z;cases z.1)]) H1 s1⟩
 | none=>
  refine Bc ?_;refine⟨_,rfl,_,rfl,_,rfl,x,rs,v,W,i,p,l,rfl,R.same s1,g,s1.rd rv,pt.pl,pt.li,λH2 s2=>⟨_,rfl,?_⟩⟩;have s12:=s1.trans s2;by_cases hl:l = "open"
  ·rw[AQ hl];refine Bc ?_;have et2:=s12 _ _ et;refine⟨_,rfl,_,_,rfl,.inr ⟨_,SqT.of et2,rfl⟩,rfl,_,rfl,?_⟩;cases hl0:hp.getLast? with
   | none=>have hn:hp=[]:=R6.mp hl0;subst hn;refine AS ?_;exact⟨Be _,none' (by unfold Ed;rw[Ai (λz=>z.2.2 rfl)]) H2 s12⟩
   | some y=>
    have hne:hp≠[]:=λe=>by rw[e]at hl0;cases hl0
    have hpos:=Oy.mpr hne;have hlm:(hp.map V.str).length=hp.length:=Ar ..;refine A4 (λz=>?_) (λ_=>?_)
    ·exfalso;have:=V.int.inj (Bg z);lia
    obtain⟨c,v0,hb,cl,xs,ys,rfl,ea,r0,eb,rb,ec,rc⟩:=parts rv;have hlb:=rb.length;rw[Ar]at hlb;have hif:=pt.few;have hi:i<xs.length:=by have:=(AK.mp pt.he).1;lia
    have at1:AB [v0,V.ref hb,V.ref cl] ((1:Nat):Int)=some (.ref hb):=AO rfl;have at2:AB [v0,V.ref hb,V.ref cl] ((2:Nat):Int)=some (.ref cl):=AO rfl;have cut:A5 (hp.map V.str) none (some (-1))=(hp.dropLast).map V.str:=by unfold A5;rw[HT.sIx_none,JR,Lq,PL,hlm,<- Hr,List.dropLast_eq_take]
    refine⟨_,rfl,_,rfl,t,_,_,_,rfl,rfl,SqT.of et2,Z5 (by rw[List.getLast?_map,hl0];rfl),?_⟩;refine⟨_,rfl,_,rfl,c,_,_,_,rfl,rfl,SqT.of (s12 _ _ ea),at1,_,rfl,_,rfl,_,rfl,?_⟩;refine⟨_,rfl,t,_,rfl,SqT.of et2,?_,λp1 hp1=>?_⟩
    ·rw[HT.sIx_none,PL];lia
    rw[cut];obtain⟨H3,g0,s3,e3⟩:=Bd (H:=H2) (o:=.tup ((hp.dropLast).map V.str)) hp1;rw[g0];have s13:=s12.trans s3;refine⟨x,rs,hb,xs,i,p,.ref p1,rfl,R.same s13,g,s13 _ _ eb,hi,by lia,pt.pl,λt2 H4 s4 e4=>?_⟩;have s14:=s13.trans s4;refine⟨_,rfl,c,_,_,_,rfl,rfl,SqT.of (s14 _ _ ea),at2,Ba,λtw htw=>⟨Ba,λlw hlw=>?_⟩⟩;have s5:Same H4 (Ac H4 tw (.tup [V.str y,.ref t2,.ref cl])):=Same.new htw;have s6:Same (Ac H4 tw (.tup [V.str y,.ref t2,.ref cl])) (Ac (Ac H4 tw (.tup [V.str y,.ref t2,.ref cl])) lw (.lst [V.ref tw])):=Same.new hlw;have s46:=s5.trans s6;refine q lw [.ref tw] _ (s14.trans s46) ((s14.trans s5).free hlw) Ak ?_;unfold Ed;rw[As ⟨hh,hl,hne⟩,hl0];refine .cons (DC (s6 _ _ Ak) (.str y) (s46 _ _ e4) ?_ (s46 _ _ (s14 _ _ ec)) ((s14.trans s46).rds rc)) .nil;rw[Hw];exact FL i ((s14.trans s46).rds rb) (.tup (s46 _ _ (s4 _ _ e3)) (RdVs.strs _))
  rw[A8 hl];refine AS (AS ?_);exact⟨Be _,none' (by unfold Ed;rw[Ai (λz=>hl z.2.1)]) H2 s12⟩
def VR (F:Fun K "shake" "shake" Kl f fd)(T:Bl mg)(D_heap_in:Df K mg "heap_in" FJ DO f1 d1)(D_is_free:Df K mg "is_free" E8 De f2 d2)(D_is_open:Df K mg "is_open" FH DM f3 d3)(D_changed:Df K mg "changed" Fb Dr f4 d4)
  (G_heap_in:FnOk P w K mg base CX0 2 f1 d1 DO (Gw C))(G_is_free:FnOk P w K mg base CX0 1 f2 d2 De FC)(G_is_open:FnOk P w K mg base CX0 3 f3 d3 DM (Gv C))(G_changed:FnOk P w K mg base CX0 2 f4 d4 Dr (FD C)):FnOk P w K mg base CX0 4 f fd IF (EF C Ef):=by
 refine F.oq scShake λcdv A outer s H vs Q E hr3 h=>?_
 obtain⟨x,rs,v,W,i,p,hp,l,rfl,R,g,rv,pt,fh,q⟩:=h
 have hr1:Room 1 _:=hr3.mono (by decide)
 have hr2:Room 2 _:=hr3.mono (by decide)
 have aa:sizeLine=16777216:=AM
 have hlen:=pt.len
 have hif:=pt.few
 have rv':=rv
 have hlm:(hp.map V.str).length=hp.length:=Ar ..
 have none':Ef W i hp l=[]->∀H':Hp,Same H H'->∀l':Addr,H' l'=none->Q (.ref l') (Ac H' l' (.lst [])):=λe H' s' l' hl'=>q l' [] _ (s'.trans (Same.new hl')) (s'.free hl') Ak (by rw[e];exact .nil)
 refine⟨_,(Af (Ay (i:=3) scShake.nd (AU G_heap_in hr2 (by rfl) D_heap_in.m D_heap_in.F.kp D_heap_in.b .nil Au (Aa (pv 0) (Aa (pv 1) (Aa (pv 2) Ab))))) (Af (AH (PW.pt (Cy (CG (Cr (AU G_is_free hr1 (by rfl) D_is_free.m D_is_free.F.kp D_is_free.b .nil Au (Aa (pv 1) Ab)))) (Cy (Cr (AU G_is_open hr3 (by rfl) D_is_open.m D_is_open.F.kp D_is_open.b .nil Au (Aa (pv 0) (Aa (pv 1) (Aa (pv 2) Ab))))) (DE (AI Je (AE Bq (by rfl) T.len A0 (Aa (pv 3) Ab)) Ah (AJ _)))))) (Am (AC (Bh Ab))) AG) (Af (Ay (i:=4) scShake.nd (Ax Jf (DH Kh (pv 3) DG (DF (Iv HP Ah))) (BR (Aa (Az Bs (pv 3) (Iv HP Ah) (λ_ _=>rfl)) (Aa (Az Bs (pv 3) (Iv HP Ah) (λ_ _=>rfl)) Ab))))) (Am (AC (Bh (Aa (pv 1) (Aa (BR (Aa Ej (Aa (AU G_changed hr2 (by rfl) D_changed.m D_changed.F.kp D_changed.b .nil Au (Aa (pv 0) (Aa (Az Bs (pv 1) Ah (λ_ _=>rfl)) (Aa (pv 2) (Aa (pv 4) Ab))))) (Aa (Az Bs (pv 1) Ah (λ_ _=>rfl)) Ab)))) Ab)))))))),?_⟩
 refine⟨_,rfl,_,rfl,_,rfl,x,rs,v,W,i,p,hp,rfl,R,g,rv,pt.pl,pt.he,λt H1 s1 et=>?_⟩
 refine⟨_,rfl,v,W,rfl,s1.rd rv,_,rfl,?_⟩
 cases hh:W.hand with
 | some tt=>refine AS (AS ?_);exact⟨Be _,none' (by unfold Ef;rw[Ai (λz=>by rw[hh]at z;cases z.1)]) H1 s1⟩
 | none=>
  refine Bc ?_;refine⟨_,rfl,_,rfl,_,rfl,x,rs,v,W,i,p,l,rfl,R.same s1,g,s1.rd rv,pt.pl,pt.li,λH2 s2=>⟨_,rfl,?_⟩⟩;have s12:=s1.trans s2;by_cases hl:l = "open"
  ·rw[AQ hl];refine AS (AS ?_);exact⟨Be _,none' (by unfold Ef;rw[Ai (λz=>z.2.1 hl)]) H2 s12⟩
  rw[A8 hl];refine Bc ?_;have et2:=s12 _ _ et;refine⟨_,rfl,_,_,rfl,.inr ⟨_,SqT.of et2,rfl⟩,_,_,rfl,rfl,_,rfl,?_⟩;refine A4 (λz=>?_) (λz=>?_)
  ·have z':=Bg z;exact⟨Be _,none' (by unfold Ef;rw[Ai (λy=>by lia)]) H2 s12⟩
  have h2:2<=hp.length:=by have:=of_decide_eq_false (Bool.eq_false_iff.mpr z);lia
  obtain⟨r,b,a,hr⟩:=SM h2;subst hr;obtain⟨c,v0,hb,cl,xs,ys,rfl,ea,r0,eb,rb,ec,rc⟩:=parts rv;have hlb:=rb.length;rw[Ar]at hlb;have hi:i<xs.length:=by have:=(AK.mp pt.he).1;lia
  have at1:AB [v0,V.ref hb,V.ref cl] ((1:Nat):Int)=some (.ref hb):=AO rfl;have at2:AB [v0,V.ref hb,V.ref cl] ((2:Nat):Int)=some (.ref cl):=AO rfl;have em:(r++[b,a]).map V.str=r.map V.str++[V.str b,V.str a]:=by simp
  have em':(r++[b,a]).map V.str=(r.map V.str++[V.str b])++[V.str a]:=by simp
  have cut:A5 ((r++[b,a]).map V.str) none (some (-2))=r.map V.str:=by
   unfold A5;rw[HT.sIx_none,JR,Lq,PK,em];have e:(r.map V.str++[V.str b,V.str a]).length-2=(r.map V.str).length:=by simp
   rw[e,List.take_left]
  have hrl:(r++[b,a]).length=r.length+2:=by simp
  refine⟨_,rfl,_,rfl,_,rfl,t,_,rfl,SqT.of et2,?_,λp1 hp1=>?_⟩
  ·rw[HT.sIx_none,PK];lia
  rw[cut];obtain⟨H3,g0,s3,e3⟩:=Bd (H:=H2) (o:=.tup (r.map V.str)) hp1;rw[g0];have et3:=s3 _ _ et2;have am1:AB ((r++[b,a]).map V.str) (-1)=some (.str a):=by rw[em'];exact RW _ _
  have am2:AB ((r++[b,a]).map V.str) (-2)=some (.str b):=by rw[em];exact Z6 _ _ _
  refine⟨_,rfl,_,rfl,t,_,_,_,rfl,rfl,SqT.of et3,am1,_,rfl,_,rfl,t,_,_,_,rfl,rfl,SqT.of et3,am2,Ba,λp2 hp2=>?_⟩;obtain⟨H4,g0,s4,e4⟩:=Bd (H:=H3) (o:=.tup [V.str a,V.str b]) hp2;rw[g0];refine JA (s4 _ _ e3) e4 (by rw[Ar];show _+2<=_;lia) λp3 H5 s5 e5=>?_;have s15:=s12.trans (s3.trans (s4.trans s5));refine⟨_,rfl,_,rfl,_,rfl,c,_,_,_,rfl,rfl,SqT.of (s15 _ _ ea),at1,_,rfl,_,rfl,x,rs,hb,xs,i,p,.ref p3,rfl,R.same s15,g,s15 _ _ eb,hi,by lia,pt.pl,λt2 H6 s6 e6=>?_⟩;have s16:=s15.trans s6;refine⟨_,rfl,c,_,_,_,rfl,rfl,SqT.of (s16 _ _ ea),at2,Ba,λtw htw=>⟨Ba,λlw hlw=>?_⟩⟩;have s7:Same H6 (Ac H6 tw (.tup [V.non,.ref t2,.ref cl])):=Same.new htw;have s8:Same (Ac H6 tw (.tup [V.non,.ref t2,.ref cl])) (Ac (Ac H6 tw (.tup [V.non,.ref t2,.ref cl])) lw (.lst [V.ref c,V.ref tw])):=Same.new hlw;have s78:=s7.trans s8;have sA:=s16.trans s78;refine q lw [.ref c,.ref tw] _ sA ((s16.trans s7).free hlw) Ak ?_;unfold Ef;rw[As ⟨hh,hl,h2⟩,TV];refine .cons (sA.rd rv') (.cons (DC (s8 _ _ Ak) .non (s78 _ _ e6) ?_ (s78 _ _ (s16 _ _ ec)) (sA.rds rc)) .nil);show RdVs _ _ ((W.heaps.set i (r++[a,b])).map dH);rw[Hw];refine FL i (sA.rds rb) (.tup (s78 _ _ (s6 _ _ e5)) ?_);rw[show r.map V.str++[V.str a,V.str b]=(r++[a,b]).map V.str by simp];exact RdVs.strs _
def VJ (F:Fun K "tip" "tip" Kj f fd)(T:Bl mg)(D_heap_in:Df K mg "heap_in" FJ DO f1 d1)(D_is_free:Df K mg "is_free" E8 De f2 d2)(D_is_open:Df K mg "is_open" FH DM f3 d3)(D_changed:Df K mg "changed" Fb Dr f4 d4)
  (G_heap_in:FnOk P w K mg base CX0 2 f1 d1 DO (Gw C))(G_is_free:FnOk P w K mg base CX0 1 f2 d2 De FC)(G_is_open:FnOk P w K mg base CX0 3 f3 d3 DM (Gv C))(G_changed:FnOk P w K mg base CX0 2 f4 d4 Dr (FD C)):FnOk P w K mg base CX0 4 f fd ID (Mm C):=by
 refine F.oq scTip λcdv A outer s H vs Q E hr3 h=>?_
 obtain⟨x,rs,v,W,i,p,hp,l,j,pj,hq,lq,rfl,R,g,rv,pt,pq,q⟩:=h
 have hr1:Room 1 _:=hr3.mono (by decide)
 have hr2:Room 2 _:=hr3.mono (by decide)
 have aa:sizeLine=16777216:=AM
 have hlen:=pt.len
 have hlenq:=pq.len
 have hif:=pt.few
 have rv':=rv
 have hlm:(hp.map V.str).length=hp.length:=Ar ..
 have none':EE W i hp l j hq lq=[]->∀H':Hp,Same H H'->∀l':Addr,H' l'=none->Q (.ref l') (Ac H' l' (.lst [])):=λe H' s' l' hl'=>q l' [] _ (s'.trans (Same.new hl')) (s'.free hl') Ak (by rw[e];exact .nil)
 refine⟨_,(Af (Ay (i:=4) scTip.nd (AU G_heap_in hr2 (by rfl) D_heap_in.m D_heap_in.F.kp D_heap_in.b .nil Au (Aa (pv 0) (Aa (pv 1) (Aa (pv 2) Ab))))) (Af (AH (PW.pt (Cy (CG (Cr (AU G_is_free hr1 (by rfl) D_is_free.m D_is_free.F.kp D_is_free.b .nil Au (Aa (pv 1) Ab)))) (Cy (CG (Cr (AU G_is_open hr3 (by rfl) D_is_open.m D_is_open.F.kp D_is_open.b .nil Au (Aa (pv 0) (Aa (pv 1) (Aa (pv 2) Ab)))))) (Cy (CG (Cr (AU G_is_open hr3 (by rfl) D_is_open.m D_is_open.F.kp D_is_open.b .nil Au (Aa (pv 0) (Aa (pv 1) (Aa (pv 3) Ab)))))) (DE (AI A9 (AE Bq (by rfl) T.len A0 (Aa (pv 4) Ab)) Ah (AJ _))))))) (Am (AC (Bh Ab))) AG) (Af (Ay (i:=5) scTip.nd (Ax Jf (AU G_heap_in hr2 (by rfl) D_heap_in.m D_heap_in.F.kp D_heap_in.b .nil Au (Aa (pv 0) (Aa (pv 1) (Aa (pv 3) Ab)))) (Vo rfl (by rfl) T.tuple Lk (by rfl) T.reversed Z0 (Aa (pv 4) Ab)))) (Af (Ay (i:=6) scTip.nd (AU G_changed hr2 (by rfl) D_changed.m D_changed.F.kp D_changed.b .nil Au (Aa (pv 0) (Aa (AU G_changed hr2 (by rfl) D_changed.m D_changed.F.kp D_changed.b .nil Au (Aa (pv 0) (Aa (Az Bs (pv 1) Ah (λ_ _=>rfl)) (Aa (pv 2) (Aa (BR Ab) Ab))))) (Aa (pv 3) (Aa (pv 5) Ab)))))) (Am (AC (Bh (Aa (BR (Aa Ej (Aa (pv 6) (Aa (Az Bs (pv 1) Ah (λ_ _=>rfl)) Ab)))) Ab)))))))),?_⟩
 refine⟨_,rfl,_,rfl,_,rfl,x,rs,v,W,i,p,hp,rfl,R,g,rv,pt.pl,pt.he,λt H1 s1 et=>?_⟩
 refine⟨_,rfl,v,W,rfl,s1.rd rv,_,rfl,?_⟩
 cases hh:W.hand with
 | some tt=>refine AS (AS ?_);exact⟨Be _,none' (by unfold EE;rw[Ai (λz=>by rw[hh]at z;cases z.1)]) H1 s1⟩
 | none=>
  refine Bc ?_;refine⟨_,rfl,_,rfl,_,rfl,x,rs,v,W,i,p,l,rfl,R.same s1,g,s1.rd rv,pt.pl,pt.li,λH2 s2=>⟨_,rfl,?_⟩⟩;have s12:=s1.trans s2;by_cases hl:l = "open"
  ·rw[AQ hl];refine Bc ?_;refine⟨_,rfl,_,rfl,_,rfl,x,rs,v,W,j,pj,lq,rfl,R.same s12,g,s12.rd rv,pq.pl,pq.li,λH3 s3=>⟨_,rfl,?_⟩⟩;have s13:=s12.trans s3;by_cases hlq:lq = "open"
   ·rw[AQ hlq];refine Bc ?_;have et3:=s13 _ _ et;refine⟨_,rfl,_,_,rfl,.inr ⟨_,SqT.of et3,rfl⟩,rfl,_,rfl,?_⟩;by_cases hne:hp=[]
    ·subst hne;refine AS ?_;exact⟨Be _,none' (by unfold EE;rw[Ai (λz=>z.2.2.2 rfl)]) H3 s13⟩
    refine A4 (λz=>?_) (λ_=>?_)
    ·exfalso;have:=V.int.inj (Bg z);have:=Oy.mpr hne;lia
    obtain⟨c,v0,hb,cl,xs,ys,rfl,ea,r0,eb,rb,ec,rc⟩:=parts rv;have hlb:=rb.length;rw[Ar]at hlb;have hi:i<xs.length:=by have:=(AK.mp pt.he).1;lia
    have hj:j<xs.length:=by have:=(AK.mp pq.he).1;lia
    have at1:AB [v0,V.ref hb,V.ref cl] ((1:Nat):Int)=some (.ref hb):=AO rfl;have at2:AB [v0,V.ref hb,V.ref cl] ((2:Nat):Int)=some (.ref cl):=AO rfl;refine⟨_,rfl,_,rfl,_,rfl,x,rs,_,W,j,pj,hq,rfl,R.same s13,g,s13.rd rv',pq.pl,pq.he,λt5 H4 s4 et5=>?_⟩;have s14:=s13.trans s4;refine⟨_,rfl,t,_,rfl,SqT.of (s14 _ _ et),(λz=>hne (List.map_eq_nil_iff.mp z)),λp1 hp1=>?_⟩;obtain⟨H5,g0,s5,e5⟩:=Bd (H:=H4) (o:=.tup (hp.map V.str).reverse) hp1;rw[g0];refine JA (s5 _ _ (s4 _ _ et5)) e5 (by rw[LL,Ar,Ar];lia) λp3 H6 s6 e6=>?_;have s16:=s14.trans (s5.trans s6);refine⟨_,rfl,_,rfl,_,rfl,c,_,_,_,rfl,rfl,SqT.of (s16 _ _ ea),at1,_,rfl,Be _,λp4 hp4=>?_⟩;obtain⟨H7,g0,s7,e7⟩:=Bd (H:=H6) (o:=.tup []) hp4;rw[g0];have s17:=s16.trans s7;refine⟨x,rs,hb,xs,i,p,.ref p4,rfl,R.same s17,g,s17 _ _ eb,hi,by lia,pt.pl,λt6 H8 s8 e8=>?_⟩;have s18:=s17.trans s8;refine⟨_,rfl,_,rfl,x,rs,t6,_,j,pj,.ref p3,rfl,R.same s18,g,e8,by rw[ET];lia,by rw[ET];lia,pq.pl,λt7 H9 s9 e9=>?_⟩;have s19:=s18.trans s9;refine⟨_,rfl,_,rfl,c,_,_,_,rfl,rfl,SqT.of (s19 _ _ ea),at2,Ba,λtw htw=>⟨Ba,λlw hlw=>?_⟩⟩;have sB:Same H9 (Ac H9 tw (.tup [V.non,.ref t7,.ref cl])):=Same.new htw;have sC:Same (Ac H9 tw (.tup [V.non,.ref t7,.ref cl])) (Ac (Ac H9 tw (.tup [V.non,.ref t7,.ref cl])) lw (.lst [V.ref tw])):=Same.new hlw;have sBC:=sB.trans sC;have sA:=s19.trans sBC;refine q lw [.ref tw] _ sA ((s19.trans sB).free hlw) Ak ?_;unfold EE;rw[As ⟨hh,hl,hlq,hne⟩];refine .cons (DC (sC _ _ Ak) .non (sBC _ _ e9) ?_ (sBC _ _ (s19 _ _ ec)) (sA.rds rc)) .nil;show RdVs _ _ (((W.heaps.set i []).set j (hq++hp.reverse)).map dH);rw[Hw,Hw];have s89:=(s8.trans s9).trans sBC;refine FL j (FL i (sA.rds rb) (.tup (s89 _ _ e7) .nil)) (.tup (s89 _ _ (s7 _ _ e6)) ?_);rw[show hq.map V.str++(hp.map V.str).reverse=(hq++hp.reverse).map V.str by simp];exact RdVs.strs _
   rw[A8 hlq];refine AS (AS ?_);exact⟨Be _,none' (by unfold EE;rw[Ai (λz=>hlq z.2.2.1)]) H3 s13⟩
  rw[A8 hl];refine AS (AS ?_);exact⟨Be _,none' (by unfold EE;rw[Ai (λz=>hl z.2.1)]) H2 s12⟩
def Wc (F:Fun K "move_things" "move_things" Kt f fd)(C_take:Ca P w K mg base CX0 4 "take" Kk IE (EF C Ed))(C_put:Ca P w K mg base CX0 5 "put" Kr IK (EF C putF))(C_toss:Ca P w K mg base CX0 5 "toss" Ia IC (EF C ED))(C_shake:Ca P w K mg base CX0 4 "shake" Kl IF (EF C Ef)):FnOk P w K mg base CX0 6 f fd IM (MA C):=by
 refine F.oq Uo λcdv A outer s H vs Q E hr5 h=>?_;obtain⟨x,rs,v,W,w,i,p,hp,l,rfl,R,g,rv,pt,fh,q⟩:=h;have hr4:Room 4 _:=hr5.mono (by decide);refine⟨_,(Af (AH (AI A9 (pv 2) Av (AJ _)) (Am (AC (AY C_take hr4 Au (Aa (pv 0) (Aa (pv 1) (Aa (pv 3) Ab)))))) AG) (Af (AH (AI A9 (pv 2) Av (AJ _)) (Am (AC (AY C_put hr5 Au (Aa (pv 0) (Aa (pv 1) (Aa (pv 3) Ab)))))) AG) (Af (AH (AI A9 (pv 2) Av (AJ _)) (Am (AC (AY C_toss hr5 Au (Aa (pv 0) (Aa (pv 1) (Aa (pv 3) Ab)))))) AG) (Am (AC (AY C_shake hr4 Au (Aa (pv 0) (Aa (pv 1) (Aa (pv 3) Ab))))))))),?_⟩;unfold Jh at q;refine⟨_,rfl,rfl,_,rfl,?_⟩;by_cases h1:w = "take"
 ·rw[As h1]at q;exact Hf h1 ⟨_,rfl,_,rfl,_,rfl,x,rs,v,W,i,p,hp,l,rfl,R,g,rv,pt,fh,q⟩
 rw[Ai h1]at q;refine Hg h1 ?_;refine⟨_,rfl,rfl,_,rfl,?_⟩;by_cases h2:w = "put"
 ·rw[As h2]at q;exact Hf h2 ⟨_,rfl,_,rfl,_,rfl,x,rs,v,W,i,p,hp,l,rfl,R,g,rv,pt,fh,q⟩
 rw[Ai h2]at q;refine Hg h2 ?_;refine⟨_,rfl,rfl,_,rfl,?_⟩;by_cases h3:w = "toss"
 ·rw[As h3]at q;exact Hf h3 ⟨_,rfl,_,rfl,_,rfl,x,rs,v,W,i,p,hp,l,rfl,R,g,rv,pt,fh,q⟩
 rw[Ai h3]at q;refine Hg h3 ?_;exact⟨_,rfl,_,rfl,_,rfl,x,rs,v,W,i,p,hp,l,rfl,R,g,rv,pt,fh,q⟩
def Zm (x y:Str):PyData.eqv (.str x) (.str y)=decide (x=y):=by
 rw[PyData.eqv];by_cases h:x=y
 ·simp[h]
 simp[h]
end
end K22
namespace K22
open PySem L2 Tx Rk PyProof.Rows PySem.SeqAt
open PySem.PyData (strOk)
end K22
namespace K22
open PySem L2 Tx Rk PyProof.Rows PySem.SeqAt
open PySem.PyData (strOk)
section
variable {P:Program}{w:World}{K:W.Frag}{mg:Str->Option Value}{base:Heap}
def Jg:List Str:=["take", "put", "toss", "tip", "shake", "open", "shut", "lock", "unlock"]
def NB {w:Str}(h:w∈Jg):w∈G5\/w∈En:=by simp only[Jg,G5,En,AD,B6,B4]at h ⊢;rcases h with e | e | e | e | e | e | e | e | e <;> simp[e]
def Yq {w:Str}(h:w∈G5):w∉En:=by rcases K8 h with e | e | e | e | e <;> (rw[e];decide +kernel)
def G3 (w:Str)(p:BC)(W:Wl)(i:Nat)(hp:List Str)(l:Str)(j:Nat)(hq:List Str)(lq:Str):List Wl:=if w∈En then FX w p W i l else JD w W i hp l j hq lq
inductive Mj (C:Addr)(vs:List V)(H:Hp)(Q:VK)(E0_:XK):Prop
 | mk (x:Addr) (rs:List Ro) (v:V) (W:Wl) (line w:Str) (i:Nat) (p:BC) (hp:List Str) (l:Str) (j:Nat) (pj:BC) (hq:List Str) (lq:Str) (c0:vs=[.ref x,.str line,v]) (c1:RoomAt C H x rs) (c2:Good rs) (c3:RdV H v (dW W)) (c4:Wd line (HN w p.1 pj.1)) (c5:line.length<=1000) (c6:Pt rs W i p hp l) (c7:Pt rs W j pj hq lq) (c8:(w = "tip" -> i≠j)) (c9:w∈Jg) (c10:(∀h∈W.heaps,h.length<=100)) (c11:W.lids.length<=100) (c12:∀(lw:Addr) (us:List V) (H':Hp),Same H H'->H' lw=some (.lst us)->RdVs H' us ((G3 w p W i hp l j hq lq).map dW)->Q (.ref lw) H'):Mj C vs H Q E0_
theorem Jq:∀{rs:List Ro}{p:BC},p∈plc rs->p.2.2.isSome=true->p.2.1=true
 | .pl n::r,p,h,e=>by
  rcases(AD.mp h)with z | z
  ·rw[z]at e;cases e
  exact Jq (rs:=r) z e
 | .bx n::r,p,h,e=>by
  rcases(AD.mp h)with z | z
  ·rw[z]at e;cases e
  exact Jq (rs:=r) z e
 | .lk n k::r,p,h,e=>by
  rcases(AD.mp h)with z | z
  ·rw[z]
  exact Jq (rs:=r) z e
 | .th n s::r,p,h,e=>Jq (rs:=r) h e
def Jv {xss:List (List Str)}:∀{i:Nat}(_:i<xss.length) (z:List Str),(xss.set i z).flatten.Perm (z++(xss.set i []).flatten):=by
 induction xss with
 | nil=>intro i h;cases h
 | cons y r ih=>
  intro i h z;cases i with
  | zero=>show(z++r.flatten).Perm (z++([]++r.flatten));exact .refl _
  | succ i=>show(y++(r.set i z).flatten).Perm (z++(y++(r.set i []).flatten));refine(EY y (ih (Nat.lt_of_succ_lt_succ h) z)).trans ?_;(rw[<- DZ,<- DZ]);(exact JF _ LQ)
def Jw {xss:List (List Str)}{i:Nat}{hp:List Str}(h:xss[i]? = some hp):xss.flatten.Perm (hp++(xss.set i []).flatten):=by
 (obtain⟨hi,e⟩:=AK.mp h);have e2:xss.set i hp=xss:=by rw[<- e];exact List.set_getElem_self hi
 have:=Jv hi hp;rw[e2]at this;exact this
def Ld (fw:Fw rs W)(sz:Sz W (plc rs).length)(h1:(Z.hand.toList++Z.heaps.flatten).Perm (W.hand.toList++W.heaps.flatten))(h2:Z.heaps.length=W.heaps.length)(h3:Z.lids=W.lids):Fw rs Z/\Sz Z (plc rs).length:=
 ⟨⟨h1.trans fw.perm,by rw[h3];exact fw.lids⟩,h2.trans sz.1,by rw[h3];exact sz.2⟩
def QI {t:Str}{k:Nat}(fw:Fw rs W)(sz:Sz W (plc rs).length)(hh:W.hand=some t)(hk:k<W.heaps.length):Fw rs (FY t W k)/\Sz (FY t W k) (plc rs).length:=by
 have hit:W.heaps[k]? = some (W.heaps.getD k []):=by rw[F8,Bi hk];rfl
 refine Ld fw sz ?_ (ET ..) rfl;rw[hh];show([]++(W.heaps.set k (W.heaps.getD k []++[t])).flatten).Perm ([t]++W.heaps.flatten);refine(Jv hk _).trans ?_;refine JT ?_ (EY [t] (Jw hit).symm);rw[<- DZ];(exact JF _ LQ)
def W3 {rs:List Ro}{W:Wl}{w:Str}{i j:Nat}{p pj:BC}{hp hq:List Str}{l lq:Str}(fw:Fw rs W)(sz:Sz W (plc rs).length)(pt:Pt rs W i p hp l)(pq:Pt rs W j pj hq lq)(hij:w = "tip" -> i≠j)(hw:w∈Jg):∀Z∈G3 w p W i hp l j hq lq,Fw rs Z/\Sz Z (plc rs).length:=by
 have hih:=(AK.mp pt.he).1;have hil:=(AK.mp pt.li).1;have hpm:=BE pt.pl;intro Z hZ;unfold G3 at hZ;split at hZ
 ·rename_i hl;unfold FX at hZ;split at hZ
  ·rename_i hc;rw[AW.mp hZ];refine⟨⟨fw.perm,λk pk lk hk hlk=>?_⟩,sz.1,(ET ..).trans sz.2⟩;have hlk':(W.lids.set i (F3 w))[k]? = some lk:=hlk;by_cases e:i=k
   ·subst e;rw[Gb hil]at hlk';have e1:=Bx hlk';rw[pt.pl]at hk;have e2:=Bx hk;subst e2;subst e1;have hf:=hc.2;unfold Jx at hf;rcases NG hl with e | e | e | e
    ·subst e;exact .inl (by decide +kernel)
    ·subst e;rw[Ai (by decide +kernel),Ce]at hf;exact .inr (.inl ⟨by decide +kernel,hf.2⟩)
    ·subst e;rw[As (by decide +kernel),Ce]at hf;refine .inr (.inr ⟨by decide +kernel,?_⟩);cases hk2:p.2.2 with
     | some _=>rfl
     | none=>
      exfalso;have h2:=Bg hf.2;rw[hk2]at h2;cases hh:W.hand with
      | none=>rw[hh]at hf;cases hf.1
      | some t=>rw[hh]at h2;cases h2
    subst e;rw[As (by decide +kernel),Ce]at hf;refine .inr (.inl ⟨by decide +kernel,Jq hpm ?_⟩);cases hk2:p.2.2 with
    | some _=>rfl
    | none=>
     exfalso;have h2:=Bg hf.2;rw[hk2]at h2;cases hh:W.hand with
     | none=>rw[hh]at hf;cases hf.1
     | some t=>rw[hh]at h2;cases h2
   rw[F7 e]at hlk';exact fw.lids k pk lk hk hlk'
  cases hZ
 unfold JD at hZ;split at hZ
 ·rename_i ht;unfold EE at hZ;split at hZ
  ·rename_i hc;rw[AW.mp hZ];refine Ld fw sz ?_ (by show((W.heaps.set i []).set j _).length=_;rw[ET,ET]) rfl;rw[hc.1];show([]++((W.heaps.set i []).set j (hq++hp.reverse)).flatten).Perm ([]++W.heaps.flatten);have hj:(W.heaps.set i [])[j]? = some hq:=by rw[F7 (hij ht)];exact pq.he
   refine(Jv (AK.mp hj).1 _).trans ?_;refine JT ?_ (Jw pt.he).symm;refine JT ?_ (EY hp (Jw hj).symm);rw[<- DZ];refine JF _ ?_;exact(EY hq (Oj hp)).trans LQ
  cases hZ
 unfold Jh at hZ;split at hZ
 ·unfold Ed at hZ;split at hZ
  ·rename_i hc;rw[AW.mp hZ];refine Ld fw sz ?_ (by show(W.heaps.set i _).length=_;rw[ET]) rfl
   obtain⟨y,hy⟩:∃y,hp.getLast? = some y:=by
    cases hg:hp.getLast? with
    | none=>exact absurd (R6.mp hg) hc.2.2
    | some y=>exact⟨y,rfl⟩
   obtain⟨ys,e⟩:=R8.mp hy;rw[hc.1];show(hp.getLast?.toList++(W.heaps.set i hp.dropLast).flatten).Perm ([]++W.heaps.flatten);rw[hy];refine(EY _ (Jv hih _)).trans ?_;refine JT ?_ (Jw pt.he).symm;rw[<- DZ];refine JF _ ?_;rw[e,List.dropLast_concat];exact LQ
  cases hZ
 split at hZ
 ·unfold putF at hZ;split at hZ
  ·rename_i t ht;split at hZ
   ·rw[AW.mp hZ];exact QI fw sz ht hih
   cases hZ
  cases hZ
 split at hZ
 ·unfold ED at hZ;split at hZ
  ·rename_i t ht;split at hZ
   ·obtain⟨k,hk,e⟩:=B0.mp hZ;rw[<- e];refine QI fw sz ht ?_;unfold CF at hk;split at hk
    ·rw[AW.mp hk];lia
    rcases(AD.mp hk)with e | e
    ·rw[e];exact hih
    rw[AW.mp e];lia
   cases hZ
  cases hZ
 unfold Ef at hZ;split at hZ
 ·rename_i hc;rcases(AD.mp hZ)with e | e
  ·rw[e];exact⟨fw,sz⟩
  rw[AW.mp e];refine Ld fw sz ?_ (by show(W.heaps.set i _).length=_;rw[ET]) rfl;rw[hc.1];show([]++(W.heaps.set i (FA hp)).flatten).Perm ([]++W.heaps.flatten);refine(Jv hih _).trans (JT (JF _ ?_) (Jw pt.he).symm);unfold FA;refine(EY _ (Oj _)).trans ?_;rw[C0]
 cases hZ
inductive HX (K:W.Frag)(vs:List V)(H:Hp)(Q:VK)(E0_:XK):Prop
 | mk (a:Addr) (ns:List Int) (c0:vs=[.ref a]) (c1:SqL K H a (ns.map V.int)) (c2:ns.length<=63) (c3:∀H',Q (.bl true) H'):HX K vs H Q E0_
abbrev Nr:List Str:=["_law_script"]
abbrev Xs:List Str:=BZ Nr ["_law_drawn", "_law_room_here", "_law_world_here", "_law_word", "_law_way"]
def scLaw:AF Xs Nr (Aq FF):=AN
def VH (F:Fun K "turns" "turns" GA f fd)(DL:Dl P w K mg aL t1 t2 t3 t4)(C_read_deed:Ca P w K mg base CX0 2 "read_deed" E6 Ff (Ka C))(C_tip:Ca P w K mg base CX0 4 "tip" Kj ID (Mm C))(C_move_things:Ca P w K mg base CX0 6 "move_things" Kt IM (MA C))(C_move_lid:Ca P w K mg base CX0 4 "move_lid" Ku IP (MB C)):FnOk P w K mg base CX0 7 f fd FQ (Mj C):=by
 refine F.oq scTurns λcdv A outer s H vs Q E hr6 h=>?_;obtain⟨x,rs,v,W,line,w,i,p,hp,l,j,pj,hq,lq,rfl,R,g,rv,hw,ln,pt,pq,hij,hwn,fh,hll,q⟩:=h;have hr2:Room 2 _:=hr6.mono (by decide);have hr4:Room 4 _:=hr6.mono (by decide);refine⟨_,(Af (Ay (i:=3) scTurns.nd (AY C_read_deed hr2 Au (Aa (pv 0) (Aa (pv 1) Ab)))) (Af (AH (AI A9 (Az Bb (pv 3) Ah (λ_ _=>rfl)) Av (AJ _)) (Am (AC (AY C_tip hr4 Au (Aa (pv 0) (Aa (pv 2) (Aa (Az Bb (pv 3) Ah (λ_ _=>rfl)) (Aa (Az Bb (pv 3) Ah (λ_ _=>rfl)) Ab))))))) AG) (Af (AH (FO (Vv (Az Bb (pv 3) Ah (λ_ _=>rfl)) (A1 (v:=.ref aL) (by rfl) DL.lm rfl))) (Am (AC (AY C_move_lid hr4 Au (Aa (pv 0) (Aa (pv 2) (Aa (Az Bb (pv 3) Ah (λ_ _=>rfl)) (Aa (Az Bb (pv 3) Ah (λ_ _=>rfl)) Ab))))))) AG) (Am (AC (AY C_move_things hr6 Au (Aa (pv 0) (Aa (pv 2) (Aa (Az Bb (pv 3) Ah (λ_ _=>rfl)) (Aa (Az Bb (pv 3) Ah (λ_ _=>rfl)) Ab)))))))))),?_⟩;unfold G3 at q;by_cases htip:w = "tip"
 ·rw[Ai (by rw[htip];decide +kernel)]at q;unfold JD at q;rw[As htip]at q;unfold HN at hw;rw[As htip]at hw;have hnd:[p.1,pj.1].Nodup:=by have hne:p.1≠pj.1:=λe=>hij htip (Nj g pt.pl pq.pl e);simp[hne]
  have dk:Fm rs w [p.1,pj.1]=true:=by
   unfold Fm;have h2:BP w=V.int 2:=by rw[htip];decide +kernel
   rw[show decide (BP w=V.int (([p.1,pj.1].length:Nat):Int))=true from AQ h2,AQ hnd];rw[show([p.1,pj.1].all λp=>decide (p∈(plc rs).map (·.1)))=true from ?_]
   ·rfl
   rw[DW];intro y hy;refine AQ ?_;rcases(AD.mp hy)with e | e
   ·rw[e];exact EV (BE pt.pl)
   rw[AW.mp e];exact EV (BE pq.pl)
  refine⟨_,rfl,_,rfl,x,rs,line,_,_,rfl,R,hw,ln,by show 2<=100;decide,dk,λlw H1 s1 el=>?_⟩;have a0:AB (([w,p.1,pj.1]:List Str).map V.str) ((0:Nat):Int)=some (.str w):=AO rfl;have a1:AB (([w,p.1,pj.1]:List Str).map V.str) ((1:Nat):Int)=some (.str p.1):=AO rfl;have a2:AB (([w,p.1,pj.1]:List Str).map V.str) ((2:Nat):Int)=some (.str pj.1):=AO rfl;refine⟨_,rfl,lw,_,_,_,rfl,rfl,SqL.of el,a0,rfl,_,rfl,?_⟩;refine Hf htip ?_;exact⟨_,rfl,_,rfl,_,rfl,lw,_,_,_,rfl,rfl,SqL.of el,a1,_,rfl,lw,_,_,_,rfl,rfl,SqL.of el,a2,x,rs,v,W,i,p,hp,l,j,pj,hq,lq,rfl,R.same s1,g,s1.rd rv,pt,pq,λlr us H2 s2 _ e2 r2=>q lr us H2 (s1.trans s2) e2 r2⟩
 unfold HN at hw;rw[Ai htip]at hw
 have hpl:BP w=V.int 1:=by
  rcases NB hwn with hm | hm
  ·rcases K8 hm with e | e | e | e | e
   ·rw[e];decide +kernel
   ·rw[e];decide +kernel
   ·rw[e];decide +kernel
   ·exact absurd e htip
   rw[e];decide +kernel
  exact QC hm
 refine⟨_,rfl,_,rfl,x,rs,line,_,_,rfl,R,hw,ln,by show 1<=100;decide,Ra pt.pl hpl,λlw H1 s1 el=>?_⟩;have a0:AB (([w,p.1]:List Str).map V.str) ((0:Nat):Int)=some (.str w):=AO rfl;have a1:AB (([w,p.1]:List Str).map V.str) ((1:Nat):Int)=some (.str p.1):=AO rfl;refine⟨_,rfl,lw,_,_,_,rfl,rfl,SqL.of el,a0,rfl,_,rfl,?_⟩;refine Hg htip ?_;refine⟨_,rfl,lw,_,_,_,rfl,rfl,SqL.of el,a0,aL,_,(Sum.inr w:Ag),rfl,DL.ld,rfl,_,rfl,?_⟩;rcases NB hwn with hm | hm
 ·rw[Ai (Yq hm)]at q;unfold JD at q;rw[Ai htip]at q;rw[Yo hm];refine Bc ?_;exact⟨_,rfl,_,rfl,_,rfl,lw,_,_,_,rfl,rfl,SqL.of el,a0,_,rfl,lw,_,_,_,rfl,rfl,SqL.of el,a1,x,rs,v,W,w,i,p,hp,l,rfl,R.same s1,g,s1.rd rv,pt,fh,λlr us H2 s2 _ e2 r2=>q lr us H2 (s1.trans s2) e2 r2⟩
 rw[As hm]at q;obtain⟨t,hv,_⟩:=DL.got hm;rw[hv];refine AS ?_;exact⟨_,rfl,_,rfl,_,rfl,lw,_,_,_,rfl,rfl,SqL.of el,a0,_,rfl,lw,_,_,_,rfl,rfl,SqL.of el,a1,x,rs,v,W,w,i,p,hp,l,rfl,R.same s1,g,s1.rd rv,pt,hll,hm,λlr us H2 s2 e2 r2=>q lr us H2 (s1.trans s2) e2 r2⟩
end
end K22
namespace K22
open PySem L2 Tx Rk PyProof.Rows PySem.SeqAt
open PySem.PyData (strOk)
end K22
namespace K22
open PySem L2 Tx Rk PyProof.Rows PySem.SeqAt
open PySem.PyData (strOk)
section
variable {P:Program}{w:World}{K:W.Frag}{mg:Str->Option Value}{base:Heap}
structure Mc (mg:Str->Option Value):Prop where
 mw:∃t,mg "MOST_WORLDS" = some (.int 200 t)
 ms:∃t,mg "MOST_STEPS" = some (.int 40 t)
 mn:∃t,mg "MOST_SIGNS" = some (.int 30 t)
 mp:∃t,mg "MOST_PRICE" = some (.int 1000000000 t)
structure A2 {α:Type}(R:V->α->Prop)(vs:List V)(ts:List α):Prop where
 len:vs.length=ts.length
 got:∀(i:Nat) v t,vs[i]? = some v->ts[i]? = some t->R v t
def A2.mono {α:Type}{R S:V->α->Prop}{vs:List V}{ts:List α}(h:A2 R vs ts)(m:∀v t,v∈vs->R v t->S v t):A2 S vs ts:=⟨h.len,λi v t hv ht=>m v t (BE hv) (h.got i v t hv ht)⟩
def A2.at {α:Type}{R:V->α->Prop}{vs:List V}{ts:List α}(h:A2 R vs ts){i:Nat}{v:V}(hv:vs[i]? = some v):∃t,ts[i]? = some t/\t∈ts/\R v t:=by
 have hl:=(AK.mp hv).1;have hl2:i<ts.length:=by rw[<- h.len];exact hl
 exact⟨ts[i],Bi hl2,Dy hl2,h.got i v _ hv (Bi hl2)⟩
def A2.app {α:Type}{R:V->α->Prop}{vs vs':List V}{ts ts':List α}(h:A2 R vs ts)(h':A2 R vs' ts'):A2 R (vs++vs') (ts++ts'):=⟨by rw[AX,AX,h.len,h'.len],λi v t hv ht=>by
 by_cases hi:i<vs.length
 ·rw[EW hi]at hv;rw[EW (by rw[<- h.len];exact hi)]at ht;exact h.got i v t hv ht
 rw[Ga (by lia)]at hv;rw[Ga (by rw[<- h.len];lia),<- h.len]at ht;exact h'.got _ v t hv ht⟩
inductive MV (vs:List V)(H:Hp)(Q:VK)(E0_:XK):Prop
 | mk (x:Str) (c0:vs=[.str x]) (c1:1<=x.length) (c2:x.length<=30) (c3:Q .non H):MV  vs H Q E0_
inductive MU (vs:List V)(H:Hp)(Q:VK)(E0_:XK):Prop
 | mk (p:Int) (c0:vs=[.int p]) (c1:1<=p) (c2:p<=1000000000) (c3:Q .non H):MU  vs H Q E0_
abbrev Jc:List Str:=["many"]
abbrev XS:List Str:=Jc
def UB:AF XS Jc (Aq KP):=AN
abbrev Jb:List Str:=["name"]
abbrev XQ:List Str:=Jb
def UA:AF XQ Jb (Aq KO):=AN
abbrev Ja:List Str:=["price"]
abbrev XO:List Str:=Ja
def Uz:AF XO Ja (Aq KM):=AN
abbrev I0:List Str:=["deeds", "looks"]
abbrev XM:List Str:=BZ I0 ["steps", "names", "step"]
def scCheckSteps:AF XM I0 (Aq Ik):=AN
structure Sf (s:Str×Int):Prop where
 n1:1<=s.1.length
 n2:s.1.length<=30
 p1:1<=s.2
 p2:s.2<=1000000000
def WM (F:Fun K "check_name" "check_name" KO f fd)(T:Bl mg)(M:Mc mg):FnOk P w K mg base CX0 1 f fd Jb MV:=by obtain⟨t1,m1⟩:=M.mn;refine F.oq UA λcdv A outer s H vs Q E hr h=>?_;obtain⟨x,rfl,h1,h2,q⟩:=h;have aa:sizeLine=16777216:=AM;refine⟨_,(Am (AH (CG (Ni G1 G1 Ah (AE Bq (by rfl) T.len A0 (Aa (pv 0) Ab)) (A1 (v:=.int 30) (by rfl) m1 ⟨_,rfl⟩))) Bu AG)),?_⟩;refine⟨_,rfl,_,_,rfl,⟨by lia,rfl⟩,_,_,rfl,rfl,_,rfl,?_⟩;rw[AQ (show(1:Int)<=(x.length:Int) by lia)];refine AS ?_;refine⟨_,_,rfl,rfl,_,rfl,?_⟩;rw[AQ (show(x.length:Int)<=30 by lia)];exact Bc q
def WL (F:Fun K "check_price" "check_price" KM f fd)(M:Mc mg):FnOk P w K mg base CX0 1 f fd Ja MU:=by obtain⟨t1,m1⟩:=M.mp;refine F.oq Uz λcdv A outer s H vs Q E hr h=>?_;obtain⟨m,rfl,h1,h2,q⟩:=h;refine⟨_,(Am (AH (CG (Ni G1 G1 Ah (pv 0) (A1 (v:=.int 1000000000) (by rfl) m1 ⟨_,rfl⟩))) Bu AG)),?_⟩;refine⟨_,rfl,_,_,rfl,rfl,_,rfl,?_⟩;rw[AQ h1];refine AS ?_;refine⟨_,_,rfl,rfl,_,rfl,?_⟩;rw[AQ h2];exact Bc q
end
end K22
namespace K22
open PySem L2 Tx Rk PyProof.Rows PySem.SeqAt
open PySem.PyData (strOk)
end K22
namespace K22
open PySem L2 Tx Rk PyProof.Rows PySem.SeqAt
open PySem.PyData (strOk)
section
variable {P:Program}{w:World}{K:W.Frag}{mg:Str->Option Value}{base:Heap}
mutual
theorem P4 :∀{x:V}{d:PyData},RdV H x d->WK.okT d=true->RdD H x d
 | _,_,.non,_=>.non
 | _,_,.int i,ok=>nomatch ok
 | _,_,.str x,_=>.str x
 | _,_,.tup e rs,ok=>.tup e (P3 rs ok)
theorem P3 :∀{xs:List V}{ds:List PyData},RdVs H xs ds->WK.okTs ds=true->RdDs H xs ds
 | _,_,.nil,_=>.nil
 | _,_,.cons (d:=d) (ds:=ds) a b,ok=>by
  have ok':WK.okT d=true/\WK.okTs ds=true:=by simpa [WK.okTs] using ok
  exact .cons (P4 a ok'.1) (P3 b ok'.2)
end
mutual
theorem P2 :∀{x:V}{d:PyData},RdD H x d->RdV H x d
 | _,_,.non=>.non
 | _,_,.str x=>.str x
 | _,_,.tup e rs=>.tup e (P1 rs)
theorem P1 :∀{xs:List V}{ds:List PyData},RdDs H xs ds->RdVs H xs ds
 | _,_,.nil=>.nil
 | _,_,.cons a b=>.cons (P2 a) (P1 b)
end
theorem K6 {α:Type}{f:α->PyData}:∀{l:List α},(∀x∈l,WK.okT (f x)=true)->WK.okTs (l.map f)=true
 | [],_=>rfl
 | x::r,h=>by rw[Bj,WK.okTs,h x AZ,K6 λy hy=>h y (AR _ hy)];rfl
def WV (xs:List Str):WK.okT (dH xs)=true:=by unfold dH;rw[WK.okT];exact K6 λ_ _=>by rw[WK.okT]
def Qw (W:Wl):WK.okT (dW W)=true:=by
 have h1:WK.okT (dO W.hand)=true:=by cases W.hand <;> (unfold dO;rw[WK.okT])
 have h2:WK.okTs (W.heaps.map dH)=true:=K6 λx _=>WV x;have h3:WK.okTs (W.lids.map PyData.str)=true:=K6 λ_ _=>by rw[WK.okT]
 unfold dW;rw[WK.okT,WK.okTs,WK.okTs,WK.okTs,WK.okTs,h1,WK.okT,WK.okT,h2,h3];rfl
theorem NS {α:Type}{f:α->PyData}{n:Nat}:∀{l:List α},(∀x∈l,WK.dpD (f x)<=n)->WK.dpDs (l.map f)<=n
 | [],_=>by rw[map_nil,WK.dpDs];exact Be _
 | x::r,h=>by rw[Bj,WK.dpDs];exact Nat.max_le.mpr ⟨h x AZ,NS λy hy=>h y (AR _ hy)⟩
def Zv (W:Wl):WK.dpD (dW W)<=12:=by
 have hs:∀xs:List Str,WK.dpDs (xs.map PyData.str)<=0:=λxs=>NS λ_ _=>le_of_eq (show WK.dpD (.str _)=0 from rfl);have hh:∀xs:List Str,WK.dpD (dH xs)<=4:=λxs=>by unfold dH;rw[WK.dpD];have:=hs xs;lia
 have h2:WK.dpDs (W.heaps.map dH)<=4:=NS λx _=>hh x;have h3:=hs W.lids;have h1:WK.dpD (dO W.hand)=0:=by cases W.hand <;> rfl
 unfold dW;rw[WK.dpD,WK.dpDs,WK.dpDs,WK.dpDs,WK.dpDs,h1,WK.dpD,WK.dpD];lia
theorem NV {α:Type}{f:α->PyData}{n:Nat}:∀{l:List α},(∀x∈l,(f x).depth<=n)->PyData.depthAll (l.map f)<=n
 | [],_=>by rw[map_nil,PyData.depthAll];exact Be _
 | x::r,h=>by rw[Bj,PyData.depthAll];exact Nat.max_le.mpr ⟨h x AZ,NV λy hy=>h y (AR _ hy)⟩
def ZA (W:Wl):(dW W).depth<=8:=by
 have hs:∀xs:List Str,PyData.depthAll (xs.map PyData.str)<=1:=λxs=>NV λ_ _=>by simp[PyData.depth]
 have hh:∀xs:List Str,(dH xs).depth<=2:=λxs=>by unfold dH;rw[PyData.depth];have:=hs xs;lia
 have h2:PyData.depthAll (W.heaps.map dH)<=2:=NV λx _=>hh x;have h3:=hs W.lids;have h1:(dO W.hand).depth<=1:=by cases W.hand <;> simp[dO,PyData.depth]
 unfold dW;simp only[PyData.depth,PyData.depthAll];lia
def UY (h:RdV H v (dW W))(ok:Ok W):∃a,v=.ref a/\RdT H a (dW W):=by
 have r:=P4 h (Qw W);unfold dW at r;cases r with
 | @tup a xs ds e rs=>exact⟨a,rfl,⟨.tup e rs,Qw W,OM (Ua ok),Zv W,ZA W⟩⟩
def ZJ (h:dW W=dW Z):W=Z:=by
 have hs:∀{a b:List Str},a.map PyData.str=b.map PyData.str->a=b:=λ{a b} e=>List.map_inj_right (λx y z=>by injection z) |>.mp e
 obtain⟨h1,hp1,l1⟩:=W;obtain⟨h2,hp2,l2⟩:=Z;unfold dW at h;injection h with h;injection h with a b;injection b with b c;injection c with c _;injection b with b;injection c with c;have e1:h1=h2:=by cases h1 <;> cases h2 <;> first | rfl | (simp only[dO]at a;first | (injection a with a;rw[a]) | cases a)
 have e2:hp1=hp2:=List.map_inj_right (λx y z=>by unfold dH at z;injection z with z;exact hs z) |>.mp b
 have e3:l1=l2:=hs c;rw[e1,e2,e3]
def CA:Nat->List Wl->List (PyData×V)
 | _,[]=>[]
 | n,W::r=>(dW W,.int (n:Int))::CA (n+1) r
theorem G2:∀(n:Nat) (L:List Wl),(CA n L).length=L.length
 | _,[]=>rfl
 | n,W::r=>BB (· + 1) (G2 (n+1) r)
theorem Qy:∀(n:Nat) (L:List Wl) (W:Wl),CA n (L++[W])=CA n L++[(dW W,.int ((n+L.length:Nat):Int))]
 | n,[],W=>rfl
 | n,Z::r,W=>by show(dW Z,V.int (n:Int))::CA (n+1) (r++[W])=(dW Z,V.int (n:Int))::(CA (n+1) r++_);rw[Qy (n+1) r W,show n+1+r.length=n+(Z::r).length by rw[Cp];lia]
theorem Nw:∀{n:Nat}{L:List Wl}{i:Nat}{W:Wl},L[i]? = some W->(CA n L)[i]? = some (dW W,.int ((n+i:Nat):Int))
 | n,Z::r,0,W,h=>by cases h;rfl
 | n,Z::r,i+1,W,h=>by have:=Nw (n:=n+1) (L:=r) (i:=i) (W:=W) h;rw[show n+1+i=n+(i+1) by lia]at this;exact this
 | _,[],_,_,h=>by cases h
theorem Qx:∀{n:Nat}{L:List Wl}{W:Wl},W∉L->Aw (CA n L) (dW W)=none
 | _,[],_,_=>rfl
 | n,Z::r,W,h=>by have ne:¬dW Z=dW W:=λe=>h (by rw[ZJ e];exact AZ);unfold Aw CA;rw[Ge,A8 ne];exact Qx (n:=n+1) λz=>h (AR _ z)
def BA:List Wl->List Wl->List Wl
 | L,[]=>L
 | L,W::r=>BA (if W∈L then L else L++[W]) r
theorem R1:∀(L A B:List Wl),BA L (A++B)=BA (BA L A) B
 | _,[],_=>rfl
 | L,W::r,B=>R1 (if W∈L then L else L++[W]) r B
theorem RY:∀(L A:List Wl),∃t,BA L A=L++t
 | L,[]=>⟨[],(CP _).symm⟩
 | L,W::r=>by
  obtain⟨t,e⟩:=RY (if W∈L then L else L++[W]) r;show ∃t,BA (if W∈L then L else L++[W]) r=L++t;rw[e];split
  ·exact⟨t,rfl⟩
  exact⟨W::t,by rw[DZ];rfl⟩
theorem Oe:∀{L A:List Wl},L.Nodup->(BA L A).Nodup
 | _,[],h=>h
 | L,W::r,h=>by
  show(BA (if W∈L then L else L++[W]) r).Nodup;refine Oe ?_;split
  ·exact h
  rename_i n;exact Eu.mpr ⟨h,by simp,λa ha b hb e=>n (by rw[AW.mp hb]at e;rw[<- e];exact ha)⟩
theorem addN_mem:∀{L A:List Wl}{Z:Wl},Z∈BA L A↔Z∈L\/Z∈A
 | _,[],_=>by simp[BA]
 | L,W::r,Z=>by
  show Z∈BA (if W∈L then L else L++[W]) r↔_;rw[addN_mem];split
  ·rename_i h;constructor
   ·rintro(z | z)
    ·exact .inl z
    exact .inr (AR _ z)
   rintro(z | z)
   ·exact .inl z
   rcases(AD.mp z)with z | z
   ·exact .inl (by rw[z];exact h)
   exact .inr z
  simp only[Cc,AD,B6,B4];constructor
  ·rintro((z | z) | z)
   ·exact .inl z
   ·exact .inr (.inl z)
   exact .inr (.inr z)
  rintro(z | z | z)
  ·exact .inl (.inl z)
  ·exact .inl (.inr z)
  exact .inr z
abbrev Jd:List Str:=["numbers", "worlds"]
abbrev X0:List Str:=BZ Jd ["world"]
def scAddNew:AF X0 Jd (Aq KS):=AN
structure C8 where
 line:Str
 w:Str
 i:Nat
 j:Nat
 p:BC
 pj:BC
structure Gr (rs:List Ro)(D:C8):Prop where
 wd:Wd D.line (HN D.w D.p.1 D.pj.1)
 len:D.line.length<=1000
 pi:(plc rs)[D.i]? = some D.p
 pq:(plc rs)[D.j]? = some D.pj
 tip:D.w = "tip" -> D.i≠D.j
 nine:D.w∈Jg
def C3 (D:C8)(W:Wl):List Wl:=G3 D.w D.p W D.i (W.heaps.getD D.i []) (W.lids.getD D.i Str.empty) D.j (W.heaps.getD D.j []) (W.lids.getD D.j Str.empty)
abbrev Dn (rs:List Ro)(W:Wl):Prop:=Fw rs W/\Sz W (plc rs).length
def Ip (g:Good rs)(r:Dn rs W)(h:(plc rs)[i]? = some p):Pt rs W i p (W.heaps.getD i []) (W.lids.getD i Str.empty):=by
 obtain⟨p',hp,l,pt⟩:=Pt.of g r.1 r.2 (AK.mp h).1;have e1:=pt.pl;rw[h]at e1;cases e1;have e2:W.heaps.getD i []=hp:=by rw[F8,pt.he];rfl
 have e3:W.lids.getD i Str.empty=l:=by rw[F8,pt.li];rfl
 rw[e2,e3];exact pt
def O9 (g:Good rs)(r:Dn rs W)(ok:Gr rs D):∀Z∈C3 D W,Dn rs Z:=W3 r.1 r.2 (Ip g r ok.pi) (Ip g r ok.pq) ok.tip ok.nine
structure NA (rs:List Ro)(Ws:List Wl)(Ds:List C8)(n:Nat)(L:List Wl):Prop where
 nd:L.Nodup
 rw':∀W∈L,Dn rs W
 pre:∃t,L=BA [] Ws++t
 rch:∀(k:Nat) W,L[k]? = some W->(BA [] Ws).length<=k->∃(j:Nat) (Z:Wl) (D:C8),j<n/\j<k/\L[j]? = some Z/\D∈Ds/\W∈C3 D Z
 clo:∀(i:Nat) Z,i<n->L[i]? = some Z->∀D∈Ds,∀W∈C3 D Z,W∈L
structure NI (rs:List Ro)(Ds:List C8)(L:List Wl)(Z:Wl)(k:Nat)(M:List Wl):Prop where
 nd:M.Nodup
 rw':∀W∈M,Dn rs W
 pre:∃t,M=L++t
 mem:∀W∈M,W∈L\/∃D∈Ds,W∈C3 D Z
 clo:∀D∈Ds.take k,∀W∈C3 D Z,W∈M
def NA.start (h:∀W∈Ws,Dn rs W):NA rs Ws Ds 0 (BA [] Ws):=by
 refine⟨Oe nodup_nil,λW hW=>?_,⟨[],(CP _).symm⟩,λk W hk hl=>?_,λi Z hi=>absurd hi (Nat.not_lt_zero _)⟩
 ·rcases addN_mem.mp hW with z | z
  ·cases z
  exact h W z
 have:=(AK.mp hk).1;lia
def NI.start (Z:Wl)(h:NA rs Ws Ds n L):NI rs Ds L Z 0 L:=⟨h.nd,h.rw',⟨[],(CP _).symm⟩,λW hW=>.inl hW,λD hD=>by rw[take_zero]at hD;cases hD⟩
def NI.next {k:Nat} (g:Good rs)(rz:Dn rs Z)(h:NI rs Ds L Z k M)(hk:Ds[k]? = some D)(ok:Gr rs D):NI rs Ds L Z (k+1) (BA M (C3 D Z)):=by
 have hD:=BE hk;obtain⟨hi,ek⟩:=AK.mp hk;refine⟨Oe h.nd,λW hW=>?_,?_,λW hW=>?_,λD' hD' W hW=>?_⟩
 ·rcases addN_mem.mp hW with z | z
  ·exact h.rw' W z
  exact O9 g rz ok W z
 ·obtain⟨t,e⟩:=h.pre;obtain⟨t',e'⟩:=RY M (C3 D Z);exact⟨t++t',by rw[e',e,DZ]⟩
 ·rcases addN_mem.mp hW with z | z
  ·exact h.mem W z
  exact .inr ⟨D,hD,z⟩
 rw[CD hi,ek]at hD';rcases Cc.mp hD' with z | z
 ·exact addN_mem.mpr (.inl (h.clo D' z W hW))
 rw[AW.mp z]at hW;exact addN_mem.mpr (.inr hW)
def NA.next (h:NA rs Ws Ds n L)(hz:L[n]? = some Z)(i:NI rs Ds L Z Ds.length M):NA rs Ws Ds (n+1) M:=by
 obtain⟨t,rfl⟩:=i.pre;have hn:=(AK.mp hz).1;have pm:∀{k:Nat}{W:Wl},L[k]? = some W->(L++t)[k]? = some W:=λ{k W} e=>by rw[EW (AK.mp e).1];exact e
 refine⟨i.nd,i.rw',?_,λk W hk hl=>?_,λk W hk hW D hD V hV=>?_⟩
 ·obtain⟨t',e⟩:=h.pre;exact⟨t'++t,by rw[e,DZ]⟩
 ·by_cases hkl:k<L.length
  ·rw[EW hkl]at hk;obtain⟨j,Z',D,h1,h2,h3,h4,h5⟩:=h.rch k W hk hl;exact⟨j,Z',D,by lia,h2,pm h3,h4,h5⟩
  rcases i.mem W (BE hk)with z | ⟨D,hD,z⟩
  ·exfalso;rw[Ga (by lia)]at hk;exact(Eu.mp i.nd).2.2 W z W (BE hk) rfl
  exact⟨n,Z,D,by lia,by lia,pm hz,hD,z⟩
 by_cases hkn:k<n
 ·rw[EW (by lia)]at hW;exact F4 _ (h.clo k W hkn hW D hD V hV)
 obtain rfl:k=n:=by lia
 rw[pm hz]at hW;cases hW;exact i.clo D (by rw[Dx];exact hD) V hV
abbrev IL:List Str:=["room", "worlds", "lines"]
abbrev Xm:List Str:=BZ IL ["numbers", "done", "world", "line"]
def scNumberAll:AF Xm IL (Aq Ks):=AN
def TX (h2:2<=hp.length)(nd:hp.Nodup):FA hp≠hp:=λe=>by
 unfold FA at e;have e':hp.take (hp.length-2)++(hp.drop (hp.length-2)).reverse=hp.take (hp.length-2)++hp.drop (hp.length-2):=by rw[C0];exact e
 have e2:=List.append_cancel_left e';have nd2:(hp.drop (hp.length-2)).Nodup:=nd.sublist (List.drop_sublist _ _);have l2:(hp.drop (hp.length-2)).length=2:=by rw[DY];lia
 generalize hp.drop (hp.length-2)=t at e2 nd2 l2;match t,l2 with
 | [x,y],_=>have e3:[y,x]=[x,y]:=e2;injection e3 with a _;exact(BU.mp nd2).1 (by rw[a];exact AZ)
def Y0 {rs:List Ro}{W:Wl}{i:Nat}{hp:List Str}(g:Good rs)(fw:Fw rs W)(h:W.heaps[i]? = some hp):hp.Nodup:=by have n1:((ths rs).map (·.1)).Nodup:=g.ndT;have n2:=(fw.perm.nodup_iff.mpr n1);have n3:=(Eu.mp n2).2.1;exact(List.pairwise_flatten.mp n3).1 hp (BE h)
def SW (g:Good rs)(r:Dn rs W)(ok:Gr rs D):(C3 D W).Nodup/\(C3 D W).length<=2:=by
 have pt:=Ip g r ok.pi;have hih:=(AK.mp pt.he).1;unfold C3;generalize W.heaps.getD D.i []=hp at pt;generalize W.lids.getD D.i Str.empty=l at pt
 have one:∀(c:Prop) [Decidable c] (Z:Wl),(if c then [Z]else []).Nodup/\(if c then [Z]else []).length<=2:=λc _ Z=>by
  split
  ·exact⟨by simp,by simp⟩
  exact⟨by simp,by simp⟩
 unfold G3;split
 ·exact one _ _
 unfold JD;split
 ·exact one _ _
 unfold Jh;split
 ·unfold Ed;split <;> exact⟨by simp,by simp⟩
 split
 ·unfold putF;split
  ·exact one _ _
  exact⟨by simp,by simp⟩
 split
 ·unfold ED;split
  ·rename_i t ht;split
   ·unfold CF;split
    ·exact⟨by simp,by simp⟩
    rename_i h0;refine⟨?_,by simp⟩;refine BU.mpr ⟨λh=>?_,by simp⟩;have e:=AW.mp h;unfold FY at e;injection e with _ e _;have e1:=BB (λz:List (List Str)=>z[D.i]?) e;simp only[Gb hih,F7 (Dm h0)]at e1;rw[pt.he]at e1;have e2:=BB List.length (Bx e1);rw[F8,pt.he,AX]at e2;simp at e2
   exact⟨by simp,by simp⟩
  exact⟨by simp,by simp⟩
 unfold Ef;split
 ·rename_i hc;refine⟨BU.mpr ⟨λh=>?_,by simp⟩,by simp⟩;have e:=BB Wl.heaps (AW.mp h);have e1:=BB (λz:List (List Str)=>z[D.i]?) e;simp only[Gb hih]at e1;rw[pt.he]at e1;exact TX hc.2.2 (Y0 g r.1 pt.he) (Bx e1).symm
 exact⟨by simp,by simp⟩
structure Xk (K:W.Frag)(mg:Str->Option Value)(G NN:Addr)(n:Str):Prop where
 mN:mg n=some (.ref NN)
 oN:PySem.W.excIn K NN BK "ValueError.__new__" = true
 sub:mroIn K NN G=true
abbrev C7 (H:Hp)(E:XK)(NN:Addr):Prop:=∀(b:Addr) (H':Hp),Same H H'->H' b=none->E (.ref b) (some NN) H'
abbrev Sm (x:Str):Prop:=∀c∈cs x,c<1000
def Sm.app (h1:Sm x)(h2:Sm y):Sm (x++y):=λc hc=>by
 rw[Bk]at hc;rcases(Cc.mp hc)with z | z
 ·exact h1 c z
 exact h2 c z
def Sm.rp (h:Sm x)(l:x.length<=300):Rp x:=by
 have h1:=StrLaws.reprText_len x λc hc=>by have:=h c hc;lia
 unfold Rp;lia
def Sm.ok (h:Sm x):strOk x=true:=Qv λc hc=>by have:=h c hc;lia
structure Lg (W:Str):Prop where
 ex:∃n:Nat,9<=n/\n<=28/\cs W=replicate n 119
def Lg.len (h:Lg W):9<=W.length/\W.length<=28:=by obtain⟨n,h1,h2,e⟩:=h.ex;rw[<- BG,e,Ex];exact⟨h1,h2⟩
def Lg.no (h:Lg W) (hc:c≠119):c∉cs W:=by obtain⟨n,_,_,e⟩:=h.ex;rw[e];exact λz=>hc (OL z)
def Lg.sm (h:Lg W):Sm W:=λc hc=>by obtain⟨n,_,_,e⟩:=h.ex;rw[e]at hc;rw[OL hc];decide
def Lg.rp (h:Lg W):Rp W:=h.sm.rp (by have:=h.len;lia)
def Lg.one (h:Lg W):Txt.split W Bt=[W]:=by exact J9 (ws:=[W]) (by simp) λw hw=>by rw[AW.mp hw];exact h.no (by decide)
def Po (NN:Addr):Sp:=λvs H Q E=>vs=[.int 0]/\C7 H E NN
inductive MM (NN:Addr)(vs:List V)(H:Hp)(Q:VK)(E:XK):Prop
 | mk (u a b:V) (c0:vs=[u,.int 0,a,b]) (c1:C7 H E NN):MM NN vs H Q E
inductive HW (C NN:Addr)(vs:List V)(H:Hp)(Q:VK)(E:XK):Prop
 | mk (x:Addr) (rs:List Ro) (W:Str) (c0:vs=[.ref x,.str W]) (c1:RoomAt C H x rs) (c2:Good rs) (c3:Lg W) (c4:C7 H E NN):HW C NN vs H Q E
inductive HU (NN:Addr)(vs:List V)(H:Hp)(Q:VK)(E:XK):Prop
 | mk (u:V) (W:Str) (c0:vs=[u,.str W]) (c1:Lg W) (c2:C7 H E NN):HU NN vs H Q E
inductive HS (NN:Addr)(vs:List V)(H:Hp)(Q:VK)(E:XK):Prop
 | mk (u v:V) (W:Str) (c0:vs=[u,.str W,v]) (c1:Lg W) (c2:C7 H E NN):HS NN vs H Q E
abbrev GV:List Str:=["self", "many", "deeds", "looks"]
abbrev XU:List Str:=GV
def UC:AF XU GV (Aq M8):=AN
abbrev FR:List Str:=["room", "line"]
abbrev Xg:List Str:=BZ FR ["words"]
def scReadLook:AF Xg FR (Aq GB):=AN
abbrev IQ:List Str:=["room", "line", "world"]
abbrev Xq:List Str:=BZ IQ ["words"]
def scLooked:AF Xq IQ (Aq Kv):=AN
abbrev IJ:List Str:=["room", "text"]
abbrev Xj:List Str:=BZ IJ ["world"]
def scRead:AF Xj IJ (Aq Kq):=AN
abbrev IW:List Str:=["room", "text"]
abbrev XI:List Str:=BZ IW ["parts", "words", "held", "hand", "heaps", "lids"]
def scGuess:AF XI IW (Aq Ij):=AN
def We (F:Fun K "check_many" "check_many" KP f fd)(XC:Xk K mg G NN "NoChart")(M:Mc mg):FnOk P w K mg base (CXe P w) 1 f fd Jc (Po NN):=by obtain⟨t1,m1⟩:=M.mw;refine F.oqE UB λcdv A outer s H vs Q E hr h=>?_;obtain⟨rfl,q⟩:=h;refine⟨_,(Am (AH (CG (Ni G1 G1 Ah (pv 0) (A1 (v:=.int 200) (by rfl) m1 ⟨_,rfl⟩))) (Am (Fe XC.oN (by rfl) XC.mN (Aa (Ql (Qb (Vi (pv 0) Qd))) Ab))) AG)),?_⟩;refine⟨_,rfl,_,_,rfl,rfl,_,rfl,?_⟩;refine⟨_,rfl,?_⟩;refine AS ?_;exact⟨by decide +kernel,_,rfl,_,rfl,by decide +kernel,by decide +kernel,by show 1<=1000;decide,λb hb=>q b H (Same.refl _) hb⟩
def Wy (F:Fun K "__init__" "Chart.__init__" M8 f fd)(C_check_many:Ca P w K mg base (CXe P w) 1 "check_many" KP Jc (Po NN)):FnOk P w K mg base (CXe P w) 2 f fd GV (MM NN):=by refine F.oqE UC λcdv A outer s H vs Q E hr1 h=>?_;obtain⟨u,a,b,rfl,q⟩:=h;refine⟨_,(Af (Cs (AY C_check_many hr1 Cg (Aa (pv 1) Ab))) Bu),?_⟩;exact⟨_,rfl,rfl,q⟩
def V1 (F:Fun K "read_deed" "read_deed" E6 f fd)(T:Bl mg)(DD:Dd P w K mg aP)(XD:Xk K mg G NN "NoDeed"):FnOk P w K mg base (CXe P w) 1 f fd Ff (HU NN):=by
 refine F.oqE scReadDeed λcdv A outer s H vs Q E hr1 h=>?_;obtain⟨u,W,rfl,lg,q⟩:=h;have aa:sizeLine=16777216:=AM;have hl:=lg.len;refine⟨_,(Af (Ay (i:=2) scReadDeed.nd (B2 DA C6 Ec DQ (pv 1) (Aa Av Ab))) (Af (Ay (i:=3) scReadDeed.nd (DH FE (pv 2) (DF Ah) DG)) (Af (AH (AI GZ (Qj (A1 (v:=.ref aP) (by rfl) DD.pm rfl) (Az Bb (pv 2) Ah (λ_ _=>rfl)) ⟨by rfl,by rfl,by rfl,by rfl⟩) (AE Bq (by rfl) T.len A0 (Aa (pv 3) Ab)) (AJ _)) (Am (Fe XD.oN (by rfl) XD.mN (Aa (Iy (pv 1) (by decide +kernel)) Ab))) AG) Bu))),?_⟩;refine⟨_,rfl,rfl,_,_,rfl,rfl,by rfl,by lia,λl hl'=>?_⟩;refine Jj [W] _ (by rw[show Txt.split W (Str.ofString " ")=[W] from lg.one]) hl' λH1 s1 el=>?_;refine⟨_,rfl,_,rfl,l,_,rfl,SqL.of el,λlp hlp=>?_⟩;have elp:(Ac H1 lp (.lst (A5 (([W]:List Str).map V.str) (some 1) none))) lp=some (.lst []):=Ak;have s2:Same H1 (Ac H1 lp (.lst (A5 (([W]:List Str).map V.str) (some 1) none))):=Same.new hlp;generalize (Ac H1 lp (.lst (A5 (([W]:List Str).map V.str) (some 1) none)))=H2 at elp s2 ⊢;have a0:AB (([W]:List Str).map V.str) ((0:Nat):Int)=some (.str W):=AO rfl;refine⟨aP,_,rfl,DD.pd,_,rfl,l,_,_,_,rfl,rfl,SqL.of (s2 _ _ el),a0,(Sum.inr W:Ag),rfl,_,rfl,_,_,rfl,.inl ⟨_,SqL.of elp,rfl⟩,?_,_,rfl,?_⟩
 ·show Ki (BP W) _=true;rcases Nk W with e | e | e <;> (rw[e];rfl)
 have hn:¬BP W=V.int ((([]:List V).length:Nat):Int):=by rcases Nk W with e | e | e <;> (rw[e];intro z;cases z)
 show if (!decide (BP W=V.int ((([]:List V).length:Nat):Int)))=true then _ else _
 rw[A8 hn];refine AS ?_;exact⟨_,rfl,W,rfl,lg.rp,by show 1<=1000;decide,λb hb=>q b H2 (s1.trans s2) hb⟩
def VG (F:Fun K "turns" "turns" GA f fd)(C_read_deed:Ca P w K mg base (CXe P w) 1 "read_deed" E6 Ff (HU NN)):FnOk P w K mg base (CXe P w) 2 f fd FQ (HS NN):=by refine F.oqE scTurns λcdv A outer s H vs Q E hr1 h=>?_;obtain⟨u,v,W,rfl,lg,q⟩:=h;refine⟨_,(Af (Ay (i:=3) scTurns.nd (AY C_read_deed hr1 Cg (Aa (pv 0) (Aa (pv 1) Ab)))) Bu),?_⟩;exact⟨_,rfl,_,rfl,u,W,rfl,lg,q⟩
def VY (F:Fun K "read_look" "read_look" GB f fd)(T:Bl mg)(XL:Xk K mg G NN "NoLook"):FnOk P w K mg base (CXe P w) 1 f fd FR (HU NN):=by refine F.oqE scReadLook λcdv A outer s H vs Q E hr1 h=>?_;obtain⟨u,W,rfl,lg,q⟩:=h;have aa:sizeLine=16777216:=AM;have hl:=lg.len;refine⟨_,(Af (Ay (i:=2) scReadLook.nd (B2 DA C6 Ec DQ (pv 1) (Aa Av Ab))) (Af (AH (PW.pt (Cy (AI GZ (AE Bq (by rfl) T.len A0 (Aa (pv 2) Ab)) Ah (AJ _)) (DE (CG (Cr Vq))))) (Am (Fe XL.oN (by rfl) XL.mN (Aa (Iy (pv 1) (by decide +kernel)) Ab))) AG) Bu)),?_⟩;refine⟨_,rfl,rfl,_,_,rfl,rfl,by rfl,by lia,λl hl'=>?_⟩;refine Jj [W] _ (by rw[show Txt.split W (Str.ofString " ")=[W] from lg.one]) hl' λH1 s1 el=>?_;refine⟨_,rfl,_,_,rfl,.inl ⟨_,SqL.of el,rfl⟩,rfl,_,rfl,?_⟩;refine AS (AS ?_);exact⟨_,rfl,W,rfl,lg.rp,by show 1<=1000;decide,λb hb=>q b H1 s1 hb⟩
def Wf (F:Fun K "looked" "looked" Kv f fd)(C_read_look:Ca P w K mg base (CXe P w) 1 "read_look" GB FR (HU NN)):FnOk P w K mg base (CXe P w) 2 f fd IQ (HS NN):=by refine F.oqE scLooked λcdv A outer s H vs Q E hr1 h=>?_;obtain⟨u,v,W,rfl,lg,q⟩:=h;refine⟨_,(Af (Ay (i:=3) scLooked.nd (AY C_read_look hr1 Cg (Aa (pv 0) (Aa (pv 1) Ab)))) Bu),?_⟩;exact⟨_,rfl,_,rfl,u,W,rfl,lg,q⟩
inductive HV (C:Addr)(vs:List V)(H:Hp)(Q:VK)(E0_:XK):Prop
 | mk (x:Addr) (rs:List Ro) (c0:vs=[.ref x]) (c1:RoomAt C H x rs) (c2:∀(l:Addr) (H':Hp),Same H H'->H l=none->H' l=some (.lst (((ths rs).map (·.1)).map V.str))->Q (.ref l) H'):HV C vs H Q E0_
def Ui:AF ["self"] ["self"] (Aq M4):=AN
open StrLaws in
def T2 (hy:1<=y.length)(h:∀k,¬At x y x.length k):Txt.split x y=[x]:=by
 obtain⟨f,hG,_⟩:=occ_tight x y hy;unfold Txt.split;split
 ·rfl
 split
 ·rfl
 rename_i he;cases ho:Builtin.Str.occurrences x y 0 x.length (x.length+1)with
 | nil=>exact absurd (by rw[ho];rfl) he
 | cons d r=>rw[ho]at hG;exact absurd hG.2.1 (h d)
def Rv (hp:32∉p)(e:p++32::q=p'++32::q'):(p'=p/\q'=q)\/∃p'',p'=p++32::p''/\q=p''++32::q':=by
 rcases List.append_eq_append_iff.mp e with⟨a,h1,h2⟩ | ⟨a,h1,h2⟩
 ·cases a with
  | nil=>rw[CP]at h1;exact .inl ⟨h1,(Hz h2).2.symm⟩
  | cons c a=>obtain⟨rfl,h3⟩:=Hz h2;exact .inr ⟨a,h1,h3⟩
 cases a with
 | nil=>rw[CP]at h1;exact .inl ⟨h1.symm,(Hz h2).2⟩
 | cons c a=>obtain⟨rfl,h3⟩:=Hz h2;exact absurd (by rw[h1];simp) hp
theorem Sl:∀{ws:List (List Nat)}{A B w:List Nat},(∀v∈ws,32∉v)->32∉w->J ws=A++32::(w++32::B)->w∈ws
 | [],A,B,w,_,_,e=>by exfalso;have:(J ([]:List (List Nat))).length=0:=rfl;rw[e]at this;simp at this
 | [a],A,B,w,h,_,e=>by have e':a=A++32::(w++32::B):=e;exact absurd (by rw[e'];simp) (h a (AZ ..))
 | a::b::r,A,B,w,h,hw,e=>by
  have e':a++32::J (b::r)=A++32::(w++32::B):=e;rcases Rv (h a (AZ ..)) e' with⟨_,h2⟩ | ⟨A',_,h2⟩
  ·refine AR _ ?_;cases r with
   | nil=>have h3:w++32::B=b:=h2;exact absurd (by rw[<- h3];simp) (h b (by simp))
   | cons c r=>
    have h3:w++32::B=b++32::J (c::r):=h2;rcases Rv hw h3 with⟨h4,_⟩ | ⟨p,h4,_⟩
    ·rw[h4];exact AZ ..
    exact absurd (by rw[h4];simp) (h b (by simp))
  exact AR _ (Sl (λv hv=>h v (AR _ hv)) hw h2)
open StrLaws in
def TZ {ws:List Str}{w y:Str}(hb:∀v∈ws,32∉cs v)(hw:32∉cs w)(hy:cs y=32::(cs w++[32]))(hn:w∉ws):Txt.split (Txt.join Bt ws) y=[Txt.join Bt ws]:=by
 have hl:y.length=(cs y).length:=(BG y).symm;refine T2 (by rw[hl,hy];simp) λk hA=>?_;have h2:=hA.2;rw[subAt_eq]at h2;have h3:((cs (Txt.join Bt ws)).drop k).take y.length=cs y:=Ht h2;have hx:cs (Txt.join Bt ws)=J (ws.map cs):=by rw[<- Lf];exact BB cs (OD Bt ws)
 have e:J (ws.map cs)=(cs (Txt.join Bt ws)).take k++32::(cs w++32::((cs (Txt.join Bt ws)).drop k).drop y.length):=by
  rw[<- hx];conv=>lhs;rw[<- C0 k (cs (Txt.join Bt ws)),<- C0 y.length ((cs (Txt.join Bt ws)).drop k),h3,hy]
  simp
 have hm:=Sl (ws:=ws.map cs) (λv hv=>by obtain⟨u,hu,rfl⟩:=B0.mp hv;exact hb u hu) hw e;obtain⟨u,hu,e2⟩:=B0.mp hm;exact hn (by rw[<- Lh e2];exact hu)
def lidsS:List Str:=["open", "shut", "locked"]
structure Ml (K:W.Frag)(mg:Str->Option Value)(aI:Addr):Prop where
 wm:mg "LIDS_facts" = some (.ref aI)
 wv:∀H:Hp,SqT K H aI (lidsS.map V.str)
abbrev tn (rs:List Ro):List Str:=(ths rs).map (·.1)
abbrev pn (rs:List Ro):List Str:=(plc rs).map (·.1)
def HZ (rs:List Ro)(a b:Str):Bool:=if b∈(["top", "held"]:List Str)then decide (a∈tn rs)else(decide (b∈lidsS) || decide (b = "bare")) && decide (a∈pn rs)
def J8 (rs:List Ro)(b c:Str):Bool:=if b = "in" then decide (c∈pn rs)else decide (b = "on") && decide (c∈tn rs)
def Ll (rs:List Ro)(ws:List Str):Bool:=
 if ws=(["free"]:List Str)then true else match ws with
  | [a,b]=>HZ rs a b
  | [a,b,c]=>decide (a∈tn rs) && J8 rs b c
  | _=>false
inductive Mo (C:Addr)(vs:List V)(H:Hp)(Q:VK)(E0_:XK):Prop
 | mk (x:Addr) (rs:List Ro) (a b:Str) (c0:vs=[.ref x,.str a,.str b]) (c1:RoomAt C H x rs) (c2:∀H':Hp,Same H H'->Q (.bl (HZ rs a b)) H'):Mo C vs H Q E0_
abbrev GU:List Str:=["room", "name", "word"]
abbrev Xy:List Str:=GU
def Ut:AF Xy GU (Aq KE):=AN
inductive Mn (C:Addr)(vs:List V)(H:Hp)(Q:VK)(E0_:XK):Prop
 | mk (x:Addr) (rs:List Ro) (b c:Str) (c0:vs=[.ref x,.str b,.str c]) (c1:RoomAt C H x rs) (c2:∀H':Hp,Same H H'->Q (.bl (J8 rs b c)) H'):Mn C vs H Q E0_
abbrev GS:List Str:=["room", "word", "name"]
abbrev Xx:List Str:=GS
def Us:AF Xx GS (Aq KC):=AN
theorem Q7:∀xs ys:List Str,PyData.eqvAll (xs.map PyData.str) (ys.map PyData.str)=decide (xs=ys)
 | [],[]=>by(simp[PyData.eqvAll])
 | [],_::_=>by(simp[PyData.eqvAll])
 | _::_,[]=>by(simp[PyData.eqvAll])
 | x::xs,y::ys=>by rw[Bj,Bj,PyData.eqvAll,Zm,Q7 xs ys,<- Bool.decide_and];simp
def Zn (xs ys:List Str):PyData.eqv (.list (xs.map PyData.str)) (.list (ys.map PyData.str))=decide (xs=ys):=by rw[PyData.eqv,Q7]
def aB (ws:List Str):Prop:=∀w∈ws,strOk w=true
inductive MY (C:Addr)(vs:List V)(H:Hp)(Q:VK)(E0_:XK):Prop
 | mk (x l:Addr) (rs:List Ro) (ws:List Str) (c0:vs=[.ref x,.ref l]) (c1:RoomAt C H x rs) (c2:H l=some (.lst (ws.map V.str))) (c3:aB ws) (c4:∀H':Hp,Same H H'->Q (.bl (Ll rs ws)) H'):MY C vs H Q E0_
abbrev IT:List Str:=["room", "words"]
abbrev XB:List Str:=IT
def Uw:AF XB IT (Aq KG):=AN
abbrev IG:List Str:=["room", "text"]
abbrev Xe:List Str:=BZ IG ["words", "wanted", "atom"]
def scReadTerm:AF Xe IG (Aq Ko):=AN
abbrev IH:List Str:=["room", "text"]
abbrev Xf:List Str:=IH
def Uj:AF Xf IH (Aq Ib):=AN
abbrev II:List Str:=["room", "text"]
abbrev Xh:List Str:=II
def Uk:AF Xh II (Aq Ic):=AN
def VL (F:Fun K "things" "Room.things" M4 f fd)(L:Cl K C)(T:Bl mg):FnOk P w K mg base CX0 1 f fd ["self"] (HV C):=by refine F.oq Ui λcdv A outer s H vs Q E hr h=>?_;obtain⟨x,rs,rfl,R,q⟩:=h;obtain⟨dx,d1,d2,o,kvs,h1,h2,h3,h4⟩:=R.ex;refine⟨_,Am (AC (Dq (RJ rfl) (by rfl) T.list Hj (Aa (Iz (pv 0) rfl) Ab))),?_⟩;refine⟨_,rfl,x,C,dx,_,_,rfl,h1,L.cl,L.nS,UM d1 d2,d2,_,rfl,.inl h4,λl hl=>?_⟩;refine q l _ (Same.new hl) hl ?_;rw[Ak];unfold CU;(rw[Dk,Dk]);rfl
def VQ (F:Fun K "is_short_atom" "is_short_atom" KE f fd)(L:Cl K C)(MI:Ml K mg aI)(b_places:Binds K d_places ["self"] [])(m_places:B7 K C "places" f_places)(G_places:FnOk P w K mg base CX0 1 f_places d_places ["self"] (Ee C))
  (b_things:Binds K d_things ["self"] [])(m_things:B7 K C "things" f_things)(G_things:FnOk P w K mg base CX0 1 f_things d_things ["self"] (HV C)):FnOk P w K mg base CX0 2 f fd GU (Mo C):=by
 refine F.oq Ut λcdv A outer s H vs Q E hr1 h=>?_
 obtain⟨x,rs,a,b,rfl,R,q⟩:=h
 obtain⟨dx,d1,d2,o,kvs,h1,h2,h3,h4⟩:=R.ex
 refine⟨_,(Af (AH (AI Du (pv 2) (BR (Aa Av (Aa Av Ab))) (by rfl)) (Am (AC (CV Du (pv 1) (DJ (pv 0) L.cl m_things G_things hr1 b_things .nil Au) (by rfl)))) AG) (Am (AC (IB (Vp (CV Du (pv 2) (A1 (v:=.ref aI) (by rfl) MI.wm rfl) (by rfl)) (GH (CV A9 (pv 2) Av (AJ _)))) (GH (CV Du (pv 1) (DJ (pv 0) L.cl m_places G_places hr1 b_places .nil Au) (by rfl))))))),?_⟩
 refine⟨_,rfl,by decide,λtp htp=>?_⟩
 have s0:Same H (Ac H tp (.tup [V.str "top",V.str "held"])):=Same.new htp
 refine⟨tp,_,rfl,.inr (SqT.of Ak),rfl,flat_strs ["top", "held"],_,rfl,?_⟩
 show if CM (V.str b) ((["top", "held"]:List Str).map V.str)=true then _ else _
 rw[Dg]
 unfold HZ at q
 by_cases hb:b∈(["top", "held"]:List Str)
 ·rw[As hb]at q;rw[AQ hb];refine AS ?_;refine⟨_,rfl,_,rfl,x,dx,_,rfl,s0 _ _ h1,Cq d1 d2 (by decide +kernel) (by decide +kernel),x,rs,rfl,R.same s0,λl H1 s1 fl el=>?_⟩;refine⟨l,_,rfl,.inl (SqL.of el),rfl,flat_strs _,?_⟩;show Q (.bl (CM (V.str a) ((tn rs).map V.str))) H1;rw[Dg];exact q H1 (s0.trans s1)
 rw[Ai hb]at q
 rw[A8 hb]
 refine Bc ?_
 generalize Ac H tp (.tup [V.str "top",V.str "held"])=H0 at s0 ⊢
 refine⟨_,rfl,aI,_,rfl,.inr (MI.wv H0),rfl,flat_strs _,_,rfl,?_⟩
 show if CM (V.str b) (lidsS.map V.str)=true then _ else _
 rw[Dg]
 by_cases hl:b∈lidsS
 ·rw[AQ hl]at q ⊢;refine AS ⟨_,rfl,?_⟩;refine AS ?_;exact⟨_,rfl,_,rfl,x,dx,_,rfl,s0 _ _ h1,Cq d1 d2 (by decide +kernel) (by decide +kernel),x,rs,rfl,R.same s0,λl H1 s1 fl el=>⟨l,_,rfl,.inl (SqL.of el),rfl,flat_strs _,by show Q (.bl (CM (V.str a) ((pn rs).map V.str))) H1;rw[Dg];exact q H1 (s0.trans s1)⟩⟩
 rw[A8 hl]at q ⊢
 refine Bc ?_
 refine⟨_,rfl,rfl,_,rfl,?_⟩
 rw[NU]
 by_cases hbb:b = "bare"
 ·rw[AQ hbb]at q ⊢;refine AS ?_;exact⟨_,rfl,_,rfl,x,dx,_,rfl,s0 _ _ h1,Cq d1 d2 (by decide +kernel) (by decide +kernel),x,rs,rfl,R.same s0,λl H1 s1 fl el=>⟨l,_,rfl,.inl (SqL.of el),rfl,flat_strs _,by
  show Q (.bl (CM (V.str a) ((pn rs).map V.str))) H1;rw[Dg];exact q H1 (s0.trans s1)⟩⟩
 rw[A8 hbb]at q ⊢
 exact Bc (q H0 s0)
def VP (F:Fun K "is_spot" "is_spot" KC f fd)(L:Cl K C)(b_places:Binds K d_places ["self"] [])(m_places:B7 K C "places" f_places)(G_places:FnOk P w K mg base CX0 1 f_places d_places ["self"] (Ee C))
  (b_things:Binds K d_things ["self"] [])(m_things:B7 K C "things" f_things)(G_things:FnOk P w K mg base CX0 1 f_things d_things ["self"] (HV C)):FnOk P w K mg base CX0 2 f fd GS (Mn C):=by
 refine F.oq Us λcdv A outer s H vs Q E hr1 h=>?_
 obtain⟨x,rs,b,c,rfl,R,q⟩:=h
 obtain⟨dx,d1,d2,o,kvs,h1,h2,h3,h4⟩:=R.ex
 refine⟨_,(Af (AH (AI A9 (pv 1) Av (AJ _)) (Am (AC (CV Du (pv 2) (DJ (pv 0) L.cl m_places G_places hr1 b_places .nil Au) (by rfl)))) AG) (Am (AC (IB (CV A9 (pv 1) Av (AJ _)) (GH (CV Du (pv 2) (DJ (pv 0) L.cl m_things G_things hr1 b_things .nil Au) (by rfl))))))),?_⟩
 unfold J8 at q
 refine⟨_,rfl,rfl,_,rfl,?_⟩
 by_cases hb:b = "in"
 ·rw[As hb]at q;refine Hf hb ?_;refine⟨_,rfl,_,rfl,x,dx,_,rfl,h1,Cq d1 d2 (by decide +kernel) (by decide +kernel),x,rs,rfl,R,λl H1 s1 fl el=>⟨l,_,rfl,.inl (SqL.of el),rfl,flat_strs _,?_⟩⟩;show Q (.bl (CM (V.str c) ((pn rs).map V.str))) H1;rw[Dg];exact q H1 s1
 rw[Ai hb]at q
 refine Hg hb ?_
 refine⟨_,rfl,rfl,_,rfl,?_⟩
 rw[NU]
 by_cases ho:b = "on"
 ·rw[AQ ho]at q ⊢;refine AS ?_;refine⟨_,rfl,_,rfl,x,dx,_,rfl,h1,Cq d1 d2 (by decide +kernel) (by decide +kernel),x,rs,rfl,R,λl H1 s1 fl el=>⟨l,_,rfl,.inl (SqL.of el),rfl,flat_strs _,?_⟩⟩;show Q (.bl (CM (V.str c) ((tn rs).map V.str))) H1;rw[Dg];exact q H1 s1
 rw[A8 ho]at q ⊢
 exact Bc (q H (Same.refl _))
def WS (F:Fun K "is_atom" "is_atom" KG f fd)(L:Cl K C)(T:Bl mg)(b_things:Binds K d_things ["self"] [])(m_things:B7 K C "things" f_things)(G_things:FnOk P w K mg base CX0 1 f_things d_things ["self"] (HV C))
  (D_is_short_atom:Df K mg "is_short_atom" KE GU f1 d1')(G_is_short_atom:FnOk P w K mg base CX0 2 f1 d1' GU (Mo C))(D_is_spot:Df K mg "is_spot" KC GS f2 d2')(G_is_spot:FnOk P w K mg base CX0 2 f2 d2' GS (Mn C)):FnOk P w K mg base CX0 3 f fd IT (MY C):=by
 refine F.oq Uw λcdv A outer s H vs Q E hr2 h=>?_
 obtain⟨x,l,rs,ws,rfl,R,el,sk,q⟩:=h
 have hr1:Room 1 _:=hr2.mono (by decide)
 have ae:=hr2.units
 obtain⟨dx,d1,d2,o,kvs,h1,h2,h3,h4⟩:=R.ex
 refine⟨_,(Af (AH (AI (VC ae) (pv 1) (Bh (Aa Av Ab)) (AJ _)) (Am (AC EJ)) AG) (Af (AH (AI A9 (AE Bq (by rfl) T.len A0 (Aa (pv 1) Ab)) Ah (AJ _)) (Am (AC (AU G_is_short_atom hr2 (by rfl) D_is_short_atom.m D_is_short_atom.F.kp D_is_short_atom.b .nil Au (Aa (pv 0) (Aa (Az Bb (pv 1) Ah (λ_ _=>rfl)) (Aa (Az Bb (pv 1) Ah (λ_ _=>rfl)) Ab)))))) AG) (Af (AH (PW.pt (Nh (AI A9 (AE Bq (by rfl) T.len A0 (Aa (pv 1) Ab)) Ah (AJ _)) (Ng (AI Du (Az Bb (pv 1) Ah (λ_ _=>rfl)) (DJ (pv 0) L.cl m_things G_things hr1 b_things .nil Au) (by rfl))))) (Am (AC (AU G_is_spot hr2 (by rfl) D_is_spot.m D_is_spot.F.kp D_is_spot.b .nil Au (Aa (pv 0) (Aa (Az Bb (pv 1) Ah (λ_ _=>rfl)) (Aa (Az Bb (pv 1) Ah (λ_ _=>rfl)) Ab)))))) AG) (Am (AC EJ))))),?_⟩
 refine⟨_,rfl,by decide,λlf hlf=>?_⟩
 have s0:Same H (Ac H lf (.lst [V.str "free"])):=Same.new hlf
 have ef:(Ac H lf (.lst [V.str "free"])) lf=some (.lst ((["free"]:List Str).map V.str)):=Ak
 generalize Ac H lf (.lst [V.str "free"])=H0 at s0 ef ⊢
 refine⟨l,lf,ws,["free"],rfl,rfl,s0 _ _ el,ef,Pu sk,Pu (by decide +kernel),_,rfl,?_⟩
 rw[Zn]
 unfold Ll at q
 have el0:=s0 _ _ el
 by_cases hf:ws=(["free"]:List Str)
 ·rw[As hf]at q;rw[AQ hf];exact AS (q H0 s0)
 rw[Ai hf]at q
 rw[A8 hf]
 refine Bc ?_
 have ll:(ws.map V.str).length=ws.length:=Ar ..
 refine⟨_,rfl,_,_,rfl,.inl ⟨_,SqL.of el0,rfl⟩,rfl,_,rfl,?_⟩
 by_cases h2:ws.length=2
 ·obtain⟨a,b,rfl⟩:∃a b,ws=[a,b]:=by
   match ws,h2 with
   | [a,b],_=>exact⟨a,b,rfl⟩
  refine AS ?_;have a0:AB [V.str a,V.str b] ((0:Nat):Int)=some (.str a):=AO rfl;have a1:AB [V.str a,V.str b] ((1:Nat):Int)=some (.str b):=AO rfl;exact⟨_,rfl,_,rfl,l,_,_,_,rfl,rfl,SqL.of el0,a0,_,rfl,l,_,_,_,rfl,rfl,SqL.of el0,a1,x,rs,a,b,rfl,R.same s0,λH1 s1=>q H1 (s0.trans s1)⟩
 refine A4 (λz=>?_) (λ_=>?_)
 ·exfalso;have:=V.int.inj (Bg z);lia
 refine⟨_,rfl,_,_,rfl,.inl ⟨_,SqL.of el0,rfl⟩,rfl,_,rfl,?_⟩
 by_cases h3:ws.length=3
 ·obtain⟨a,b,c,rfl⟩:∃a b c,ws=[a,b,c]:=by
   match ws,h3 with
   | [a,b,c],_=>exact⟨a,b,c,rfl⟩
  refine AS ?_;have a0:AB [V.str a,V.str b,V.str c] ((0:Nat):Int)=some (.str a):=AO rfl;have a1:AB [V.str a,V.str b,V.str c] ((1:Nat):Int)=some (.str b):=AO rfl;have a2:AB [V.str a,V.str b,V.str c] ((2:Nat):Int)=some (.str c):=AO rfl;refine⟨_,rfl,l,_,_,_,rfl,rfl,SqL.of el0,a0,_,rfl,x,dx,_,rfl,s0 _ _ h1,Cq d1 d2 (by decide +kernel) (by decide +kernel),x,rs,rfl,R.same s0,λl1 H1 s1 fl e1=>⟨l1,_,rfl,.inl (SqL.of e1),rfl,flat_strs _,_,rfl,?_⟩⟩;show if CM (V.str a) ((tn rs).map V.str)=true then _ else _
  rw[Dg];have el1:=s1 _ _ el0;have q:∀H':Hp,Same H H'->Q (.bl (decide (a∈tn rs) && J8 rs b c)) H':=q;by_cases ha:a∈tn rs
  ·rw[AQ ha]at q ⊢;refine AS ?_;exact⟨_,rfl,_,rfl,l,_,_,_,rfl,rfl,SqL.of el1,a1,_,rfl,l,_,_,_,rfl,rfl,SqL.of el1,a2,x,rs,b,c,rfl,R.same (s0.trans s1),λH2 s2=>q H2 ((s0.trans s1).trans s2)⟩
  rw[A8 ha]at q ⊢;exact Bc (q H1 (s0.trans s1))
 refine A4 (λz=>?_) (λ_=>?_)
 ·exfalso;have:=V.int.inj (Bg z);lia
 refine Bc ?_
 have q':Q (.bl false) H0:=by
  match ws,h2,h3,q with
  | [],_,_,q=>exact q H0 s0
  | [_],_,_,q=>exact q H0 s0
  | _::_::_::_::_,_,_,q=>exact q H0 s0
 exact q'
abbrev IU:List Str:=["room", "fact", "world"]
abbrev XE:List Str:=BZ IU ["parts"]
def scHolds:AF XE IU (Aq KI):=AN
def Lg.noN (g:Good rs)(h:Lg W):W∉rs.map Ro.name:=λz=>by have:=(QV g z).len;have:=h.len;lia
def Lg.noP (g:Good rs)(h:Lg W):W∉(plc rs).map (·.1):=λe=>h.noN g (Ji e)
inductive HY (C NN:Addr)(vs:List V)(H:Hp)(Q:VK)(E:XK):Prop
 | mk (x:Addr) (rs:List Ro) (W:Str) (c0:vs=[.ref x,.str W]) (c1:RoomAt C H x rs) (c2:Good rs) (c3:1<=(plc rs).length) (c4:Lg W) (c5:C7 H E NN):HY C NN vs H Q E
inductive FB (C NN:Addr)(vs:List V)(H:Hp)(Q:VK)(E:XK):Prop
 | mk (x:Addr) (rs:List Ro) (W:Str) (c0:vs=[.ref x,.str (W++Str.ofString " top")]) (c1:RoomAt C H x rs) (c2:Good rs) (c3:Lg W) (c4:C7 H E NN):FB C NN vs H Q E
inductive MN (C NN:Addr)(vs:List V)(H:Hp)(Q:VK)(E:XK):Prop
 | mk (x:Addr) (rs:List Ro) (W:Str) (v:V) (c0:vs=[.ref x,.str (W++Str.ofString " top"),v]) (c1:RoomAt C H x rs) (c2:Good rs) (c3:Lg W) (c4:C7 H E NN):MN C NN vs H Q E
inductive MD (NN:Addr)(vs:List V)(H:Hp)(Q:VK)(E:XK):Prop
 | mk (W:Str) (c0:vs=[.str (Str.ofString "place " ++ W)]) (c1:Lg W) (c2:C7 H E NN):MD NN vs H Q E
inductive Mr (NN:Addr)(vs:List V)(H:Hp)(Q:VK)(E:XK):Prop
 | mk (a:Addr) (W:Str) (r:List V) (c0:vs=[.ref a]) (c1:H a=some (.lst (.str (Str.ofString "place " ++ W)::r))) (c2:Lg W) (c3:C7 H E NN):Mr NN vs H Q E
inductive MK (NN:Addr)(vs:List V)(H:Hp)(Q:VK)(E:XK):Prop
 | mk (u:V) (a:Addr) (W:Str) (r:List V) (c0:vs=[u,.ref a]) (c1:H a=some (.lst (.str (Str.ofString "place " ++ W)::r))) (c2:Lg W) (c3:C7 H E NN):MK NN vs H Q E
inductive Mz (vs:List V)(H:Hp)(Q:VK)(E0_:XK):Prop
 | mk (W:Str) (c0:vs=[.str W]) (c1:Lg W) (c2:Q (.bl false) H):Mz  vs H Q E0_
theorem Lg.top (h:Lg W):Txt.split (W++Str.ofString " top") Bt=[W, "top"]:=by
 exact J9 (ws:=[W, "top"]) (by simp) λw hw=>by
  rcases(AD.mp hw)with e | e
  ·rw[e];exact h.no (by decide)
  rw[AW.mp e];decide +kernel
def Lg.top1 {w:Str}(h:Lg W)(hw:32∉cs w)(hn:w ≠ "top" /\ w.length<=5)(hy:cs y=32::(cs w++[32])):Txt.split (W++Str.ofString " top") y=[W++Str.ofString " top"]:=by
 refine TZ (ws:=[W, "top"]) (λv hv=>?_) hw hy λz=>?_
 ·rcases(AD.mp hv)with e | e
  ·rw[e];exact h.no (by decide)
  rw[AW.mp e];decide +kernel
 rcases(AD.mp z)with e | e
 ·have:=h.len;rw[<- e]at this;lia
 exact hn.1 (AW.mp e)
def Lg.pl {W:Str}(h:Lg W):Txt.split (Str.ofString "place " ++ W) Bt=(["place",W]:List Str):=by
 exact J9 (ws:=(["place",W]:List Str)) (by simp) λw hw=>by
  rcases(AD.mp hw)with e | e
  ·rw[e];decide +kernel
  rw[AW.mp e];exact h.no (by decide)
def Wk (F:Fun K "lid_of" "Room.lid_of" Ky f fd)(L:Cl K C)(XN:Xk K mg G NN "NoName"):FnOk P w K mg base (CXe P w) 1 f fd ["self", "place"] (HW C NN):=by refine F.oqE PB λcdv A outer s H vs Q E hr h=>?_;obtain⟨x,rs,W,rfl,R,g,lg,q⟩:=h;have hu:=Dw hr;obtain⟨dx,d1,d2,o,kvs,h1,h2,h3,h4⟩:=R.ex;have dg:DGet H d1 (.str W) none:=.inl ⟨kvs,(Sum.inr W:Ag),.inr ⟨o,h2⟩,rfl,(h3.none (lg.noP g)).symm⟩;refine⟨_,Af (AH (FO (K1 hu (pv 1) (Iz (pv 0) rfl))) (Am (Fe XN.oN (by rfl) XN.mN (Aa (Iy (pv 1) (by decide +kernel)) Ab))) AG) Bu,?_⟩;refine⟨_,rfl,_,rfl,x,C,dx,_,_,rfl,h1,L.cl,L.nP,Im d1 d2,d1,_,rfl,dg,_,rfl,?_⟩;refine AS ?_;exact⟨_,rfl,W,rfl,lg.rp,by show 1<=1000;decide,λb hb=>q b H (Same.refl _) hb⟩
def Wq (F:Fun K "key_of" "Room.key_of" KB f fd)(L:Cl K C)(bL:Binds K dL ["self", "place"] [])(mL:B7 K C "lid_of" fL)(GL:FnOk P w K mg base (CXe P w) 1 fL dL ["self", "place"] (HW C NN)):FnOk P w K mg base (CXe P w) 2 f fd ["self", "place"] (HW C NN):=by refine F.oqE PD λcdv A outer s H vs Q E hr h=>?_;obtain⟨x,rs,W,rfl,R,g,lg,q⟩:=h;obtain⟨dx,d1,d2,o,kvs,h1,h2,h3,h4⟩:=R.ex;refine⟨_,Am (AC (Az Bs (GJ (pv 0) L.cl mL GL hr bL .nil Cg (Aa (pv 1) Ab)) Ah (λ_ _=>rfl))),?_⟩;exact⟨_,rfl,x,dx,_,rfl,h1,Cq d1 d2 (by decide +kernel) (by decide +kernel),_,rfl,x,rs,W,rfl,R,g,lg,q⟩
def Wu (F:Fun K "is_name" "is_name" FI f fd)(T:Bl mg)(M:Md K mg aN aF):FnOk P w K mg base CX0 1 f fd ["text"] Mz:=by
 obtain⟨t2,m2⟩:=M.most;refine F.oq PF λcdv A outer s H vs Q E hr h=>?_;obtain⟨x,rfl,lg,q⟩:=h;have aa:sizeLine=16777216:=AM;have hl:=lg.len;refine⟨_,Af (AH (PW.pt (Cy (AI A9 (pv 0) Av (AJ _)) (Cy (AI Fg (AE Bq (by rfl) T.len A0 (Aa (pv 0) Ab)) (A1 (v:=.int 8) (by rfl) m2 ⟨_,rfl⟩) (AJ _)) (DE (AI Du (pv 0) (A1 (v:=.ref aN) (by rfl) M.nn rfl) (by rfl)))))) (Am (AC EJ)) AG) Bu,?_⟩;refine⟨_,rfl,rfl,_,rfl,?_⟩;refine A4 (λhe=>?_) (λ_=>?_)
 ·exfalso;have e:=V.str.inj (Bg he);rw[e]at hl;exact absurd hl.1 (by decide +kernel)
 refine⟨_,rfl,_,_,rfl,⟨by lia,rfl⟩,_,_,rfl,rfl,_,rfl,?_⟩;rw[AQ (show(x.length:Int) > 8 by lia)];exact AS (AS q)
def WD (F:Fun K "guess_world" "guess_world" Ij f fd)(T:Bl mg)(L:Cl K C)(XW:Xk K mg G NN "NoWorld")(b_places:Binds K dp ["self"] [])(m_places:B7 K C "places" fp)(G_places:FnOk P w K mg base CX0 1 fp dp ["self"] (Ee C)):FnOk P w K mg base (CXe P w) 2 f fd IW (HY C NN):=by
 refine F.oqE scGuess λcdv A outer s H vs Q E hr1 h=>?_;obtain⟨x,rs,W,rfl,R,g,p1,lg,q⟩:=h;have aa:sizeLine=16777216:=AM;have hl:=lg.len;refine⟨_,(Af (FP (i:=2) (N:=["part"]) (sc:=Aq Ij) (own:=["part"]) (fr:=[]) (js:=[]) scGuess.nd rfl rfl Ci rfl (BQ (B2 DA C6 Ec DQ (pv 1) (Aa Av Ab))) (λ_ _ _ _=>Bm (i:=0) (show List.Nodup (["part"]:List Str) by decide +kernel)) (λ_ _ _ _=>Ct) (λ_ _ _ _=>(N9 K rfl (B2 DA C6 Ec DQ (pv 0) (Aa Av Ab))))) (Af (AH (AI GZ (AE Bq (by rfl) T.len A0 (Aa (pv 2) Ab)) (Ax Bv (AE Bq (by rfl) T.len A0 (Aa (DJ (pv 0) L.cl m_places G_places hr1 b_places .nil Au) Ab)) Ah) (AJ _)) (Am (Fe XW.oN (by rfl) XW.mN (Aa (Iy (pv 1) (by decide +kernel)) Ab))) AG) Bu)),?_⟩;refine⟨_,rfl,rfl,_,_,rfl,rfl,by rfl,by lia,λl hl'=>?_⟩;have hsp:Txt.split W (Str.ofString "; ")=[W]:=T1 (ps:=[W]) (by simp) λp hp=>by rw[AW.mp hp];exact lg.no (by decide)
 rw[hsp];obtain⟨H1,g0,s1,el⟩:=Bd (H:=H) (o:=.lst (([W]:List Str).map V.str)) hl';rw[g0];refine⟨l,rfl,⟨_,SqL.of el⟩,λD hD=>?_⟩;refine Cj (n:=1) (λi ys H2=>ys.length=i/\Same H1 H2/\H2 D=some (.lst ys)) ⟨rfl,Same.new hD,Ak⟩ (λi ys H2 hi hh0=>by obtain⟨_,s2,_⟩:=hh0;exact⟨_,.str W,SqL.of (s2 _ _ el),by rw[show i=0 by lia];rfl⟩) (λys H2 hh0=>by obtain⟨_,s2,_⟩:=hh0;exact⟨_,SqL.of (s2 _ _ el),AA _⟩) ?_ ?_
 ·rintro i ys H2 y H3 hi ⟨hy,s2,e2⟩ ⟨rfl,hx⟩;refine Cu ?_;have hx2:y=.str W:=by have:=hx _ (SqL.of (s2 _ _ el));rw[show i=0 by lia]at this;(exact(Bx this).symm)
  subst hx2;refine⟨_,rfl,rfl,_,_,rfl,rfl,by rfl,by lia,λl2 hl2=>?_⟩;exact⟨ys,(Same.new hl2) _ _ e2,by lia,by rw[AX,hy];rfl,(s2.trans (Same.new hl2)).put hD,Ak⟩
 rintro ys H2 ⟨hy,s2,e2⟩;have s12:=s1.trans s2;have R2:=R.same s12;obtain⟨dx,d1,d2,o,kvs,h1,h2,h3,h4⟩:=R2.ex;refine⟨_,rfl,_,_,rfl,.inl ⟨_,SqL.of e2,rfl⟩,_,rfl,x,dx,_,rfl,h1,Cq d1 d2 (by decide +kernel) (by decide +kernel),x,rs,rfl,R2,λlq Hq sq hlq eq=>?_⟩;refine⟨_,_,rfl,.inl ⟨_,SqL.of eq,rfl⟩,_,_,rfl,rfl,rfl,_,rfl,?_⟩;refine A4 (λ_=>?_) (λz=>?_)
 ·exact⟨_,rfl,W,rfl,lg.rp,by show 1<=1000;decide,λb hb=>q b Hq (s12.trans sq) hb⟩
 exfalso;refine z ?_;rw[A8,Bool.not_false];intro e;have e':=V.int.inj e;rw[Ar,Ar]at e';lia
def VW (F:Fun K "read_world" "read_world" Kq f fd)(C_guess_world:Ca P w K mg base (CXe P w) 2 "guess_world" Ij IW (HY C NN)):FnOk P w K mg base (CXe P w) 3 f fd IJ (HY C NN):=by refine F.oqE scRead λcdv A outer s H vs Q E hr2 h=>?_;obtain⟨x,rs,W,rfl,R,g,p1,lg,q⟩:=h;refine⟨_,(Af (Ay (i:=2) scRead.nd (AY C_guess_world hr2 Cg (Aa (pv 0) (Aa (pv 1) Ab)))) Bu),?_⟩;exact⟨_,rfl,_,rfl,x,rs,W,rfl,R,g,p1,lg,q⟩
def VN (F:Fun K "read_term" "read_term" Ko f fd)(XF:Xk K mg G NN "NoFact")(T:Bl mg)(C_is_atom:Ca P w K mg base CX0 3 "is_atom" KG IT (MY C)):FnOk P w K mg base (CXe P w) 4 f fd IG (FB C NN):=by
 refine F.oqE scReadTerm λcdv A outer s H vs Q E hr3 h=>?_;obtain⟨x,rs,W,rfl,R,g,lg,q⟩:=h;have aa:sizeLine=16777216:=AM;have hl:=lg.len;have b4:(Str.ofString " top").length=4:=by decide +kernel
 have htl:(W++Str.ofString " top").length<=100:=by rw[CB,b4];lia
 refine⟨_,(Af (Ay (i:=2) scReadTerm.nd (B2 DA C6 Ec DQ (pv 1) (Aa Av Ab))) (Af (Ay (i:=3) scReadTerm.nd (CV GZ (Az Bb (pv 2) Ah (λ_ _=>rfl)) Av (AJ _))) (Af (Ay (i:=4) scReadTerm.nd (K0 (Cr (pv 3)) (pv 2) (DH FE (pv 2) (DF Ah) DG))) (Af (AH (CG (Cr (AY C_is_atom hr3 Au (Aa (pv 0) (Aa (pv 4) Ab))))) (Am (Fe XF.oN (by rfl) XF.mN (Aa (Iy (pv 1) (by decide +kernel)) Ab))) AG) Bu)))),?_⟩;refine⟨_,rfl,rfl,_,_,rfl,rfl,by rfl,by lia,λl hl'=>?_⟩;refine Jj ([W, "top"]:List Str) _ (by rw[show Txt.split (W++Str.ofString " top") (Str.ofString " ")=[W, "top"] from lg.top]) hl' λH1 s1 el=>?_;have a0:AB (([W, "top"]:List Str).map V.str) ((0:Nat):Int)=some (.str W):=AO rfl;refine⟨_,rfl,l,_,_,_,rfl,rfl,SqL.of el,a0,rfl,?_⟩;have hn:¬W = "not" := λe=>by rw[e]at hl;exact absurd hl.1 (by decide +kernel)
 have hw:(!decide (V.str W=V.str "not"))=true:=by rw[A8 (λz=>hn (V.str.inj z))];rfl
 rw[hw];refine⟨_,rfl,_,rfl,?_⟩;refine AS ?_;have no:Ll rs ([W, "top"]:List Str)=false:=by unfold Ll;rw[Ai (λz=>by cases z)];show HZ rs W "top" = false;unfold HZ;rw[As (by decide +kernel)];exact A8 λz=>lg.noN g (ND z)
 refine⟨_,rfl,_,rfl,_,rfl,x,l,rs,_,rfl,R.same s1,el,(λz hz=>?_),λH3 s3=>⟨_,rfl,?_⟩⟩
 ·rcases(AD.mp hz)with e | e
  ·rw[e];exact lg.sm.ok
  rw[AW.mp e];decide +kernel
 rw[no];refine AS ?_;exact⟨_,rfl,_,rfl,(Sm.app lg.sm (by unfold Sm;decide +kernel)).rp (by lia),by show 1<=1000;decide,λb hb=>q b H3 (s1.trans s3) hb⟩
def V8 (F:Fun K "read_part" "read_part" Ib f fd)(T:Bl mg)(C_read_term:Ca P w K mg base (CXe P w) 4 "read_term" Ko IG (FB C NN)):FnOk P w K mg base (CXe P w) 5 f fd IH (FB C NN):=by
 refine F.oqE Uj λcdv A outer s H vs Q E hr4 h=>?_;obtain⟨x,rs,W,rfl,R,g,lg,q⟩:=h;have aa:sizeLine=16777216:=AM;have hl:=lg.len;have b4:(Str.ofString " top").length=4:=by decide +kernel
 have htl:(W++Str.ofString " top").length<=100:=by rw[CB,b4];lia
 refine⟨_,(Am (AC (Qi (N:=["term", "room"]) (sc:=Aq Ib) (own:=["term"]) (fr:=["room"]) (js:=[0]) rfl Ci rfl (BQ (B2 DA C6 Ec DQ (pv 1) (Aa Av Ab))) (λ_ _ _ _ _=>Bm (i:=0) (show List.Nodup (["term", "room"]:List Str) by decide +kernel)) (λ_ _ _ _ _=>Ct) (λ_ _ _ _ _ hx=>(AY C_read_term hr4 hx (Aa (pv 1) (Aa (pv 0) Ab))))))),?_⟩;refine⟨_,rfl,rfl,_,_,rfl,rfl,by rfl,by lia,λl hl'=>?_⟩;rw[show Txt.split (W++Str.ofString " top") (Str.ofString " and ")=[W++Str.ofString " top"] from lg.top1 (w := "and") (by decide +kernel) (by decide +kernel) (by decide +kernel)];obtain⟨H1,g0,s1,el⟩:=Bd (H:=H) (o:=.lst (([W++Str.ofString " top"]:List Str).map V.str)) hl';rw[g0];refine⟨l,rfl,⟨_,SqL.of el⟩,λD hD=>?_⟩;refine Cj (n:=1) (λi ys H2=>i=0/\Same H1 H2) ⟨rfl,Same.new hD⟩ (λi ys H2 hi hh0=>by obtain⟨_,s2⟩:=hh0;exact⟨_,.str (W++Str.ofString " top"),SqL.of (s2 _ _ el),by rw[show i=0 by lia];rfl⟩) (λys H2 hh0=>by obtain⟨z,_⟩:=hh0;exact absurd z (by decide)) ?_ (λys H2 hh0=>by obtain⟨z,_⟩:=hh0;exact absurd z (by decide));rintro i ys H2 y H3 hi ⟨rfl,s2⟩ ⟨rfl,hx⟩;refine Cu ?_;have hx2:y=.str (W++Str.ofString " top"):=(Bx (hx _ (SqL.of (s2 _ _ el)))).symm;subst hx2;have s12:=s1.trans s2;exact⟨_,rfl,_,rfl,x,rs,W,rfl,R.same s12,g,lg,λb H' s'=>q b H' (s12.trans s')⟩
def WH (F:Fun K "read_fact" "read_fact" Ic f fd)(T:Bl mg)(C_read_part:Ca P w K mg base (CXe P w) 5 "read_part" Ib IH (FB C NN)):FnOk P w K mg base (CXe P w) 6 f fd II (FB C NN):=by
 refine F.oqE Uk λcdv A outer s H vs Q E hr5 h=>?_;obtain⟨x,rs,W,rfl,R,g,lg,q⟩:=h;have aa:sizeLine=16777216:=AM;have hl:=lg.len;have b4:(Str.ofString " top").length=4:=by decide +kernel
 have htl:(W++Str.ofString " top").length<=100:=by rw[CB,b4];lia
 refine⟨_,(Am (AC (Qi (N:=["part", "room"]) (sc:=Aq Ic) (own:=["part"]) (fr:=["room"]) (js:=[0]) rfl Ci rfl (BQ (B2 DA C6 Ec DQ (pv 1) (Aa Av Ab))) (λ_ _ _ _ _=>Bm (i:=0) (show List.Nodup (["part", "room"]:List Str) by decide +kernel)) (λ_ _ _ _ _=>Ct) (λ_ _ _ _ _ hx=>(AY C_read_part hr5 hx (Aa (pv 1) (Aa (pv 0) Ab))))))),?_⟩;refine⟨_,rfl,rfl,_,_,rfl,rfl,by rfl,by lia,λl hl'=>?_⟩;rw[show Txt.split (W++Str.ofString " top") (Str.ofString " or ")=[W++Str.ofString " top"] from lg.top1 (w := "or") (by decide +kernel) (by decide +kernel) (by decide +kernel)];obtain⟨H1,g0,s1,el⟩:=Bd (H:=H) (o:=.lst (([W++Str.ofString " top"]:List Str).map V.str)) hl';rw[g0];refine⟨l,rfl,⟨_,SqL.of el⟩,λD hD=>?_⟩;refine Cj (n:=1) (λi ys H2=>i=0/\Same H1 H2) ⟨rfl,Same.new hD⟩ (λi ys H2 hi hh0=>by obtain⟨_,s2⟩:=hh0;exact⟨_,.str (W++Str.ofString " top"),SqL.of (s2 _ _ el),by rw[show i=0 by lia];rfl⟩) (λys H2 hh0=>by obtain⟨z,_⟩:=hh0;exact absurd z (by decide)) ?_ (λys H2 hh0=>by obtain⟨z,_⟩:=hh0;exact absurd z (by decide));rintro i ys H2 y H3 hi ⟨rfl,s2⟩ ⟨rfl,hx⟩;refine Cu ?_;have hx2:y=.str (W++Str.ofString " top"):=(Bx (hx _ (SqL.of (s2 _ _ el)))).symm;subst hx2;have s12:=s1.trans s2;exact⟨_,rfl,_,rfl,x,rs,W,rfl,R.same s12,g,lg,λb H' s'=>q b H' (s12.trans s')⟩
def WA (F:Fun K "holds" "holds" KI f fd)(C_read_fact:Ca P w K mg base (CXe P w) 6 "read_fact" Ic II (FB C NN)):FnOk P w K mg base (CXe P w) 7 f fd IU (MN C NN):=by refine F.oqE scHolds λcdv A outer s H vs Q E hr6 h=>?_;obtain⟨x,rs,W,v,rfl,R,g,lg,q⟩:=h;refine⟨_,(Af (Ay (i:=3) scHolds.nd (AY C_read_fact hr6 Cg (Aa (pv 0) (Aa (pv 1) Ab)))) Bu),?_⟩;exact⟨_,rfl,_,rfl,x,rs,W,rfl,R,g,lg,q⟩
def Wg (F:Fun K "read_line" "read_line" E5 f fd)(XR:Xk K mg G NN "NoRoom")(DI:Df K mg "is_name" FI ["text"] fI fdI)(T:Bl mg)(M:Md K mg aN aF)(GI:FnOk P w K mg base CX0 1 fI fdI ["text"] Mz):FnOk P w K mg base (CXe P w) 2 f fd ["line"] (MD NN):=by
 refine F.oqE scReadLine λcdv A outer s H vs Q E hr h=>?_;obtain⟨W,rfl,lg,q⟩:=h;have ae:(A.deeper (envOfC "read_line" (Aq E5) s.heap.objs.size f cdv)).units+65<cLine:=by have:=hr.un;lia
 have aa:sizeLine=16777216:=AM;have hl0:=lg.len;have b6:(Str.ofString "place ").length=6:=by decide +kernel
 have htl:(Str.ofString "place " ++ W).length<=100:=by rw[CB,b6];lia
 refine⟨_,Af (Ay (i:=1) scReadLine.nd (B2 DA C6 Ec DQ (pv 0) (Aa Av Ab))) (Af (AH (AI (Qr ae) (BR (Aa (Az Bb (pv 1) Ah (λ_ _=>rfl)) (Aa (AE Bq (by rfl) T.len A0 (Aa (pv 1) Ab)) Ab))) (A1 (v:=.ref aF) (by rfl) M.ff rfl) (by rfl)) Bu AG) (Af (CI LA rfl (BQ (DH FE (pv 1) (DF Ah) DG)) (Bm (i:=2) scReadLine.nd) (Am (AH (CG (Cr (AU GI hr (by rfl) DI.m DI.F.kp DI.b .nil Au (Aa (pv 2) Ab)))) (Am (Fe XR.oN (by rfl) XR.mN (Aa (Ql (Qc (pv 2) (Qb (Qc (pv 0) Qd)))) Ab))) AG))) Bu)),?_⟩;refine⟨_,rfl,rfl,_,_,rfl,rfl,by decide +kernel,by lia,λl hl=>?_⟩;refine Jj (["place",W]:List Str) _ (by rw[show Txt.split (Str.ofString "place " ++ W) (Str.ofString " ")=(["place",W]:List Str) from lg.pl]) hl λH1 s1 e1=>?_;have hat:AB ((["place",W]:List Str).map V.str) ((0:Nat):Int)=some (.str "place"):=AO rfl;refine⟨_,rfl,l,_,_,_,rfl,rfl,SqL.of e1,hat,_,rfl,_,_,rfl,.inl ⟨_,SqL.of e1,rfl⟩,by show 2<=sizeLine;decide,λp hp=>?_⟩;have s2:Same H1 (Ac H1 p (.tup [.str "place",.int (((["place",W]:List Str).map V.str).length:Nat)])):=Same.new hp;refine⟨.tuple [.str "place",.int (2:Nat)],formsD,.tup (by rw[Ak];rfl) (.cons (.str _) (.cons (.int _) .nil)),M.fv,by decide +kernel,by decide +kernel,_,rfl,?_⟩;have s12:=s1.trans s2;generalize (Ac H1 p (.tup [.str "place",.int (((["place",W]:List Str).map V.str).length:Nat)]))=H2 at s2 s12 ⊢;have e2:=s2 _ _ e1;rw[show(formsD.any λe=>PyData.eqv e (.tuple [.str "place",.int (2:Nat)]))=true by decide +kernel];refine Bc ?_;refine⟨_,rfl,_,rfl,l,_,rfl,SqL.of e2,λz hz=>?_⟩;have s3:Same H2 (Ac H2 z (.lst (A5 ((["place",W]:List Str).map V.str) (some 1) none))):=Same.new hz;have e3:(Ac H2 z (.lst (A5 ((["place",W]:List Str).map V.str) (some 1) none))) z=some (.lst [.str W]):=Ak;generalize Ac H2 z (.lst (A5 ((["place",W]:List Str).map V.str) (some 1) none))=H3 at s3 e3 ⊢;refine⟨z,rfl,⟨_,SqL.of e3⟩,EO (K:=K) (a:=z) (xs:=[.str W]) (λi σ H4=>i=0/\(∃v2:Option V,σ = [some (.str (Str.ofString "place " ++ W)),some (.ref l),v2])/\H4=H3) ⟨rfl,⟨none,rfl⟩,rfl⟩ (λi σ H4 _ hh0=>by obtain⟨_,_,z⟩:=hh0;rw[z];exact SqL.of e3) ?_ (λσ H4 hh0=>by obtain⟨z,_⟩:=hh0;cases z)⟩;rintro i y σ H4 hy ⟨rfl,⟨v2,rfl⟩,rfl⟩;cases hy;refine⟨_,rfl,W,rfl,lg,_,rfl,?_⟩;refine AS ?_;have r1:(reprText W).length<=100000:=lg.rp;have r2:(reprText (Str.ofString "place " ++ W)).length<=100000:=(Sm.app (x:=Str.ofString "place ") (by unfold Sm;decide +kernel) lg.sm).rp (by lia);have r3:(Str.ofString " is no name, in the line ").length<=100:=by decide +kernel
 have r0:Str.empty.length=0:=rfl;refine⟨_,rfl,W,rfl,r1,by rw[CB];lia,by rw[CB,CB];lia,_,rfl,_,rfl,r2,by rw[CB,CB,CB];lia,?_⟩;exact⟨by show 1<=1000;decide,λb hb=>q b _ (s12.trans s3) hb⟩
def VT (F:Fun K "read_rows" "read_rows" EG f fd)(DR:Df K mg "read_line" E5 ["line"] fR fdR)(GR:FnOk P w K mg base (CXe P w) 2 fR fdR ["line"] (MD NN)):FnOk P w K mg base (CXe P w) 3 f fd ["lines"] (Mr NN):=by refine F.oqE scReadRows λcdv A outer s H vs Q E hr h=>?_;obtain⟨a,W,r,rfl,ha,lg,q⟩:=h;have aa:sizeLine=16777216:=AM;refine⟨_,Af (Vd (i:=1) (N:=["line"]) (sc:=Aq EG) (own:=["line"]) (fr:=[]) (js:=[]) scReadRows.nd rfl rfl rfl Ci rfl (BQ (pv 0)) (λ_ _ _ _ _=>Bm (i:=0) (show List.Nodup (["line"]:List Str) by decide +kernel)) (λ_ _ _ _ _=>Ct) (λ_ _ _ _ _ hx=>AU GR hr (by rfl) DR.m DR.F.kp DR.b .nil hx (Aa (pv 0) Ab))) Bu,?_⟩;refine⟨_,rfl,a,rfl,⟨_,SqL.of ha⟩,λD hD=>?_⟩;refine Cj (n:=1) (λi ys H2=>i=0/\Same H H2) ⟨rfl,Same.new hD⟩ (λi ys H2 hi hh0=>by obtain⟨_,s2⟩:=hh0;exact⟨_,.str (Str.ofString "place " ++ W),SqL.of (s2 _ _ ha),by rw[show i=0 by lia];rfl⟩) (λys H2 hh0=>by obtain⟨z,_⟩:=hh0;exact absurd z (by decide)) ?_ (λys H2 hh0=>by obtain⟨z,_⟩:=hh0;exact absurd z (by decide));rintro i ys H2 y H3 hi ⟨rfl,s2⟩ ⟨rfl,hx⟩;refine Cu ?_;have hx2:y=.str (Str.ofString "place " ++ W):=(Bx (hx _ (SqL.of (s2 _ _ ha)))).symm;subst hx2;exact⟨_,rfl,W,rfl,lg,λb H' s'=>q b H' (s2.trans s')⟩
def Wx (F:Fun K "__init__" "Room.__init__" KH f fd)(DR:Df K mg "read_rows" EG ["lines"] f1 d1)(GR:FnOk P w K mg base (CXe P w) 3 f1 d1 ["lines"] (Mr NN)):FnOk P w K mg base (CXe P w) 4 f fd ["self", "lines"] (MK NN):=by refine F.oqE scInit λcdv A outer s H vs Q E hr h=>?_;obtain⟨u,a,W,r,rfl,ha,lg,q⟩:=h;refine⟨_,Af (Ay (i:=2) scInit.nd (AU GR hr (by rfl) DR.m DR.F.kp DR.b .nil Cg (Aa (pv 1) Ab))) Bu,?_⟩;exact⟨_,rfl,a,W,r,rfl,ha,lg,q⟩
theorem RZ:∀(L A:List Wl),(BA L A).length<=L.length+A.length
 | _,[]=>AA _
 | L,W::r=>by
  show(BA (if W∈L then L else L++[W]) r).length<=_;have h:=RZ (if W∈L then L else L++[W]) r
  have h2:(if W∈L then L else L++[W]).length<=L.length+1:=by
   split
   ·lia
   rw[AX];exact AA _
  rw[Cp];lia
inductive MZ (NN:Addr)(vs:List V)(H:Hp)(Q:VK)(E:XK):Prop
 | mk (d lw:Addr) (L Ws:List Wl) (us:List V) (c0:vs=[.ref d,.ref lw]) (c1:H d=some (.dT (CA 0 L))) (c2:H lw=some (.lst us)) (c3:RdVs H us (Ws.map dW)) (c4:(∀W∈Ws,Ok W)) (c5:L.length<=200) (c6:Ws.length<=60) (c7:((BA L Ws).length<=200->∀H':Hp,(∀c u,H c=some u->c≠d->H' c=some u)->H' d=some (.dT (CA 0 (BA L Ws)))->Q .non H')) (c8:(200<(BA L Ws).length->∀(b:Addr) (H':Hp),(∀c u,H c=some u->c≠d->H' c=some u)->H' b=none->E (.ref b) (some NN) H')):MZ NN vs H Q E
abbrev OX (rs:List Ro)(Ws:List Wl)(Ds:List C8):Prop:=∀L:List Wl,L.Nodup->(∀W∈L,Dn rs W)->(∀W∈Ws,W∈L)->(∀Z∈L,∀D∈Ds,∀W∈C3 D Z,W∈L)->200<L.length
inductive Mx (C NN:Addr)(vs:List V)(H:Hp)(Q:VK)(E:XK):Prop
 | mk (x lw ll:Addr) (rs:List Ro) (Ws:List Wl) (Ds:List C8) (us:List V) (c0:vs=[.ref x,.ref lw,.ref ll]) (c1:RoomAt C H x rs) (c2:Good rs) (c3:H lw=some (.lst us)) (c4:RdVs H us (Ws.map dW)) (c5:(∀W∈Ws,Dn rs W)) (c6:H ll=some (.lst (Ds.map λD=>V.str D.line))) (c7:(∀D∈Ds,Gr rs D)) (c8:Ws.length<=60) (c9:OX rs Ws Ds) (c10:C7 H E NN):Mx C NN vs H Q E
def WU (F:Fun K "add_new" "add_new" KS f fd)(T:Bl mg)(XT:Xk K mg G NN "TooMany")(m1:∃t,mg "MOST_WORLDS" = some (.int 200 t)):FnOk P w K mg base (CXe P w) 1 f fd Jd (MZ NN):=by
 refine F.oqE scAddNew λcdv A outer s H vs Q E hr h=>?_;obtain⟨d,lw,L,Ws,us,rfl,hd,hl,rd,ok,fL,fW,q,o⟩:=h;have hu:=Dw hr;obtain⟨t1,m1⟩:=m1;have aa:sizeLine=16777216:=AM;have hlu:us.length=Ws.length:=by rw[rd.length,Ar]
 refine⟨_,(Af (CI LA rfl (BQ (pv 1)) (Bm (i:=2) scAddNew.nd) (Am (AH (FO (K1 hu (pv 2) (pv 0))) (Am (EH hu (pv 0) (pv 2) (AE N7 (by rfl) T.len A0 (Aa (pv 0) Ab)) rfl)) AG))) (Am (AH (AI Fg (AE N7 (by rfl) T.len A0 (Aa (pv 0) Ab)) (A1 (v:=.int 200) (by rfl) m1 ⟨_,rfl⟩) (AJ _)) (Am (Fe XT.oN (by rfl) XT.mN (Aa Av Ab))) AG))),?_⟩;refine⟨_,rfl,lw,rfl,⟨_,SqL.of hl⟩,?_⟩
 refine EO (K:=K) (a:=lw) (xs:=us) (λi σ H2=>∃v2:Option V,σ = [some (.ref d),some (.ref lw),v2]/\(∀c u,H c=some u->c≠d->H2 c=some u)/\H2 d=some (.dT (CA 0 (BA L (Ws.take i)))))
  ⟨none,rfl,λc u e _=>e,hd⟩ (λi σ H2 _ hh0=>by obtain⟨_,_,z,_⟩:=hh0;exact SqL.of (z _ _ hl (BJ hl hd (by intro z;cases z)))) ?_ ?_
 ·rintro i v σ H2 hv ⟨v2,rfl,k2,e2⟩;have hi:i<Ws.length:=by have:=(AK.mp hv).1;lia
  obtain⟨dd,hdd,rdv⟩:=rd.get hv;rw[A6,Bi hi]at hdd;cases hdd;have htk:Ws.take (i+1)=Ws.take i++[Ws[i]]:=CD hi;have okW:=ok Ws[i] (Dy hi);have led:(BA L (Ws.take (i+1))).length<=1000:=by have:=RZ L (Ws.take (i+1));rw[Cd]at this;lia
  generalize Ws[i]=W at rdv htk okW;have rdv2:RdV H2 v (dW W):=rdv.same λc xs e=>k2 c _ e (BJ e hd (by intro z;cases z));obtain⟨b,rfl,rt⟩:=UY rdv2 okW;have hadd:BA L (Ws.take (i+1))=if W∈BA L (Ws.take i)then BA L (Ws.take i)else BA L (Ws.take i)++[W]:=by rw[htk,R1];rfl
  refine⟨_,rfl,_,rfl,d,_,rfl,DGet.t e2 rt,_,rfl,?_⟩;by_cases hm:W∈BA L (Ws.take i)
  ·obtain⟨j,hj⟩:=Gk hm;rw[As hm]at hadd;have hs:(Aw (CA 0 (BA L (Ws.take i))) (dW W)).isSome=true:=by rw[<- E3,JK];exact⟨_,BE (Nw hj),AQ rfl⟩
   rw[hs];refine Bc ?_;exact⟨_,rfl,k2,by rw[hadd];exact e2⟩
  rw[Ai hm]at hadd;rw[hadd,AX]at led;have hn:=Qx (n:=0) hm;rw[hn];refine AS ?_;refine⟨_,rfl,d,_,rfl,.inl e2,_,rfl,_,rfl,d,_,rfl,DPut.t e2 rt (by rw[G2];lia),?_⟩;refine⟨_,rfl,λc u e hc=>by rw[Aj hc];exact k2 c u e hc,?_⟩;rw[Ak,hadd,FN _ hn,Qy,G2,Nat.zero_add]
 rintro σ H2 ⟨v2,rfl,k2,e2⟩;rw[hlu,Dx]at e2;refine⟨_,rfl,d,_,rfl,.inl e2,_,_,rfl,rfl,_,rfl,?_⟩;rw[G2];refine A4 (λz=>?_) (λz=>?_)
 ·have:=Bg z;exact⟨by show 1<=1000;decide,λb hb=>o (by lia) b H2 k2 hb⟩
 have:¬(((BA L Ws).length:Nat):Int) > 200:=λh=>z (AQ h);exact q (by lia) H2 k2 e2
def V9 (F:Fun K "number_all" "number_all" Ks f fd)(T:Bl mg)(C_add_new:Ca P w K mg base (CXe P w) 1 "add_new" KS Jd (MZ NN))(C_turns:Ca P w K mg base CX0 7 "turns" GA FQ (Mj C)):FnOk P w K mg base (CXe P w) 9 f fd IL (Mx C NN):=by
 refine F.oqE scNumberAll λcdv A outer s H vs Q E hr8 h=>?_;obtain⟨x,lw,ll,rs,Ws,Ds,us,rfl,ro,g,hl,rd,rw0,hll,dok,fW,big,o⟩:=h;have hu:=Dw hr8;have hr7:Room 7 _:=hr8.mono (by decide);have hr1:Room 1 _:=hr8.mono (by decide);have aa:sizeLine=16777216:=AM;refine⟨_,(Af (Ay (i:=3) scNumberAll.nd Vr) (Af (Cs (AY C_add_new hr1 Cg (Aa (pv 3) (Aa (pv 1) Ab)))) (Af (Ay (i:=4) scNumberAll.nd Ah) (Af (Vb LA (AI Je (pv 4) (AE N7 (by rfl) T.len A0 (Aa (pv 3) Ab)) (AJ _)) (Af (Ay (i:=5) scNumberAll.nd (Az Bb (Dq (ZU rfl) (by rfl) T.list Hj (Aa (pv 3) Ab)) (pv 4) (λ_ _=>rfl))) (Af (CI LA rfl (BQ (pv 2)) (Bm (i:=6) scNumberAll.nd) (Am (Cs (AY C_add_new hr1 Cg (Aa (pv 3) (Aa (AY C_turns hr7 Au (Aa (pv 0) (Aa (pv 6) (Aa (pv 5) Ab)))) Ab)))))) (Am (Ay (i:=4) scNumberAll.nd (Ax Bv (pv 4) Ah)))))) (Am (AC (pv 3))))))),?_⟩;intro d hd;have s1:Same H (Ac H d (.dT [])):=Same.new hd;have e1:(Ac H d (.dT [])) d=some (.dT (CA 0 [])):=Ak;generalize (Ac H d (.dT []))=H1 at s1 e1 ⊢;have na0:=NA.start (Ds:=Ds) rw0;have okR:∀{W:Wl},Dn rs W->Ok W:=λr=>r.1.ok g r.2;refine⟨_,rfl,_,rfl,d,lw,[],Ws,us,rfl,e1,s1 _ _ hl,s1.rds rd,λW hW=>okR (rw0 W hW),Be _,fW,λle0 H2 k2 e2=>?_,λ_ b H2 k2 hb=>o b H2 (λc u e=>k2 c u (s1 _ _ e) (AL e hd)) hb⟩;have s2:Same H H2:=λc u e=>k2 c u (s1 _ _ e) (AL e hd);refine⟨λm σ H'=>∃(n:Nat) (L:List Wl) (v5 v6:Option V),σ = [some (.ref x),some (.ref lw),some (.ref ll),some (.ref d),some (.int (n:Int)),v5,v6]/\Same H H'/\H' d=some (.dT (CA 0 L))/\NA rs Ws Ds n L/\n<=L.length/\L.length<=200/\m=200-n,⟨200,0,BA [] Ws,none,none,rfl,s2,e2,na0,Be _,le0,rfl⟩,?_⟩;rintro m σ H3 ⟨n,L,v5,v6,rfl,s3,e3,na,hn,lb,rfl⟩;refine⟨_,rfl,_,rfl,d,_,rfl,.inl e3,_,_,rfl,rfl,_,rfl,?_⟩;rw[G2];refine A4 (λz=>?_) (λz=>?_)
 ·have hlt:n<L.length:=by have:=Bg z;lia
  have hz:L[n]? = some L[n]:=Bi hlt;have rz:=na.rw' L[n] (Dy hlt);generalize L[n]=Z at hz rz;refine⟨λσ' H'=>∃(L':List Wl) (v5 v6:Option V),σ'=[some (.ref x),some (.ref lw),some (.ref ll),some (.ref d),some (.int ((n+1:Nat):Int)),v5,v6]/\Same H H'/\H' d=some (.dT (CA 0 L'))/\NA rs Ws Ds (n+1) L'/\n+1<=L'.length/\L'.length<=200,?_,?_⟩
  ·rintro σ' H' ⟨L',v5,v6,rfl,s',e',na',hn',lb'⟩;exact⟨200-(n+1),by lia,n+1,L',v5,v6,rfl,s',e',na',hn',lb',rfl⟩
  refine⟨_,rfl,d,_,rfl,.inl e3,λl4 as hl4 ky=>?_⟩;have hal:=ky.len;rw[G2]at hal;have hb:as[n]? = some as[n]:=Bi (by lia);have rt:=ky.at' n as[n] _ _ hb (Nw hz);generalize as[n]=b at hb rt;obtain⟨H4,g0,s4,e4⟩:=Bd (H:=H3) (o:=.lst (as.map V.ref)) hl4;rw[g0];have hat:AB (as.map V.ref) ((n:Nat):Int)=some (.ref b):=AO (by rw[A6,hb];rfl);refine⟨_,rfl,l4,_,_,_,rfl,rfl,SqL.of e4,hat,?_⟩;have rz4:RdV H4 (.ref b) (dW Z):=s4.rd (P2 rt.rd);refine⟨_,rfl,ll,rfl,⟨_,SqL.of ((s3.trans s4) _ _ hll)⟩,?_⟩
  refine EO (K:=K) (a:=ll) (xs:=Ds.map λD=>V.str D.line) (λi σ H'=>∃(v6:Option V) (M:List Wl),σ = [some (.ref x),some (.ref lw),some (.ref ll),some (.ref d),some (.int (n:Int)),some (.ref b),v6]/\Same H H'/\H' d=some (.dT (CA 0 M))/\NI rs Ds L Z i M/\RdV H' (.ref b) (dW Z)/\M.length<=200)
   ⟨_,L,rfl,s3.trans s4,s4 _ _ e3,NI.start Z na,rz4,lb⟩ (λi σ H' _ hh0=>by obtain⟨_,_,_,s,_⟩:=hh0;exact SqL.of (s _ _ hll)) ?_ ?_
  ·rintro i v σ H5 hv ⟨v6',M,rfl,s5,e5,ni,rz5,lm⟩
   obtain⟨D,hD,rfl⟩:∃D,Ds[i]? = some D/\V.str D.line=v:=by
    rw[A6]at hv;cases h:Ds[i]? with
    | none=>rw[h]at hv;cases hv
    | some D=>rw[h]at hv;cases hv;exact⟨D,rfl,rfl⟩
   have dk:=dok D (BE hD);have pt:=Ip g rz dk.pi;have pq:=Ip g rz dk.pq;have okZ:=okR rz;have fP:=g.fewP;have ni':=NI.next g rz ni hD dk;refine⟨_,rfl,_,rfl,_,rfl,_,rfl,x,rs,_,Z,D.line,D.w,D.i,D.p,_,_,D.j,D.pj,_,_,rfl,ro.same s5,g,rz5,dk.wd,dk.len,pt,pq,dk.tip,dk.nine,okZ.few,by have:=rz.2.2;lia,λlt us6 H6 s6 e6 r6=>?_⟩;have e6d:=s6 _ _ e5;refine⟨d,lt,M,C3 D Z,us6,rfl,e6d,e6,r6,λW hW=>okR (O9 g rz dk W hW),lm,by have:=(SW g rz dk).2;lia,λle7 H7 k7 e7=>?_,λ_ b H7 k7 hb=>o b H7 (λc u e=>k7 c u ((s5.trans s6) _ _ e) (AL e hd)) hb⟩;have s56:=s5.trans s6;exact⟨_,_,rfl,λc u e=>k7 c u (s56 _ _ e) (AL e hd),e7,ni',(s6.rd rz5).same λc xs e=>k7 c _ e (BJ e e6d (by intro z;cases z)),le7⟩
  rintro σ H5 ⟨v6',M,rfl,s5,e5,ni,_,lm⟩;rw[Ar]at ni;have na':=na.next hz ni;obtain⟨t,et⟩:=ni.pre;refine⟨_,rfl,_,_,rfl,rfl,M,_,_,rfl,s5,e5,na',by rw[et,AX];lia,lm⟩
 have hge:n=L.length:=by have:¬(n:Int)<(L.length:Int):=λh=>z (AQ h);lia
 rw[hge]at na;exfalso;obtain⟨t,et⟩:=na.pre;have:=big L na.nd na.rw' (λW hW=>by rw[et];exact F4 _ (addN_mem.mpr (.inr hW))) (λZ hZ D hD W hW=>by obtain⟨i,hi⟩:=Gk hZ;exact na.clo i Z (AK.mp hi).1 hi D hD W hW);lia
def Pn:Sp:=λ_ _ _ _=>False
def L4 (H:Hp)(v:V)(q:C8×Int):Prop:=∃a,v=V.ref a/\H a=some (.tup [.str q.1.line,.int q.2])
structure OS (rs:List Ro)(Ps:List (C8×Int)):Prop where
 ok:∀q∈Ps,Gr rs q.1
 st:∀q∈Ps,Sf (q.1.line,q.2)
 few:Ps.length<=40
 nd:(Ps.map λq=>q.1.line).Nodup
def Hi (g:Good rs)(ok:Gr rs D):∃ps:List Str,Wd D.line (D.w::ps)/\ps.length<=100/\Fm rs D.w ps=true:=by
 have hw:=ok.wd;unfold HN at hw;by_cases htip:D.w = "tip"
 ·rw[As htip]at hw;have hnd:[D.p.1,D.pj.1].Nodup:=by have hne:D.p.1≠D.pj.1:=λe=>ok.tip htip (Nj g ok.pi ok.pq e);simp[hne]
  refine⟨_,hw,by show 2<=100;decide,?_⟩;unfold Fm;have h2:BP D.w=V.int 2:=by rw[htip];decide +kernel
  rw[show decide (BP D.w=V.int (([D.p.1,D.pj.1].length:Nat):Int))=true from AQ h2,AQ hnd];rw[show([D.p.1,D.pj.1].all λp=>decide (p∈(plc rs).map (·.1)))=true from ?_]
  ·rfl
  rw[DW];intro y hy;refine AQ ?_;rcases(AD.mp hy)with e | e
  ·rw[e];exact EV (BE ok.pi)
  rw[AW.mp e];exact EV (BE ok.pq)
 rw[Ai htip]at hw
 have hpl:BP D.w=V.int 1:=by
  rcases NB ok.nine with hm | hm
  ·rcases K8 hm with e | e | e | e | e
   ·rw[e];decide +kernel
   ·rw[e];decide +kernel
   ·rw[e];decide +kernel
   ·exact absurd e htip
   rw[e];decide +kernel
  exact QC hm
 exact⟨_,hw,by show 1<=100;decide,Ra ok.pi hpl⟩
def OR (H:Hp)(v:V)(s:Str×Int):Prop:=∃a,v=V.ref a/\H a=some (.tup [.str s.1,.int s.2])
inductive MS (vs:List V)(H:Hp)(Q:VK)(E0_:XK):Prop
 | mk (a b:Addr) (ds ls:List V) (st:List (Str×Int)) (c0:vs=[.ref a,.ref b]) (c1:H a=some (.lst ds)) (c2:H b=some (.lst ls)) (c3:A2 (OR H) (ds++ls) st) (c4:ds.length<=40) (c5:ls.length<=40) (c6:(st.map (·.1)).Nodup) (c7:(∀s∈st,Sf s)) (c8:∀H':Hp,Same H H'->Q .non H'):MS  vs H Q E0_
inductive MQ (C:Addr)(vs:List V)(H:Hp)(Q:VK)(E0_:XK):Prop
 | mk (x a b:Addr) (rs:List Ro) (Ps:List (C8×Int)) (us:List V) (c0:vs=[.ref x,.ref a,.ref b]) (c1:RoomAt C H x rs) (c2:Good rs) (c3:H a=some (.lst us)) (c4:A2 (L4 H) us Ps) (c5:OS rs Ps) (c6:H b=some (.lst [])) (c7:∀H':Hp,Same H H'->Q .non H'):MQ C vs H Q E0_
abbrev IZ:List Str:=["room", "deeds", "looks"]
abbrev XJ:List Str:=BZ IZ ["deed", "look"]
def scCheckTold:AF XJ IZ (Aq KL):=AN
def WJ (F:Fun K "check_steps" "check_steps" Ik f fd)(T:Bl mg)(M:Mc mg)(C_check_name:Ca P w K mg base CX0 1 "check_name" KO Jb MV)(C_check_price:Ca P w K mg base CX0 1 "check_price" KM Ja MU):FnOk P w K mg base CX0 2 f fd I0 MS:=by
 obtain⟨t1,m1⟩:=M.ms;refine F.oq scCheckSteps λcdv A outer s H vs Q E hr1 h=>?_;obtain⟨a,b,ds,ls,st,rfl,ha,hb,hst,fd',fl,nd,ok,q⟩:=h;have aa:sizeLine=16777216:=AM;refine⟨_,(Af (AH (PW.pt (Cy (AI Fg (AE Bq (by rfl) T.len A0 (Aa (pv 0) Ab)) (A1 (v:=.int 40) (by rfl) m1 ⟨_,rfl⟩) (AJ _)) (DE (AI Fg (AE Bq (by rfl) T.len A0 (Aa (pv 1) Ab)) (A1 (v:=.int 40) (by rfl) m1 ⟨_,rfl⟩) (AJ _))))) Bu AG) (Af (Ay (i:=2) scCheckSteps.nd (Ax Fh (Dq N5 (by rfl) T.list Hj (Aa (pv 0) Ab)) (Dq N5 (by rfl) T.list Hj (Aa (pv 1) Ab)))) (Af (FP (i:=3) (N:=["step"]) (sc:=Aq Ik) (own:=["step"]) (fr:=[]) (js:=[]) scCheckSteps.nd rfl rfl Ci rfl (BQ (pv 2)) (λ_ _ _ _=>Bm (i:=0) (show List.Nodup (["step"]:List Str) by decide +kernel)) (λ_ _ _ _=>Ct) (λ_ _ _ _=>(Az (QN K rfl) (pv 0) Ah (λ_ _=>rfl)))) (Af (AH (AI Je (AE N6 (by rfl) T.len A0 (Aa (Dq (N4 rfl) (by rfl) T.set N8 (Aa (pv 3) Ab)) Ab)) (AE Bq (by rfl) T.len A0 (Aa (pv 3) Ab)) (AJ _)) Bu AG) (Am (CI Dj rfl (BQ (pv 2)) (Bm (i:=4) scCheckSteps.nd) (Af (Cs (AY C_check_name hr1 Au (Aa (Az Bs (pv 4) Ah (λ_ _=>rfl)) Ab))) (Am (Cs (AY C_check_price hr1 Au (Aa (Az Bs (pv 4) Ah (λ_ _=>rfl)) Ab))))))))))),?_⟩;refine⟨_,rfl,_,_,rfl,.inl ⟨_,SqL.of ha,rfl⟩,_,_,rfl,rfl,_,rfl,?_⟩;refine A4 (λz=>?_) (λ_=>?_)
 ·exfalso;have:=Bg z;lia
 refine⟨_,rfl,_,_,rfl,.inl ⟨_,SqL.of hb,rfl⟩,_,_,rfl,rfl,_,rfl,?_⟩;refine A4 (λz=>?_) (λ_=>?_)
 ·exfalso;have:=Bg z;lia
 refine⟨_,rfl,a,_,rfl,.inl (SqL.of ha),λl1 hl1=>?_⟩;obtain⟨H1,g0,s1,e1⟩:=Bd (H:=H) (o:=.lst ds) hl1;rw[g0];refine⟨_,rfl,b,_,rfl,.inl (SqL.of (s1 _ _ hb)),λl2 hl2=>?_⟩;obtain⟨H2,g0,s2,e2⟩:=Bd (H:=H1) (o:=.lst ls) hl2;rw[g0];refine⟨l1,l2,_,_,rfl,rfl,s2 _ _ e1,e2,by lia,λl3 hl3=>?_⟩;obtain⟨H3,g0,s3,e3⟩:=Bd (H:=H2) (o:=.lst (ds++ls)) hl3;rw[g0];have s13:=(s1.trans s2).trans s3;have hst3:=hst.mono λv s _ ⟨z,e,r⟩=>(⟨z,e,s13 _ _ r⟩:OR H3 v s);have hsl2:=hst.len;have hdl:(ds++ls).length<=80:=by rw[AX];lia
 generalize ds++ls=xs at e3 hst3 hsl2 hdl;refine⟨_,rfl,l3,rfl,⟨_,SqL.of e3⟩,λD hD=>?_⟩
 refine Cj (n:=xs.length) (λi ys H4=>ys=((st.take i).map (·.1)).map V.str/\Same H3 H4/\H4 D=some (.lst ys)) ⟨rfl,Same.new hD,Ak⟩
  (λi ys H4 hi hh0=>by obtain⟨_,s4,_⟩:=hh0;exact⟨_,xs[i],SqL.of (s4 _ _ e3),by simp[hi]⟩) (λys H4 hh0=>by obtain⟨_,s4,_⟩:=hh0;exact⟨_,SqL.of (s4 _ _ e3),by simp⟩) ?_ ?_
 ·rintro i ys H4 y H5 hi ⟨rfl,s4,e4⟩ ⟨rfl,hy⟩;refine Cu ?_;obtain⟨sp,hsp,hmem,a',rfl,et⟩:=hst3.at (hy _ (SqL.of (s4 _ _ e3)));have BN:AB [V.str sp.1,V.int sp.2] ((0:Nat):Int)=some (.str sp.1):=AO rfl;refine⟨_,rfl,a',_,_,_,rfl,rfl,SqT.of (s4 _ _ et),BN,_,e4,by simp only[Ar,Cd];lia,?_,s4.put hD,Ak⟩;obtain⟨hi2,e⟩:=AK.mp hsp;rw[CD hi2,B5,B5,e];rfl
 rintro ys H4 ⟨rfl,s4,e4⟩;rw[hsl2,Dx]at e4;have hnl:(st.map (·.1)).length=st.length:=Ar ..;have ek:(st.map (·.1)).map V.str=((st.map (·.1)).map (Sum.inr:Str->Ag)).map kV:=by rw[Dk,Dk,Dk];rfl
 have hdd:=Px nd;have hks:((st.map (·.1)).map (Sum.inr:Str->Ag)).length=st.length:=by rw[Ar,Ar]
 refine⟨_,rfl,D,(st.map (·.1)).map Sum.inr,rfl,SqL.of (by rw[<- ek];exact e4),by lia,λst' hst'=>?_⟩;have s5:Same H4 (Ac H4 st' (Gy P w st' (SK.dd (Cv ((st.map (·.1)).map (Sum.inr:Str->Ag))) ((st.map (·.1)).map (Sum.inr:Str->Ag)).length).length)):=Same.new hst';refine⟨st',_,rfl,Ak,_,rfl,_,_,rfl,.inl ⟨_,SqL.of (s5 _ _ e4),rfl⟩,_,_,rfl,rfl,_,rfl,?_⟩;have hml:((st.map (·.1)).map V.str).length=(st.map (·.1)).length:=Ar ..;refine A4 (λhlt=>?_) (λ_=>?_)
 ·exfalso;have:=Bg hlt;rw[hml,hdd]at this;lia
 have s45:=s4.trans s5;have e35:=s45 _ _ e3;refine⟨_,rfl,l3,rfl,⟨_,SqL.of e35⟩,EO (K:=K) (a:=l3) (xs:=xs) (λi σ H6=>∃v4:Option V,σ = [some (.ref a),some (.ref b),some (.ref l3),some (.ref D),v4]/\Same H3 H6) ⟨none,rfl,s45⟩ (λi σ H6 _ hh0=>by obtain⟨_,_,s6⟩:=hh0;exact SqL.of (s6 _ _ e3)) ?_ ?_⟩
 ·rintro i y σ H6 hy ⟨v4,rfl,s6⟩;obtain⟨sp,hsp,hmem,a',rfl,et⟩:=hst3.at hy;have BN:AB [V.str sp.1,V.int sp.2] ((0:Nat):Int)=some (.str sp.1):=AO rfl;have at1:AB [V.str sp.1,V.int sp.2] ((1:Nat):Int)=some (.int sp.2):=AO rfl;have et6:=s6 _ _ et;have o:=ok _ hmem;refine⟨_,rfl,a',_,_,_,rfl,rfl,SqT.of et6,BN,sp.1,rfl,o.n1,o.n2,?_⟩;refine⟨_,rfl,a',_,_,_,rfl,rfl,SqT.of et6,at1,sp.2,rfl,o.p1,o.p2,?_⟩;exact⟨_,rfl,s6⟩
 rintro σ H6 ⟨v4,rfl,s6⟩;exact q H6 (s13.trans s6)
def VZ (F:Fun K "read_look" "read_look" GB f fd):FnOk P w K mg base CX0 2 f fd FR Pn:=
 F.ok scReadLook (λvs H Q E h=>h.elim) (λcdv A outer s H vs Q E hr8 h=>h.elim)
def WI (F:Fun K "check_told" "check_told" KL f fd)(C_read_deed:Ca P w K mg base CX0 2 "read_deed" E6 Ff (Ka C))(C_read_look:Ca P w K mg base CX0 2 "read_look" GB FR Pn)
  (C_check_steps:Ca P w K mg base CX0 2 "check_steps" Ik I0 MS):FnOk P w K mg base CX0 3 f fd IZ (MQ C):=by
 refine F.oq scCheckTold λcdv A outer s H vs Q E hr3 h=>?_
 obtain⟨x,a,b,rs,Ps,us,rfl,ro,g,ha,hus,tok,hb,q⟩:=h
 have hr2:Room 2 _:=hr3.mono (by decide)
 have hul:=hus.len
 have fewP:=tok.few
 refine⟨_,(Af (CI Dj rfl (BQ (pv 1)) (Bm (i:=3) scCheckTold.nd) (Am (Cs (AY C_read_deed hr2 Au (Aa (pv 0) (Aa (Az Bs (pv 3) Ah (λ_ _=>rfl)) Ab)))))) (Af (CI Dj rfl (BQ (pv 2)) (Bm (i:=4) scCheckTold.nd) (Am (Cs (AY C_read_look hr3 Au (Aa (pv 0) (Aa (Az Bs (pv 4) Ah (λ_ _=>rfl)) Ab)))))) (Am (Cs (AY C_check_steps hr2 Au (Aa (pv 1) (Aa (pv 2) Ab))))))),?_⟩
 refine⟨_,rfl,a,rfl,⟨_,SqL.of ha⟩,EO (K:=K) (a:=a) (xs:=us) (λi σ H2=>∃v3:Option V,σ = [some (.ref x),some (.ref a),some (.ref b),v3,none]/\Same H H2) ⟨none,rfl,λ_ _ e=>e⟩ (λi σ H2 _ hh0=>by obtain⟨_,_,s2⟩:=hh0;exact SqL.of (s2 _ _ ha)) ?_ ?_⟩
 ·rintro i y σ H2 hy ⟨v3,rfl,s2⟩;obtain⟨⟨Dl,pr⟩,hq,hqm,a',rfl,et⟩:=hus.at hy;have BN:AB [V.str Dl.line,V.int pr] ((0:Nat):Int)=some (.str Dl.line):=AO rfl;obtain⟨ps,hw,hps,hdk⟩:=Hi g (tok.ok _ hqm);refine⟨_,rfl,_,rfl,a',_,_,_,rfl,rfl,SqT.of (s2 _ _ et),BN,x,rs,Dl.line,Dl.w,ps,rfl,ro.same s2,hw,(tok.ok _ hqm).len,hps,hdk,λl H3 s3 _=>?_⟩;exact⟨_,rfl,s2.trans s3⟩
 rintro σ H2 ⟨v3,rfl,s2⟩
 refine⟨_,rfl,b,rfl,⟨_,SqL.of (s2 _ _ hb)⟩,EO (K:=K) (a:=b) (xs:=[]) (λi σ H3=>σ = [some (.ref x),some (.ref a),some (.ref b),v3,none]/\Same H H3) ⟨rfl,s2⟩ (λi σ H3 _ hh0=>by obtain⟨_,s3⟩:=hh0;exact SqL.of (s3 _ _ hb)) (λi y σ H3 hy=>by cases hy) ?_⟩
 rintro σ H3 ⟨rfl,s3⟩
 have hst:A2 (OR H3) (us++[]) (Ps.map λq=>(q.1.line,q.2)):=by rw[CP];refine⟨by rw[Ar];exact hul,λi v t hv ht=>?_⟩;obtain⟨q',hq',_,a',e,et⟩:=hus.at hv;rw[A6,hq']at ht;cases ht;exact⟨a',e,s3 _ _ et⟩
 refine⟨_,rfl,_,rfl,a,b,us,[],_,rfl,s3 _ _ ha,s3 _ _ hb,hst,by lia,by decide,by rw[Dk];exact tok.nd,λs hs=>?_,λH4 s4=>?_⟩
 ·obtain⟨q',hq',rfl⟩:=B0.mp hs;exact tok.st q' hq'
 exact q H4 (s3.trans s4)
structure Sv (K:W.Frag)(C:Addr):Prop where
 cl:Cls K C
 n1:NoAttr K C "told_room"
 n2:NoAttr K C "numbers"
 n3:NoAttr K C "made_chart"
def g1 (x:Addr):List (Str×V):=L2.putF "told_room" (.ref x) []
def RoomAt.keepX (R:RoomAt C H x rs)(hy:H y=some (.ins CT dy fl))(hf:fl.lookup ("told_places" : Str)=none)(k:∀c u,H c=some u->c≠y->H' c=some u):RoomAt C H' x rs:=by obtain⟨dx,d1,d2,o,ks,h1,h2,h3,h4⟩:=R.ex;refine⟨dx,d1,d2,o,ks,k _ _ h1 λz=>?_,k _ _ h2 (BJ h2 hy (by intro z;cases z)),h3.same λb xs e=>k _ _ e (BJ e hy (by intro z;cases z)),k _ _ h4 (BJ h4 hy (by intro z;cases z))⟩;rw[z,hy]at h1;have e:=Bx h1;injection e with _ _ e;rw[e,Im]at hf;cases hf
def Zb:([]:List (Str×V)).lookup ("told_places" : Str)=none:=rfl
abbrev GY:List Str:=["self", "room", "worlds", "deeds", "looks"]
abbrev XZ:List Str:=GY
def UE:AF XZ GY (Aq KR):=AN
inductive ML (C CT NN:Addr)(vs:List V)(H:Hp)(Q:VK)(E:XK):Prop
 | mk (z dz x lw a b:Addr) (rs:List Ro) (Ws:List Wl) (Ps:List (C8×Int)) (us0 us:List V) (c0:vs=[.ref z,.ref x,.ref lw,.ref a,.ref b]) (c1:H z=some (.ins CT dz [])) (c2:RoomAt C H x rs) (c3:Good rs) (c4:H lw=some (.lst us0)) (c5:RdVs H us0 (Ws.map dW)) (c6:(∀W∈Ws,Dn rs W)) (c7:H a=some (.lst us)) (c8:A2 (L4 H) us Ps) (c9:OS rs Ps) (c10:H b=some (.lst [])) (c11:Ws.length<=60) (c12:OX rs Ws (Ps.map (·.1))) (c13:∀(b':Addr) (H':Hp),(∀c u,H c=some u->c≠z->H' c=some u)->H' b'=none->E (.ref b') (some NN) H'):ML C CT NN vs H Q E
def WT (F:Fun K "__init__" "Atlas.__init__" KR f fd)(T:Bl mg)(LT:Sv K CT)(C_check_told:Ca P w K mg base CX0 3 "check_told" KL IZ (MQ C))(C_number_all:Ca P w K mg base (CXe P w) 9 "number_all" Ks IL (Mx C NN)):FnOk P w K mg base (CXe P w) 10 f fd GY (ML C CT NN):=by
 refine F.oqE UE λcdv A outer s H vs Q E hr10 h=>?_;obtain⟨z,dz,x,lw,a,b,rs,Ws,Ps,us0,us,rfl,hz,ro,g,hlw,rd0,rw0,ha,hus,tok,hb,fW,big,o⟩:=h;have hr9:Room 9 _:=hr10.mono (by decide);have hr3:Room 3 _:=hr10.mono (by decide);have aa:sizeLine=16777216:=AM;have hul:=hus.len;have fewP:=tok.few;refine⟨_,(Af (Cs (AY C_check_told hr3 Au (Aa (pv 1) (Aa (pv 3) (Aa (pv 4) Ab))))) (Af (KZ (pv 0) (pv 1) rfl) (Af (KZ (pv 0) (AY C_number_all hr9 Cg (Aa (pv 1) (Aa (pv 2) (Aa (EI (N:=["deed"]) (sc:=Aq KR) (own:=["deed"]) (fr:=[]) (js:=[]) Ci rfl (BQ (pv 3)) (λ_ _ _ _=>Bm (i:=0) (show List.Nodup (["deed"]:List Str) by decide +kernel)) (λ_ _ _ _=>Ct) (λ_ _ _ _=>(Az (QN K rfl) (pv 0) Ah (λ_ _=>rfl)))) Ab)))) rfl) Bu))),?_⟩;refine⟨_,rfl,_,rfl,_,rfl,x,a,b,rs,Ps,us,rfl,ro,g,ha,hus,tok,hb,λH1 s1=>?_⟩;refine⟨_,rfl,_,rfl,z,CT,dz,[],rfl,s1 _ _ hz,LT.cl,LT.n1,by show 0<1000;decide,?_⟩;have kc2:∀c u,H c=some u->c≠z->(Ac H1 z (.ins CT dz (L2.putF "told_room" (.ref x) []))) c=some u:=λc u e hc=>by rw[Aj hc];exact s1 _ _ e
 have xc2:(Ac H1 z (.ins CT dz (L2.putF "told_room" (.ref x) []))) z=some (.ins CT dz (g1 x)):=Ak;generalize (Ac H1 z (.ins CT dz (L2.putF "told_room" (.ref x) [])))=H2 at kc2 xc2 ⊢;have ro2:=ro.keepX hz Zb kc2;have az:a≠z:=BJ ha hz (by intro z;cases z);have bz:b≠z:=BJ hb hz (by intro z;cases z);have wz:lw≠z:=BJ hlw hz (by intro z;cases z);have ha2:=kc2 _ _ ha az;have rd2:RdVs H2 us0 (Ws.map dW):=rd0.same λc xs e=>kc2 c _ e (BJ e hz (by intro z;cases z));have hus2:A2 (L4 H2) us Ps:=hus.mono λv s _ ⟨c,e,et⟩=>⟨c,e,kc2 _ _ et (BJ et hz (by intro z;cases z))⟩;refine⟨_,rfl,_,rfl,_,rfl,a,rfl,⟨_,SqL.of ha2⟩,λD hD=>?_⟩
 refine Cj (n:=us.length) (λi ys H3=>ys=((Ps.map (·.1)).take i).map (λD=>V.str D.line)/\Same H2 H3/\H3 D=some (.lst ys)) ⟨rfl,Same.new hD,Ak⟩
  (λi ys H3 hi ⟨_,s3,_⟩=>⟨_,us[i],SqL.of (s3 _ _ ha2),Bi hi⟩) (λys H3 hh0=>by obtain⟨_,s3,_⟩:=hh0;exact⟨_,SqL.of (s3 _ _ ha2),AA _⟩) ?_ ?_
 ·rintro i ys H3 y H4 hi ⟨rfl,s3,e3⟩ ⟨rfl,hy⟩;refine Cu ?_;obtain⟨⟨Dl,pr⟩,hq,hqm,a',rfl,et⟩:=hus2.at (hy _ (SqL.of (s3 _ _ ha2)));have BN:AB [V.str Dl.line,V.int pr] ((0:Nat):Int)=some (.str Dl.line):=AO rfl;have hi':i<(Ps.map (·.1)).length:=by rw[Ar];lia
  refine⟨_,rfl,a',_,_,_,rfl,rfl,SqT.of (s3 _ _ et),BN,_,e3,by rw[Ar,Cd];lia,?_,s3.put hD,Ak⟩;have e:(Ps.map (·.1))[i]? = some Dl:=by rw[A6,hq];rfl
  obtain⟨_,e⟩:=AK.mp e;rw[CD hi',B5,e];rfl
 rintro ys H3 ⟨rfl,s3,e3⟩;rw[show us.length=(Ps.map (·.1)).length by rw[Ar];exact hul,Dx]at e3;exact⟨x,lw,D,rs,Ws,Ps.map (·.1),us0,rfl,ro2.same s3,g,s3 _ _ (kc2 _ _ hlw wz),s3.rds rd2,rw0,e3,(λD' hD'=>by obtain⟨q',hq',rfl⟩:=B0.mp hD';exact tok.ok q' hq'),fW,big,λb H' s' hb=>o b H' (λc u e hc=>s' _ _ (s3 _ _ (kc2 c u e hc))) hb⟩
def nm5:List Str:=["ta", "tb", "tc", "td", "te"]
def rs5:List Ro:=[.pl "a",.pl "b",.pl "c"]++nm5.map λn=>.th n "s"
def W5:Wl:=⟨none,[nm5,[],[]],["open", "open", "open"]⟩
def Ds5:List C8:=[⟨"take a", "take",0,0,("a",false,none),("a",false,none)⟩,⟨"put a", "put",0,0,("a",false,none),("a",false,none)⟩,⟨"take b", "take",1,1,("b",false,none),("b",false,none)⟩,⟨"put b", "put",1,1,("b",false,none),("b",false,none)⟩,⟨"take c", "take",2,2,("c",false,none),("c",false,none)⟩,⟨"put c", "put",2,2,("c",false,none),("c",false,none)⟩]
def nv5 (h:(cs x).all (λc=>decide (97<=c) && decide (c<=122)) && decide (1<=x.length) && decide (x.length<=8) && decide (x∉fixedS)=true):Nv x:=by simp only[Ce,Fq,DW]at h;(obtain⟨⟨⟨h1,h2⟩,h3⟩,h4⟩:=h);exact⟨h1,h2,h3,h4⟩
def QW:Good rs5:=by
 refine⟨λr hr=>?_,by decide +kernel,⟨"a",[("b",false,none),("c",false,none)],rfl⟩,by decide +kernel,by decide +kernel,λp hp k hk=>?_⟩
 ·rcases(Cc.mp hr)with h | h
  ·simp only[AD,B6,B4]at h;rcases h with h | h | h <;> (rw[h];exact nv5 (by decide +kernel))
  obtain⟨n,hn,rfl⟩:=B0.mp h;refine⟨?_,nv5 (by decide +kernel)⟩;simp only[nm5,AD,B6,B4]at hn;rcases hn with h | h | h | h | h <;> (rw[h];exact nv5 (by decide +kernel))
 have h:plc rs5=[(("a" : Str),false,none),("b",false,none),("c",false,none)]:=rfl;rw[h]at hp;simp only[AD,B6,B4]at hp;rcases hp with h | h | h <;> (rw[h]at hk;cases hk)
def UI:Dn rs5 W5:=by
 refine⟨⟨?_,λi p l hp hl=>?_⟩,⟨rfl,rfl⟩⟩
 ·have:W5.hand.toList++W5.heaps.flatten=(ths rs5).map (·.1):=by decide +kernel
  rw[this]
 have hm:=BE hl;simp only[W5,AD,B6,B4]at hm;exact .inl (by rcases hm with h | h | h <;> exact h)
def Zw:∀D∈Ds5,Gr rs5 D:=by intro D hD;simp only[Ds5,AD,B6,B4]at hD;rcases hD with h | h | h | h | h | h <;> (rw[h];refine⟨⟨by decide +kernel,by decide +kernel,by decide +kernel⟩,by decide +kernel,rfl,rfl,λz=>absurd z (by decide +kernel),by decide +kernel⟩)
def J6:List Nat:=[0,9,11,12,18,27,29,33,35,36,42,44,48,52,54,63,65,69,71,73,77,81,83,85,87,93,95,96,102,104,108,112,114,116,124,126,132,136,138,140,150,156,160,162,171,173,177,179,181,185,189,191,193,195,201,203,205,209,211,219,221,225,227,229,231,237,239,241,245,249,251,255,257,259,261,267,269,270,276,278,282,286,288,290,296,298,300,302,306,310,312,314,324,330,334,336,338,346,348,360,364,366,372,376,378,380,386,390,396,400,402,404,412,414,420,426,428,432,436,438,440,448,450,454,456,460,462,471,473,477,479,481,485,489,491,493,495,501,503,505,509,511,515,517,525,527,529,533,537,539,541,543,549,551,553,557,561,563,567,569,571,573,579,581,583,587,589,591,597,599,603,605,609,615,617,621,623,625,627,633,635,637,641,643,647,651,653,657,659,661,663,669,671,673,677,679,687,689,693,695]
def JB:List Nat->List Wl->List Wl
 | [],a=>a
 | k::r,a=>JB r (a++(C3 (Ds5.getD (k % 6) (Ds5.headD ⟨"", "",0,0,("",false,none),("",false,none)⟩)) (a.getD (k / 6) W5)).take 1)
theorem RM {L:List Wl}(h0:W5∈L)(clo:∀Z∈L,∀D∈Ds5,∀W∈C3 D Z,W∈L):∀(t:List Nat) (a:List Wl),(∀W∈a,W∈L)->∀W∈JB t a,W∈L
 | [],_,h=>h
 | k::r,a,h=>RM h0 clo r _ λW hW=>by
  rcases(Cc.mp hW)with z | z
  ·exact h W z
  refine clo (a.getD (k / 6) W5) ?_ _ ?_ W (Lw z)
  ·rw[F8];cases e:a[k / 6]? with
   | none=>exact h0
   | some Z=>exact h Z (BE e)
  rw[F8];cases e:Ds5[k % 6]? with
  | none=>exact AZ
  | some D=>exact BE e
def RH (W:Wl):Nat:=(W.heaps.foldl (λn h=>h.foldl (λn x=>n*8+(x.cps.getD 1 0-96)) (n*8+7)) (match W.hand with
 | none=>0
 | some x=>x.cps.getD 1 0-96))
def RN:((JB J6 [W5]).map RH).Nodup/\(JB J6 [W5]).length=201:=by decide +kernel
theorem Qz:∀{M N:List Wl},M.Nodup->(∀W∈M,W∈N)->M.length<=N.length
 | [],_,_,_=>Be _
 | W::r,N,nd,h=>by have nd':=BU.mp nd;have hW:=h W AZ;have hle:=Qz (M:=r) (N:=N.erase W) nd'.2 λZ hZ=>(List.mem_erase_of_ne λe=>nd'.1 (by rw[<- e];exact hZ)).mpr (h Z (AR _ hZ));rw[List.length_erase_of_mem hW]at hle;have:=List.length_pos_of_mem hW;rw[Cp];lia
def Z2:OX rs5 [W5] Ds5:=λL nd _ hW clo=>by have h1:=Qz (M:=JB J6 [W5]) (N:=L) (List.Pairwise.of_map RH (λa b h e=>h (by rw[e])) RN.1) (RM (hW W5 AZ) clo J6 [W5] λW h=>by rw[AW.mp h];exact hW W5 AZ);rw[RN.2]at h1;lia
def Pp (NN:Addr):Sp:=λvs H Q E=>vs=[]/\C7 H E NN
abbrev GO:List Str:=[]
abbrev Xv:List Str:=BZ GO ["_law_world_here", "_law_room_here", "_law_deeds"]
def scLGreat:AF Xv GO (Aq FG):=AN
def Ub {P:List Stmt->Prop}(h:∀(l1 l2:List Expr),l1.all Jt=true->l1.map HR=(["ta", "tb", "tc", "td", "te"]:List Str).map V.str->l2.all Jt=true->l2.map HR=(["a", "b", "c", "d", "e"]:List Str).map V.str->P [.Assign [(.Name "_law_world_here" ⟨605,4,605,19⟩)] (.Tuple [(.Constant .none 0 ⟨605,23,605,27⟩),(.Tuple [(.Tuple l1 0 ⟨605,30,605,60⟩),(.Tuple [] 0 ⟨605,62,605,64⟩),(.Tuple [] 0 ⟨605,66,605,68⟩)] 0 ⟨605,29,605,69⟩),(.Tuple [(.Constant (.str "open") 0 ⟨605,72,605,78⟩),(.Constant (.str "open") 0 ⟨605,80,605,86⟩),(.Constant (.str "open") 0 ⟨605,88,605,94⟩)] 0 ⟨605,71,605,95⟩)] 0 ⟨605,22,605,96⟩) ⟨605,4,605,96⟩,.Assign [(.Name "_law_room_here" ⟨606,4,606,18⟩)] (.Call (.Name "Room" ⟨606,21,606,25⟩) [(.BinOp (.List [(.Constant (.str "place a") 0 ⟨606,27,606,36⟩),(.Constant (.str "place b") 0 ⟨606,38,606,47⟩),(.Constant (.str "place c") 0 ⟨606,49,606,58⟩)] ⟨606,26,606,59⟩) .Add (.ListComp (.BinOp (.BinOp (.Constant (.str "thing t") 0 ⟨606,63,606,72⟩) .Add (.Name "_law_sign" ⟨606,75,606,84⟩) ⟨606,63,606,84⟩) .Add (.Constant (.str " s") 0 ⟨606,87,606,91⟩) ⟨606,63,606,91⟩) [{ target:=(.Name "_law_sign" ⟨606,96,606,105⟩),iter:=(.List l2 ⟨606,109,606,134⟩),ifs:=[],is_async:=0 }] { kind:=.function,names:=[(".0",.local),("_law_sign",.local)],isGenerator:=false,isCoroutine:=false,more:=[] } ⟨606,62,606,135⟩) ⟨606,26,606,135⟩)] [] ⟨606,21,606,136⟩) ⟨606,4,606,136⟩,.Assign [(.Name "_law_deeds" ⟨607,4,607,14⟩)] (.ListComp (.Tuple [(.BinOp (.Subscript (.List [(.Constant (.str "take ") 0 ⟨607,20,607,27⟩),(.Constant (.str "put ") 0 ⟨607,29,607,35⟩)] ⟨607,19,607,36⟩) (.BinOp (.Name "_law_k" ⟨607,37,607,43⟩) .Mod (.Constant (.int 2) 0 ⟨607,46,607,47⟩) ⟨607,37,607,47⟩) ⟨607,19,607,48⟩) .Add (.Subscript (.List [(.Constant (.str "a") 0 ⟨607,52,607,55⟩),(.Constant (.str "b") 0 ⟨607,57,607,60⟩),(.Constant (.str "c") 0 ⟨607,62,607,65⟩)] ⟨607,51,607,66⟩) (.BinOp (.Name "_law_k" ⟨607,67,607,73⟩) .FloorDiv (.Constant (.int 2) 0 ⟨607,77,607,78⟩) ⟨607,67,607,78⟩) ⟨607,51,607,79⟩) ⟨607,19,607,79⟩),(.Constant (.int 1) 0 ⟨607,81,607,82⟩)] 0 ⟨607,18,607,83⟩) [{ target:=(.Name "_law_k" ⟨607,88,607,94⟩),iter:=(.Call (.Name "range" ⟨607,98,607,103⟩) [(.Constant (.int 6) 0 ⟨607,104,607,105⟩)] [] ⟨607,98,607,106⟩),ifs:=[],is_async:=0 }] { kind:=.function,names:=[(".0",.local),("_law_k",.local)],isGenerator:=false,isCoroutine:=false,more:=[] } ⟨607,17,607,107⟩) ⟨607,4,607,107⟩,.Return (some (.Call (.Name "Atlas" ⟨608,11,608,16⟩) [(.Name "_law_room_here" ⟨608,17,608,31⟩),(.List [(.Name "_law_world_here" ⟨608,34,608,49⟩)] ⟨608,33,608,50⟩),(.Name "_law_deeds" ⟨608,52,608,62⟩),(.List [] ⟨608,64,608,66⟩)] [] ⟨608,11,608,67⟩)) ⟨608,4,608,67⟩]):P (Cm FG):=h _ _  (by decide +kernel) (by rfl) (by decide +kernel) (by rfl)
theorem PX :∀xs:List Str,RdVs H (xs.map V.str) (xs.map PyData.str)
 | []=>.nil
 | x::r=>.cons (.str x) (PX r)
def th5:List Str:=["a", "b", "c", "d", "e"]
theorem Pa:∀i,i<5->∃x,th5[i]? = some x/\(nm5.map λn=>V.str (Ro.txt (.th n "s")))[i]? = some (.str (Str.ofString "thing t" ++ x++Str.ofString " s"))/\x.length=1
 | 0,_=>⟨"a",rfl,by rfl,by decide +kernel⟩
 | 1,_=>⟨"b",rfl,by rfl,by decide +kernel⟩
 | 2,_=>⟨"c",rfl,by rfl,by decide +kernel⟩
 | 3,_=>⟨"d",rfl,by rfl,by decide +kernel⟩
 | 4,_=>⟨"e",rfl,by rfl,by decide +kernel⟩
 | n+5,h=>absurd h (by lia)
def tk5:List Str:=["take ", "put "]
def pn5:List Str:=["a", "b", "c"]
theorem Zx:∀i:Nat,i<6->∃(a b:Str) (D:C8),AB (tk5.map V.str) ((0+(i:Int)) % 2)=some (.str a)/\AB (pn5.map V.str) ((0+(i:Int)) / 2)=some (.str b)/\Ds5[i]? = some D/\a++b=D.line/\a.length<=5/\b.length<=5
 | 0,_=>⟨"take ", "a",_,by rfl,by rfl,rfl,by decide +kernel,by decide +kernel,by decide +kernel⟩
 | 1,_=>⟨"put ", "a",_,by rfl,by rfl,rfl,by decide +kernel,by decide +kernel,by decide +kernel⟩
 | 2,_=>⟨"take ", "b",_,by rfl,by rfl,rfl,by decide +kernel,by decide +kernel,by decide +kernel⟩
 | 3,_=>⟨"put ", "b",_,by rfl,by rfl,rfl,by decide +kernel,by decide +kernel,by decide +kernel⟩
 | 4,_=>⟨"take ", "c",_,by rfl,by rfl,rfl,by decide +kernel,by decide +kernel,by decide +kernel⟩
 | 5,_=>⟨"put ", "c",_,by rfl,by rfl,rfl,by decide +kernel,by decide +kernel,by decide +kernel⟩
 | n+6,h=>absurd h (by lia)
def Ps5:List (C8×Int):=Ds5.map λD=>(D,1)
def SX:OS rs5 Ps5:=by
 refine⟨λq hq=>?_,λq hq=>?_,by decide +kernel,by decide +kernel⟩
 ·obtain⟨D,hD,rfl⟩:=B0.mp hq;exact Zw D hD
 obtain⟨D,hD,rfl⟩:=B0.mp hq;have h:∀D∈Ds5,1<=D.line.length/\D.line.length<=30:=by intro D hD;simp only[Ds5,AD,B6,B4]at hD;rcases hD with h | h | h | h | h | h <;> (rw[h];decide +kernel)
 exact⟨(h D hD).1,(h D hD).2,by show(1:Int)<=1;decide,by show(1:Int)<=1000000000;decide⟩
def A2.one {α:Type}{R:V->α->Prop}{v:V}{t:α}(h:R v t):A2 R [v] [t]:=⟨rfl,λi v' t' hv ht=>by
 cases i with
 | zero=>cases hv;cases ht;exact h
 | succ n=>cases hv⟩
def A2.nil {α:Type}{R:V->α->Prop}:A2 R [] []:=⟨rfl,λi v t hv _=>by cases hv⟩
def WE (F:Fun K "_law_great" "_law_great" FG f fd)(T:Bl mg)(MR:L2.Mk K C fI)(mR:mg "Room" = some (.ref C))(bR:Binds K dI ["self", "lines"] [])(GRi:FnOk P w K mg base CX0 4 fI dI ["self", "lines"] (Kf C))(MT:L2.Mk K CT fT)(mT:mg "Atlas" = some (.ref CT))(bT:Binds K dT GY [])(GTi:FnOk P w K mg base (CXe P w) 10 fT dT GY (ML C CT NN)):FnOk P w K mg base (CXe P w) 12 f fd GO (Pp NN):=by
 refine F.oqE scLGreat λcdv A outer s H vs Q E hr11 h=>?_;obtain⟨rfl,q⟩:=h;have hr5:Room 5 _:=hr11.mono (by decide);have aa:sizeLine=16777216:=AM;refine Ub (P:=λb=>∃t,PSs _ b t/\t _ _ _) ?_;intro l1 l2 h1 v1 h2 v2;refine⟨_,(Af (Ay (i:=0) scLGreat.nd (BR (Aa Ej (Aa (BR (Aa (BR (Nn (nm5.map V.str) h1 v1)) (Aa (BR Ab) (Aa (BR Ab) Ab)))) (Aa (BR (Aa Av (Aa Av (Aa Av Ab)))) Ab))))) (Af (Ay (i:=1) scLGreat.nd (Iw MR GRi hr5 (by rfl) mR bR .nil Au (Aa (Ax Fh (Bh (Aa Av (Aa Av (Aa Av Ab)))) (EI (N:=["_law_sign"]) (sc:=Aq FG) (own:=["_law_sign"]) (fr:=[]) (js:=[]) Ci rfl (BQ (Bh (Nn (th5.map V.str) h2 v2))) (λ_ _ _ _=>Bm (i:=0) (show List.Nodup (["_law_sign"]:List Str) by decide +kernel)) (λ_ _ _ _=>Ct) (λ_ _ _ _=>(Ax CW (Ax CW Av (pv 0)) Av)))) Ab))) (Af (FP (i:=2) (N:=["_law_k"]) (sc:=Aq FG) (own:=["_law_k"]) (fr:=[]) (js:=[]) scLGreat.nd rfl rfl Ci rfl (Ei (by rfl) T.range (Aa Ah Ab)) (λ_ _ _ _=>Bm (i:=0) (show List.Nodup (["_law_k"]:List Str) by decide +kernel)) (λ_ _ _ _=>Ct) (λ_ _ _ _=>(BR (Aa (Ax CW (Az (Js K rfl) (Bh (Aa Av (Aa Av Ab))) (Ax Ek (pv 0) Ah) (λ_ _=>rfl)) (Az (Js K rfl) (Bh (Aa Av (Aa Av (Aa Av Ab)))) (Ax Qu (pv 0) Ah) (λ_ _=>rfl))) (Aa Ah Ab))))) (Am (AC (Iw MT GTi hr11 (by rfl) mT bT .nil Cg (Aa (pv 1) (Aa (Bh (Aa (pv 0) Ab)) (Aa (pv 2) (Aa (Bh Ab) Ab)))))))))),?_⟩;refine⟨Ba,λt1 ht1=>?_⟩;obtain⟨H1,g0,s1,e1⟩:=Bd (H:=H) (o:=.tup (nm5.map V.str)) ht1;rw[g0];refine⟨Ba,λt2 ht2=>?_⟩;obtain⟨H2,g0,s2,e2⟩:=Bd (H:=H1) (o:=.tup []) ht2;rw[g0];refine⟨Ba,λt3 ht3=>?_⟩;obtain⟨H3,g0,s3,e3⟩:=Bd (H:=H2) (o:=.tup []) ht3;rw[g0];refine⟨Ba,λt4 ht4=>?_⟩;obtain⟨H4,g0,s4,e4⟩:=Bd (H:=H3) (o:=.tup [.ref t1,.ref t2,.ref t3]) ht4;rw[g0];refine⟨Ba,λt5 ht5=>?_⟩;obtain⟨H5,g0,s5,e5⟩:=Bd (H:=H4) (o:=.tup [.str "open",.str "open",.str "open"]) ht5;rw[g0];refine⟨Ba,λt6 ht6=>?_⟩;obtain⟨H6,g0,s6,e6⟩:=Bd (H:=H5) (o:=.tup [.non,.ref t4,.ref t5]) ht6;rw[g0];have s36:=(s4.trans s5).trans s6;have rw6:RdV H6 (.ref t6) (dW W5):=.tup e6 (.cons .non (.cons (.tup ((s5.trans s6) _ _ e4) (.cons (.tup (((s2.trans s3).trans s36) _ _ e1) (PX nm5)) (.cons (.tup ((s3.trans s36) _ _ e2) .nil) (.cons (.tup (s36 _ _ e3) .nil) .nil)))) (.cons (.tup (s6 _ _ e5) (.cons (.str _) (.cons (.str _) (.cons (.str _) .nil)))) .nil)));have s06:=(s1.trans (s2.trans s3)).trans s36;clear e1 e2 e3 e4 e5 e6 s1 s2 s3 s4 s5 s6 s36;refine⟨Ba,λa1 ha1=>?_⟩;obtain⟨H7,g0,s7,e7⟩:=Bd (H:=H6) (o:=.lst [.str "place a",.str "place b",.str "place c"]) ha1;rw[g0];refine⟨Ba,λa2 ha2=>?_⟩;obtain⟨H8,g0,s8,e8⟩:=Bd (H:=H7) (o:=.lst (th5.map V.str)) ha2;rw[g0];refine⟨a2,rfl,⟨_,SqL.of e8⟩,λD hD=>?_⟩;refine Cj (n:=5) (λi ys H2=>ys=(nm5.map λn=>V.str (Ro.txt (.th n "s"))).take i/\Same H8 H2/\H2 D=some (.lst ys)) ⟨rfl,Same.new hD,Ak⟩ (λi ys H2 hi ⟨_,s2,_⟩=>by obtain⟨x,hx,_⟩:=Pa i hi;exact⟨_,.str x,SqL.of (s2 _ _ e8),by rw[A6,hx];rfl⟩) (λys H2 hh0=>by obtain⟨_,s2,_⟩:=hh0;exact⟨_,SqL.of (s2 _ _ e8),AA _⟩) ?_ ?_
 ·rintro i ys H2 y H3 hi ⟨rfl,s2,e2⟩ ⟨rfl,hy⟩;refine Cu ?_;obtain⟨x,hx,hn,hxl⟩:=Pa i hi;have hx2:y=.str x:=by have:=hy _ (SqL.of (s2 _ _ e8));rw[A6,hx]at this;(exact(Bx this).symm)
  subst hx2;have b7:(Str.ofString "thing t").length=7:=by decide +kernel
  have b2:(Str.ofString " s").length=2:=by decide +kernel
  obtain⟨hil,hn'⟩:=AK.mp hn;refine⟨_,rfl,_,_,rfl,rfl,by rw[b7];lia,_,_,rfl,rfl,by rw[CB,b7,b2];lia,_,e2,by rw[Cd];lia,?_,s2.put hD,Ak⟩;rw[CD hil,hn']
 rintro ys H9 ⟨rfl,s9,e9⟩;rw[Fp (by decide +kernel)]at e9;refine⟨a1,D,_,_,rfl,rfl,(s8.trans s9) _ _ e7,e9,by show 3+5<=sizeLine;lia,λa3 ha3=>?_⟩;have s10:Same H9 (Ac H9 a3 (.lst ([.str "place a",.str "place b",.str "place c"]++nm5.map λn=>V.str (Ro.txt (.th n "s"))))):=Same.new ha3;have e10:(Ac H9 a3 (.lst ([.str "place a",.str "place b",.str "place c"]++nm5.map λn=>V.str (Ro.txt (.th n "s"))))) a3=some (.lst ((rs5.map Ro.txt).map V.str)):=Ak;generalize (Ac H9 a3 (.lst ([.str "place a",.str "place b",.str "place c"]++nm5.map λn=>V.str (Ro.txt (.th n "s")))))=H10 at s10 e10 ⊢;intro x dx nx ndx nex;have t4:Same H10 (Ac (Ac H10 dx (.own x)) x (.ins C dx [])):=λb o e=>by rw[Aj (AL e nx),Aj (AL e ndx)];exact e
 refine⟨x,dx,a3,rs5,rfl,Ak,t4 _ _ e10,QW,by decide +kernel,λH11 kp RA=>⟨rfl,?_⟩⟩;have s11:Same H10 H11:=λb o e=>kp b o (t4 _ _ e) (AL e nx);have s611:=(((s7.trans s8).trans s9).trans s10).trans s11;refine⟨6,rfl,by decide,by decide,λD2 hD2=>?_⟩;refine Cj (n:=6) (λi ys H2=>A2 (L4 H2) ys (Ps5.take i)/\Same H11 H2/\H2 D2=some (.lst ys)) ⟨A2.nil,Same.new hD2,Ak⟩ (λi ys H2 hi _=>by show i<6;exact hi) (λys H2 _=>by show 6<=6;exact AA _) ?_ ?_
 ·rintro i ys H3 y H2 hi ⟨ad,s2,e2⟩ ⟨rfl,rfl⟩;refine Cu ?_;obtain⟨wa,wb,Dl,h3,h4,hD',hwl,l1',l2'⟩:=Zx i hi;refine⟨Ba,λb1 hb1=>?_⟩;have u1:Same H2 (Ac H2 b1 (.lst [.str "take ",.str "put "])):=Same.new hb1;have w1:(Ac H2 b1 (.lst [.str "take ",.str "put "])) b1=some (.lst (tk5.map V.str)):=Ak;generalize (Ac H2 b1 (.lst [.str "take ",.str "put "]))=Ha at u1 w1 ⊢;refine⟨_,rfl,_,_,rfl,rfl,by decide,b1,_,_,_,rfl,rfl,SqL.of w1,h3,?_⟩;refine⟨Ba,λb2 hb2=>?_⟩;have u2:Same Ha (Ac Ha b2 (.lst [.str "a",.str "b",.str "c"])):=Same.new hb2;have w2:(Ac Ha b2 (.lst [.str "a",.str "b",.str "c"])) b2=some (.lst (pn5.map V.str)):=Ak;generalize (Ac Ha b2 (.lst [.str "a",.str "b",.str "c"]))=Hb at u2 w2 ⊢;refine⟨_,rfl,_,_,rfl,rfl,⟨by decide,by decide⟩,b2,_,_,_,rfl,rfl,SqL.of w2,h4,_,_,rfl,rfl,by lia,Ba,λt ht=>?_⟩;rw[hwl];have u3:Same Hb (Ac Hb t (.tup [.str Dl.line,.int 1])):=Same.new ht;have u13:=(u1.trans u2).trans u3;have hyl:=ad.len
  have hPi:Ps5.take (i+1)=Ps5.take i++[(Dl,1)]:=by
   have h:Ps5[i]? = some (Dl,1):=by show(Ds5.map λD=>(D,(1:Int)))[i]? = _;rw[A6,hD'];rfl
   obtain⟨h1',h2'⟩:=AK.mp h;rw[CD h1',h2']
  have kp:∀c zs,(Ac Hb t (.tup [.str Dl.line,.int 1])) c=some (.tup zs)->(Ac (Ac Hb t (.tup [.str Dl.line,.int 1])) D2 (.lst (ys++[V.ref t]))) c=some (.tup zs):=λc zs e=>by rw[Aj (BJ e (u13 _ _ e2) (by intro z;cases z))];exact e
  refine⟨ys,u13 _ _ e2,by rw[hyl,Cd];lia,?_,(s2.trans u13).put hD2,Ak⟩;rw[hPi];exact A2.app (ad.mono λv p _ hp0=>by obtain⟨x,h1,h2⟩:=hp0;exact⟨x,h1,kp _ _ (u13 _ _ h2)⟩) (A2.one ⟨t,rfl,kp _ _ Ak⟩)
 rintro ys H12 ⟨ad,s12,e12⟩;rw[Fp (by decide +kernel)]at ad;dsimp only;refine⟨_,rfl,_,rfl,Ba,λlw hlw=>?_⟩;obtain⟨H13,g0,s13,e13⟩:=Bd (H:=H12) (o:=.lst [.ref t6]) hlw;rw[g0];refine⟨_,rfl,Ba,λlb hlb=>?_⟩;obtain⟨H14,g0,s14,e14⟩:=Bd (H:=H13) (o:=.lst []) hlb;rw[g0];intro z dz nz ndz nez;have t5:Same H14 (Ac (Ac H14 dz (.own z)) z (.ins CT dz [])):=λb o e=>by rw[Aj (AL e nz),Aj (AL e ndz)];exact e
 have sA:=(s13.trans s14).trans t5;have sB:=s12.trans sA;have sC:=s611.trans sB;refine⟨z,dz,x,lw,D2,lb,rs5,[W5],Ps5,[.ref t6],ys,rfl,Ak,RA.same sB,QW,(s14.trans t5) _ _ e13,.cons (sC.rd rw6) .nil,λW hW=>?_,sA _ _ e12,ad.mono λv p _ ⟨x,h1,h2⟩=>⟨x,h1,sA _ _ h2⟩,SX,t5 _ _ e14,by show 1<=60;decide,Z2,λb' H' k' hb'=>q b' H' (λc u e=>?_) hb'⟩
 ·rw[AW.mp hW];exact UI
 have e':=(s06.trans (s611.trans (s12.trans (s13.trans s14)))) _ _ e;exact k' c u (t5 _ _ e') (AL e' nz)
def cn:List Str:=["NoRoom", "NoWorld", "NoDeed", "NoLook", "NoFact", "NoChart", "NoName", "TooMany", "Cannot", "NoStory", "NoPlan", "Astray", "Hopeless", "CanBeDone", "PlayOver", "NoRows", "Trapped", "Endless", "NoMend", "NoRow", "NotYet"]
structure Kn (K:W.Frag)(mg:Str->Option Value)(G:Addr)(ad:Nat->Addr):Prop where
 mG:mg "GropeError" = some (.ref G)
 oG:PySem.W.excIn K G BK "ValueError.__new__" = true
 m:∀(k:Nat) (x:Str),cn[k]? = some x->mg x=some (.ref (ad k))
 o:∀i,i<8->PySem.W.excIn K (ad i) BK "ValueError.__new__" = true
 s:∀i,i<8->mroIn K (ad i) G=true
 ni:∀i,i<8->Gp K (ad i)
 kn:∀i,i<8->∀k,k<21->i≠k->PySem.W.kin_not K (ad i) (ad k)=true
def Su (K:W.Frag)(D C':Addr)(b:Bool):Prop:=(b=true/\D=C')\/(b=false/\Gp K D/\PySem.W.kin_not K D C'=true)
def B3 (h:X.K=K):Cw X (.builtin "isinstance") (λxs H Q=>∃(a D C':Addr) (b:Bool),xs=[.ref a,.ref C']/\H a=some (Fl a D)/\Su K D C' b/\Q (.bl b) H):=by
 subst h;intro pins s σ H xs us Q I r h;obtain⟨a,D,C',b,e,ha,hb,q⟩:=h;refine ZY pins s σ H xs us Q I r ⟨a,D,C',e,ha,?_⟩;rcases hb with⟨rfl,hb⟩ | ⟨rfl,hb⟩
 ·exact .inl ⟨hb,q⟩
 exact .inr ⟨hb.1,hb.2,q⟩
def BF {A B:Prop}{a b:Int}(h:¬a=b)(x:B):if decide (V.int a=V.int b)=true then A else B:=by rw[A8 (λz=>h (V.int.inj z))];exact Bc x
def F1 {A B:Prop}{a b:Int}(h:a=b)(x:A):if decide (V.int a=V.int b)=true then A else B:=by rw[AQ (BB V.int h)];exact AS x
inductive MX (C:Addr)(ad:Nat->Addr)(vs:List V)(H:Hp)(Q:VK)(E:XK):Prop
 | mk (i:Nat) (x:Addr) (rs:List Ro) (v:V) (W:Str) (c0:vs=[.int (i:Int),.ref x,v,.str W]) (c1:i<8) (c2:RoomAt C H x rs) (c3:Good rs) (c4:1<=(plc rs).length) (c5:Lg W) (c6:C7 H E (ad i)):MX C ad vs H Q E
abbrev IS:List Str:=["_law_way", "_law_room_here", "_law_world_here", "_law_word"]
abbrev Xw:List Str:=IS
def Ur:AF Xw IS (Aq KA):=AN
inductive Mp (C:Addr)(vs:List V)(H:Hp)(Q:VK)(E:XK):Prop
 | mk (i:Nat) (x:Addr) (rs:List Ro) (v:V) (W:Str) (c0:vs=[.int (i:Int),.ref x,v,.str W]) (c1:i<8) (c2:RoomAt C H x rs) (c3:Good rs) (c4:1<=(plc rs).length) (c5:Lg W) (c6:∀(l:Addr) (H':Hp),Same H H'->H' l=some (.lst ((List.range 22).map λk=>V.bl (decide (k=i))))->Q (.ref l) H'):Mp C vs H Q E
abbrev IR:List Str:=["_law_way", "_law_room_here", "_law_world_here", "_law_word"]
abbrev Xu:List Str:=BZ IR ["_law_told", "e"]
def scLSeen:AF Xu IR (Aq Kz):=AN
def WR {f C CH fI fC fg fk:Addr}{ad:Nat->Addr}{fd dI dC dg dk:FuncData}(F:Fun K "_law_call" "_law_call" KA f fd)(L:Cl K C)
  (MR:L2.Mk K C fI)(mR:mg "Room" = some (.ref C))(bR:Binds K dI ["self", "lines"] [])(GRx:FnOk P w K mg base (CXe P w) 4 fI dI ["self", "lines"] (MK (ad 0)))
  (MC:L2.Mk K CH fC)(mC:mg "Chart" = some (.ref CH))(bC:Binds K dC GV [])(GCx:FnOk P w K mg base (CXe P w) 2 fC dC GV (MM (ad 5)))
  (C_read_world:Ca P w K mg base (CXe P w) 3 "read_world" Kq IJ (HY C (ad 1)))(C_turns:Ca P w K mg base (CXe P w) 2 "turns" GA FQ (HS (ad 2)))(C_looked:Ca P w K mg base (CXe P w) 2 "looked" Kv IQ (HS (ad 3)))
  (C_holds:Ca P w K mg base (CXe P w) 7 "holds" KI IU (MN C (ad 4)))(b_key_of:Binds K dk ["self", "place"] [])(m_key_of:B7 K C "key_of" fk)(G_key_of:FnOk P w K mg base (CXe P w) 2 fk dk ["self", "place"] (HW C (ad 6)))(D_l_great:Df K mg "_law_great" FG GO fg dg)(G_l_great:FnOk P w K mg base (CXe P w) 12 fg dg GO (Pp (ad 7))):FnOk P w K mg base (CXe P w) 13 f fd IS (MX C ad):=by
 refine F.oqE Ur λcdv A outer s H vs Q E hr12 h=>?_
 obtain⟨i,x,rs,v,W,rfl,hi,R,g,p1,lg,q⟩:=h
 have hr2:Room 2 _:=hr12.mono (by decide)
 have hr3:Room 3 _:=hr12.mono (by decide)
 have hr5:Room 5 _:=hr12.mono (by decide)
 have hr7:Room 7 _:=hr12.mono (by decide)
 have aa:sizeLine=16777216:=AM
 have hl:=lg.len
 have b4:(Str.ofString " top").length=4:=by decide +kernel
 have b6:(Str.ofString "place ").length=6:=by decide +kernel
 refine⟨_,(Af (AH (AI A9 (pv 0) Ah (AJ _)) (Am (AC (Iw MR GRx hr5 (by rfl) mR bR .nil Cg (Aa (Bh (Aa (Ax CW Av (pv 3)) (Aa (pv 3) Ab))) Ab)))) AG) (Af (AH (AI A9 (pv 0) Ah (AJ _)) (Am (AC (AY C_read_world hr3 Cg (Aa (pv 1) (Aa (pv 3) Ab))))) AG) (Af (AH (AI A9 (pv 0) Ah (AJ _)) (Am (AC (AY C_turns hr2 Cg (Aa (pv 1) (Aa (pv 3) (Aa (pv 2) Ab)))))) AG) (Af (AH (AI A9 (pv 0) Ah (AJ _)) (Am (AC (AY C_looked hr2 Cg (Aa (pv 1) (Aa (pv 3) (Aa (pv 2) Ab)))))) AG) (Af (AH (AI A9 (pv 0) Ah (AJ _)) (Am (AC (AY C_holds hr7 Cg (Aa (pv 1) (Aa (Ax CW (pv 3) Av) (Aa (pv 2) Ab)))))) AG) (Af (AH (AI A9 (pv 0) Ah (AJ _)) (Am (AC (Iw MC GCx hr3 (by rfl) mC bC .nil Cg (Aa Ah (Aa (Bh Ab) (Aa (Bh Ab) Ab)))))) AG) (Af (AH (AI A9 (pv 0) Ah (AJ _)) (Am (AC (GJ (pv 1) L.cl m_key_of G_key_of hr2 b_key_of .nil Cg (Aa (pv 3) Ab)))) AG) (Am (AC (Vt G_l_great hr12 (by rfl) D_l_great.m D_l_great.F.kp D_l_great.b .nil Cg)))))))))),?_⟩
 match i,hi with
 | 0,_=>
  refine⟨_,rfl,rfl,_,rfl,F1 rfl ?_⟩;refine⟨_,rfl,_,_,rfl,rfl,by rw[b6];lia,_,rfl,Ba,λl hl'=>?_⟩;intro z dz nz ndz nez;have s1:Same H (Ac H l (.lst [.str (Str.ofString "place " ++ W),.str W])):=Same.new hl';have e1:(Ac H l (.lst [.str (Str.ofString "place " ++ W),.str W])) l=some (.lst [.str (Str.ofString "place " ++ W),.str W]):=Ak;have t1:Same (Ac H l (.lst [.str (Str.ofString "place " ++ W),.str W])) (Ac (Ac (Ac H l (.lst [.str (Str.ofString "place " ++ W),.str W])) dz (.own z)) z (.ins C dz [])):=λb o e=>by rw[Aj (AL e nz),Aj (AL e ndz)];exact e
  exact⟨_,l,W,_,rfl,t1 _ _ e1,lg,λb H' s' hb=>q b H' (s1.trans (t1.trans s')) hb⟩
 | 1,_=>refine⟨_,rfl,rfl,_,rfl,BF (by decide) ?_⟩;refine⟨_,rfl,rfl,_,rfl,F1 rfl ?_⟩;exact⟨_,rfl,_,rfl,x,rs,W,rfl,R,g,p1,lg,q⟩
 | 2,_=>refine⟨_,rfl,rfl,_,rfl,BF (by decide) ?_⟩;refine⟨_,rfl,rfl,_,rfl,BF (by decide) ?_⟩;refine⟨_,rfl,rfl,_,rfl,F1 rfl ?_⟩;exact⟨_,rfl,_,rfl,_,rfl,_,v,W,rfl,lg,q⟩
 | 3,_=>refine⟨_,rfl,rfl,_,rfl,BF (by decide) ?_⟩;refine⟨_,rfl,rfl,_,rfl,BF (by decide) ?_⟩;refine⟨_,rfl,rfl,_,rfl,BF (by decide) ?_⟩;refine⟨_,rfl,rfl,_,rfl,F1 rfl ?_⟩;exact⟨_,rfl,_,rfl,_,rfl,_,v,W,rfl,lg,q⟩
 | 4,_=>refine⟨_,rfl,rfl,_,rfl,BF (by decide) ?_⟩;refine⟨_,rfl,rfl,_,rfl,BF (by decide) ?_⟩;refine⟨_,rfl,rfl,_,rfl,BF (by decide) ?_⟩;refine⟨_,rfl,rfl,_,rfl,BF (by decide) ?_⟩;refine⟨_,rfl,rfl,_,rfl,F1 rfl ?_⟩;exact⟨_,rfl,_,rfl,_,_,rfl,rfl,by rw[b4];lia,_,rfl,x,rs,W,v,rfl,R,g,lg,q⟩
 | 5,_=>
  refine⟨_,rfl,rfl,_,rfl,BF (by decide) ?_⟩;refine⟨_,rfl,rfl,_,rfl,BF (by decide) ?_⟩;refine⟨_,rfl,rfl,_,rfl,BF (by decide) ?_⟩;refine⟨_,rfl,rfl,_,rfl,BF (by decide) ?_⟩;refine⟨_,rfl,rfl,_,rfl,BF (by decide) ?_⟩;refine⟨_,rfl,rfl,_,rfl,F1 rfl ?_⟩;refine⟨Ba,λl1 hl1=>?_⟩;have s1:Same H (Ac H l1 (.lst [])):=Same.new hl1;generalize (Ac H l1 (.lst []))=H1 at s1 ⊢;refine⟨Ba,λl2 hl2=>?_⟩;have s2:Same H1 (Ac H1 l2 (.lst [])):=Same.new hl2;generalize (Ac H1 l2 (.lst []))=H2 at s2 ⊢;intro z dz nz ndz nez;have t1:Same H2 (Ac (Ac H2 dz (.own z)) z (.ins CH dz [])):=λb o e=>by rw[Aj (AL e nz),Aj (AL e ndz)];exact e
  exact⟨_,_,_,rfl,λb H' s' hb=>q b H' ((s1.trans s2).trans (t1.trans s')) hb⟩
 | 6,_=>refine⟨_,rfl,rfl,_,rfl,BF (by decide) ?_⟩;refine⟨_,rfl,rfl,_,rfl,BF (by decide) ?_⟩;refine⟨_,rfl,rfl,_,rfl,BF (by decide) ?_⟩;refine⟨_,rfl,rfl,_,rfl,BF (by decide) ?_⟩;refine⟨_,rfl,rfl,_,rfl,BF (by decide) ?_⟩;refine⟨_,rfl,rfl,_,rfl,BF (by decide) ?_⟩;refine⟨_,rfl,rfl,_,rfl,F1 rfl ?_⟩;obtain⟨dx,d1,d2,o,kvs,h1,_⟩:=R.ex;exact⟨_,rfl,x,dx,_,rfl,h1,Cq d1 d2 (by decide +kernel) (by decide +kernel),_,rfl,x,rs,W,rfl,R,g,lg,q⟩
 | 7,_=>refine⟨_,rfl,rfl,_,rfl,BF (by decide) ?_⟩;refine⟨_,rfl,rfl,_,rfl,BF (by decide) ?_⟩;refine⟨_,rfl,rfl,_,rfl,BF (by decide) ?_⟩;refine⟨_,rfl,rfl,_,rfl,BF (by decide) ?_⟩;refine⟨_,rfl,rfl,_,rfl,BF (by decide) ?_⟩;refine⟨_,rfl,rfl,_,rfl,BF (by decide) ?_⟩;refine⟨_,rfl,rfl,_,rfl,BF (by decide) ?_⟩;exact⟨rfl,q⟩
 | n+8,h=>exact absurd h (by lia)
def VS {f C G:Addr}{ad:Nat->Addr}{fd:FuncData}(F:Fun K "_law_seen" "_law_seen" Kz f fd)(T:Bl mg)(KN:Kn K mg G ad)(C_l_call:Ca P w K mg base (CXe P w) 13 "_law_call" KA IS (MX C ad)):FnOk P w K mg base CX0 14 f fd IR (Mp C):=by
 refine F.oq scLSeen λcdv A outer s H vs Q E hr13 h=>?_;obtain⟨i,x,rs,v,W,rfl,hi,R,g,p1,lg,q⟩:=h;have aa:sizeLine=16777216:=AM;refine⟨_,(Af (Ay (i:=4) scLSeen.nd (Bh Ab)) (Af (Vc (G:=G) (nG := "ValueError.__new__") (j:=5) rfl rfl rfl KN.oG (by rfl) KN.mG scLSeen.nd rfl rfl (λpn xe E' hx=>(Am (Cs (AY C_l_call hr13 hx (Aa (pv 0) (Aa (pv 1) (Aa (pv 2) (Aa (pv 3) Ab)))))))) (λa=>(Af (Ay (i:=4) scLSeen.nd (Bh (Aa (AE (B3 (K:=K) rfl) (by rfl) T.isi BY (Aa (pv 5) (Aa (A1 (v:=.ref (ad 0)) (by rfl) (KN.m 0 _ rfl) rfl) Ab))) (Aa (AE (B3 (K:=K) rfl) (by rfl) T.isi BY (Aa (pv 5) (Aa (A1 (v:=.ref (ad 1)) (by rfl) (KN.m 1 _ rfl) rfl) Ab))) (Aa (AE (B3 (K:=K) rfl) (by rfl) T.isi BY (Aa (pv 5) (Aa (A1 (v:=.ref (ad 2)) (by rfl) (KN.m 2 _ rfl) rfl) Ab))) (Aa (AE (B3 (K:=K) rfl) (by rfl) T.isi BY (Aa (pv 5) (Aa (A1 (v:=.ref (ad 3)) (by rfl) (KN.m 3 _ rfl) rfl) Ab))) Ab)))))) (Af (Ay (i:=4) scLSeen.nd (Ax Fh (pv 4) (Bh (Aa (AE (B3 (K:=K) rfl) (by rfl) T.isi BY (Aa (pv 5) (Aa (A1 (v:=.ref (ad 4)) (by rfl) (KN.m 4 _ rfl) rfl) Ab))) (Aa (AE (B3 (K:=K) rfl) (by rfl) T.isi BY (Aa (pv 5) (Aa (A1 (v:=.ref (ad 5)) (by rfl) (KN.m 5 _ rfl) rfl) Ab))) (Aa (AE (B3 (K:=K) rfl) (by rfl) T.isi BY (Aa (pv 5) (Aa (A1 (v:=.ref (ad 6)) (by rfl) (KN.m 6 _ rfl) rfl) Ab))) (Aa (AE (B3 (K:=K) rfl) (by rfl) T.isi BY (Aa (pv 5) (Aa (A1 (v:=.ref (ad 7)) (by rfl) (KN.m 7 _ rfl) rfl) Ab))) Ab))))))) (Af (Ay (i:=4) scLSeen.nd (Ax Fh (pv 4) (Bh (Aa (AE (B3 (K:=K) rfl) (by rfl) T.isi BY (Aa (pv 5) (Aa (A1 (v:=.ref (ad 8)) (by rfl) (KN.m 8 _ rfl) rfl) Ab))) (Aa (AE (B3 (K:=K) rfl) (by rfl) T.isi BY (Aa (pv 5) (Aa (A1 (v:=.ref (ad 9)) (by rfl) (KN.m 9 _ rfl) rfl) Ab))) (Aa (AE (B3 (K:=K) rfl) (by rfl) T.isi BY (Aa (pv 5) (Aa (A1 (v:=.ref (ad 10)) (by rfl) (KN.m 10 _ rfl) rfl) Ab))) (Aa (AE (B3 (K:=K) rfl) (by rfl) T.isi BY (Aa (pv 5) (Aa (A1 (v:=.ref (ad 11)) (by rfl) (KN.m 11 _ rfl) rfl) Ab))) Ab))))))) (Af (Ay (i:=4) scLSeen.nd (Ax Fh (pv 4) (Bh (Aa (AE (B3 (K:=K) rfl) (by rfl) T.isi BY (Aa (pv 5) (Aa (A1 (v:=.ref (ad 12)) (by rfl) (KN.m 12 _ rfl) rfl) Ab))) (Aa (AE (B3 (K:=K) rfl) (by rfl) T.isi BY (Aa (pv 5) (Aa (A1 (v:=.ref (ad 13)) (by rfl) (KN.m 13 _ rfl) rfl) Ab))) (Aa (AE (B3 (K:=K) rfl) (by rfl) T.isi BY (Aa (pv 5) (Aa (A1 (v:=.ref (ad 14)) (by rfl) (KN.m 14 _ rfl) rfl) Ab))) Ab)))))) (Af (Ay (i:=4) scLSeen.nd (Ax Fh (pv 4) (Bh (Aa (AE (B3 (K:=K) rfl) (by rfl) T.isi BY (Aa (pv 5) (Aa (A1 (v:=.ref (ad 15)) (by rfl) (KN.m 15 _ rfl) rfl) Ab))) (Aa (AE (B3 (K:=K) rfl) (by rfl) T.isi BY (Aa (pv 5) (Aa (A1 (v:=.ref (ad 16)) (by rfl) (KN.m 16 _ rfl) rfl) Ab))) (Aa (AE (B3 (K:=K) rfl) (by rfl) T.isi BY (Aa (pv 5) (Aa (A1 (v:=.ref (ad 17)) (by rfl) (KN.m 17 _ rfl) rfl) Ab))) (Aa (AE (B3 (K:=K) rfl) (by rfl) T.isi BY (Aa (pv 5) (Aa (A1 (v:=.ref (ad 18)) (by rfl) (KN.m 18 _ rfl) rfl) Ab))) Ab))))))) (Am (Ay (i:=4) scLSeen.nd (Ax Fh (pv 4) (Bh (Aa (AE (B3 (K:=K) rfl) (by rfl) T.isi BY (Aa (pv 5) (Aa (A1 (v:=.ref (ad 19)) (by rfl) (KN.m 19 _ rfl) rfl) Ab))) (Aa (AE (B3 (K:=K) rfl) (by rfl) T.isi BY (Aa (pv 5) (Aa (A1 (v:=.ref (ad 20)) (by rfl) (KN.m 20 _ rfl) rfl) Ab))) (Aa (Nl (AE (ZV (C:=ad i) (KN.o i hi) SL) (by rfl) T.isi BY (Aa (pv 5) (Aa (Vu (v:=.ty "ValueError") (by rfl) T.ve ZZ rfl) Ab)))) Ab)))))))))))))) (Am (AC (pv 4))))),?_⟩;refine⟨Ba,λl0 hl0=>?_⟩;have s0:Same H (Ac H l0 (.lst [])):=Same.new hl0;generalize (Ac H l0 (.lst []))=H0 at s0 ⊢;refine⟨_,rfl,_,rfl,_,rfl,_,rfl,i,x,rs,v,W,rfl,hi,R.same s0,g,p1,lg,λa H2 s2 ha=>⟨a,ad i,_,rfl,rfl,KN.o i hi,KN.s i hi,λ_=>?_⟩⟩;obtain⟨H3,g0,sa,ea⟩:=Bd (H:=H2) (o:=Fl a (ad i)) ha;rw[g0]
 have ib:∀(k:Nat),k<21->Su K (ad i) (ad k) (decide (k=i)):=λk hk=>by
  by_cases hki:k=i
  ·exact .inl ⟨AQ hki,by rw[hki]⟩
  exact .inr ⟨A8 hki,KN.ni i hi,KN.kn i hi k hk (λz=>hki z.symm)⟩
 refine⟨_,rfl,a,ad i,ad 0,decide (0=i),rfl,ea,ib 0 (by decide),_,rfl,a,ad i,ad 1,decide (1=i),rfl,ea,ib 1 (by decide),_,rfl,a,ad i,ad 2,decide (2=i),rfl,ea,ib 2 (by decide),_,rfl,a,ad i,ad 3,decide (3=i),rfl,ea,ib 3 (by decide),Ba,λc0 hc0=>?_⟩;obtain⟨Hb1,g0,sc0,ec0⟩:=Bd (H:=H3) (o:=.lst [V.bl (decide (0=i)),V.bl (decide (1=i)),V.bl (decide (2=i)),V.bl (decide (3=i))]) hc0;rw[g0];have s3_0:=sa.trans sc0;have ea1:=sc0 _ _ ea;have hl1:=ec0;refine⟨_,rfl,_,rfl,a,ad i,ad 4,decide (4=i),rfl,ea1,ib 4 (by decide),_,rfl,a,ad i,ad 5,decide (5=i),rfl,ea1,ib 5 (by decide),_,rfl,a,ad i,ad 6,decide (6=i),rfl,ea1,ib 6 (by decide),_,rfl,a,ad i,ad 7,decide (7=i),rfl,ea1,ib 7 (by decide),Ba,λc1 hc1=>?_⟩;obtain⟨Hc1,g0,sc1,ec1⟩:=Bd (H:=Hb1) (o:=.lst [V.bl (decide (4=i)),V.bl (decide (5=i)),V.bl (decide (6=i)),V.bl (decide (7=i))]) hc1;rw[g0];refine⟨c0,c1,_,_,rfl,rfl,sc1 _ _ hl1,ec1,by show _<=sizeLine;simp only[AX,Cp,Gd];lia,λg1 hg1=>?_⟩;obtain⟨Hb2,g0,sg1,eg1⟩:=Bd (H:=Hc1) (o:=.lst ([V.bl (decide (0=i)),V.bl (decide (1=i)),V.bl (decide (2=i)),V.bl (decide (3=i))]++[V.bl (decide (4=i)),V.bl (decide (5=i)),V.bl (decide (6=i)),V.bl (decide (7=i))])) hg1;rw[g0];have s3_1:=(s3_0.trans sc1).trans sg1;have ea2:=(sc1.trans sg1) _ _ ea1;have hl2:=eg1;refine⟨_,rfl,_,rfl,a,ad i,ad 8,decide (8=i),rfl,ea2,ib 8 (by decide),_,rfl,a,ad i,ad 9,decide (9=i),rfl,ea2,ib 9 (by decide),_,rfl,a,ad i,ad 10,decide (10=i),rfl,ea2,ib 10 (by decide),_,rfl,a,ad i,ad 11,decide (11=i),rfl,ea2,ib 11 (by decide),Ba,λc2 hc2=>?_⟩;obtain⟨Hc2,g0,sc2,ec2⟩:=Bd (H:=Hb2) (o:=.lst [V.bl (decide (8=i)),V.bl (decide (9=i)),V.bl (decide (10=i)),V.bl (decide (11=i))]) hc2;rw[g0];refine⟨g1,c2,_,_,rfl,rfl,sc2 _ _ hl2,ec2,by show _<=sizeLine;simp only[AX,Cp,Gd];lia,λg2 hg2=>?_⟩;obtain⟨Hb3,g0,sg2,eg2⟩:=Bd (H:=Hc2) (o:=.lst (([V.bl (decide (0=i)),V.bl (decide (1=i)),V.bl (decide (2=i)),V.bl (decide (3=i))]++[V.bl (decide (4=i)),V.bl (decide (5=i)),V.bl (decide (6=i)),V.bl (decide (7=i))])++[V.bl (decide (8=i)),V.bl (decide (9=i)),V.bl (decide (10=i)),V.bl (decide (11=i))])) hg2;rw[g0];have s3_2:=(s3_1.trans sc2).trans sg2;have ea3:=(sc2.trans sg2) _ _ ea2;have hl3:=eg2;refine⟨_,rfl,_,rfl,a,ad i,ad 12,decide (12=i),rfl,ea3,ib 12 (by decide),_,rfl,a,ad i,ad 13,decide (13=i),rfl,ea3,ib 13 (by decide),_,rfl,a,ad i,ad 14,decide (14=i),rfl,ea3,ib 14 (by decide),Ba,λc3 hc3=>?_⟩;obtain⟨Hc3,g0,sc3,ec3⟩:=Bd (H:=Hb3) (o:=.lst [V.bl (decide (12=i)),V.bl (decide (13=i)),V.bl (decide (14=i))]) hc3;rw[g0];refine⟨g2,c3,_,_,rfl,rfl,sc3 _ _ hl3,ec3,by show _<=sizeLine;simp only[AX,Cp,Gd];lia,λg3 hg3=>?_⟩;obtain⟨Hb4,g0,sg3,eg3⟩:=Bd (H:=Hc3) (o:=.lst ((([V.bl (decide (0=i)),V.bl (decide (1=i)),V.bl (decide (2=i)),V.bl (decide (3=i))]++[V.bl (decide (4=i)),V.bl (decide (5=i)),V.bl (decide (6=i)),V.bl (decide (7=i))])++[V.bl (decide (8=i)),V.bl (decide (9=i)),V.bl (decide (10=i)),V.bl (decide (11=i))])++[V.bl (decide (12=i)),V.bl (decide (13=i)),V.bl (decide (14=i))])) hg3;rw[g0];have s3_3:=(s3_2.trans sc3).trans sg3;have ea4:=(sc3.trans sg3) _ _ ea3;have hl4:=eg3;refine⟨_,rfl,_,rfl,a,ad i,ad 15,decide (15=i),rfl,ea4,ib 15 (by decide),_,rfl,a,ad i,ad 16,decide (16=i),rfl,ea4,ib 16 (by decide),_,rfl,a,ad i,ad 17,decide (17=i),rfl,ea4,ib 17 (by decide),_,rfl,a,ad i,ad 18,decide (18=i),rfl,ea4,ib 18 (by decide),Ba,λc4 hc4=>?_⟩;obtain⟨Hc4,g0,sc4,ec4⟩:=Bd (H:=Hb4) (o:=.lst [V.bl (decide (15=i)),V.bl (decide (16=i)),V.bl (decide (17=i)),V.bl (decide (18=i))]) hc4;rw[g0];refine⟨g3,c4,_,_,rfl,rfl,sc4 _ _ hl4,ec4,by show _<=sizeLine;simp only[AX,Cp,Gd];lia,λg4 hg4=>?_⟩;obtain⟨Hb5,g0,sg4,eg4⟩:=Bd (H:=Hc4) (o:=.lst (((([V.bl (decide (0=i)),V.bl (decide (1=i)),V.bl (decide (2=i)),V.bl (decide (3=i))]++[V.bl (decide (4=i)),V.bl (decide (5=i)),V.bl (decide (6=i)),V.bl (decide (7=i))])++[V.bl (decide (8=i)),V.bl (decide (9=i)),V.bl (decide (10=i)),V.bl (decide (11=i))])++[V.bl (decide (12=i)),V.bl (decide (13=i)),V.bl (decide (14=i))])++[V.bl (decide (15=i)),V.bl (decide (16=i)),V.bl (decide (17=i)),V.bl (decide (18=i))])) hg4;rw[g0];have s3_4:=(s3_3.trans sc4).trans sg4;have ea5:=(sc4.trans sg4) _ _ ea4;have hl5:=eg4;refine⟨_,rfl,_,rfl,a,ad i,ad 19,decide (19=i),rfl,ea5,ib 19 (by decide),_,rfl,a,ad i,ad 20,decide (20=i),rfl,ea5,ib 20 (by decide),_,rfl,a,rfl,ea5,_,rfl,Ba,λc5 hc5=>?_⟩;obtain⟨Hc5,g0,sc5,ec5⟩:=Bd (H:=Hb5) (o:=.lst [V.bl (decide (19=i)),V.bl (decide (20=i)),V.bl (!true)]) hc5;rw[g0];refine⟨g4,c5,_,_,rfl,rfl,sc5 _ _ hl5,ec5,by show _<=sizeLine;simp only[AX,Cp,Gd];lia,λg5 hg5=>?_⟩;obtain⟨Hb6,g0,sg5,eg5⟩:=Bd (H:=Hc5) (o:=.lst ((((([V.bl (decide (0=i)),V.bl (decide (1=i)),V.bl (decide (2=i)),V.bl (decide (3=i))]++[V.bl (decide (4=i)),V.bl (decide (5=i)),V.bl (decide (6=i)),V.bl (decide (7=i))])++[V.bl (decide (8=i)),V.bl (decide (9=i)),V.bl (decide (10=i)),V.bl (decide (11=i))])++[V.bl (decide (12=i)),V.bl (decide (13=i)),V.bl (decide (14=i))])++[V.bl (decide (15=i)),V.bl (decide (16=i)),V.bl (decide (17=i)),V.bl (decide (18=i))])++[V.bl (decide (19=i)),V.bl (decide (20=i)),V.bl (!true)])) hg5;rw[g0];have s3_5:=(s3_4.trans sc5).trans sg5;have ea6:=(sc5.trans sg5) _ _ ea5;have hl6:=eg5;refine⟨_,rfl,q g5 Hb6 ((s0.trans s2).trans s3_5) ?_⟩;rw[hl6];have h21:decide (21=i)=false:=A8 (by lia);show some (HO.lst [V.bl (decide (0=i)),V.bl (decide (1=i)),V.bl (decide (2=i)),V.bl (decide (3=i)),V.bl (decide (4=i)),V.bl (decide (5=i)),V.bl (decide (6=i)),V.bl (decide (7=i)),V.bl (decide (8=i)),V.bl (decide (9=i)),V.bl (decide (10=i)),V.bl (decide (11=i)),V.bl (decide (12=i)),V.bl (decide (13=i)),V.bl (decide (14=i)),V.bl (decide (15=i)),V.bl (decide (16=i)),V.bl (decide (17=i)),V.bl (decide (18=i)),V.bl (decide (19=i)),V.bl (decide (20=i)),V.bl (!true)])=some (HO.lst [V.bl (decide (0=i)),V.bl (decide (1=i)),V.bl (decide (2=i)),V.bl (decide (3=i)),V.bl (decide (4=i)),V.bl (decide (5=i)),V.bl (decide (6=i)),V.bl (decide (7=i)),V.bl (decide (8=i)),V.bl (decide (9=i)),V.bl (decide (10=i)),V.bl (decide (11=i)),V.bl (decide (12=i)),V.bl (decide (13=i)),V.bl (decide (14=i)),V.bl (decide (15=i)),V.bl (decide (16=i)),V.bl (decide (17=i)),V.bl (decide (18=i)),V.bl (decide (19=i)),V.bl (decide (20=i)),V.bl (decide (21=i))]);rw[h21];rfl
def Yr (h0:9<=i)(h1:i<=28):Lg (Txt.mul (Str.ofString "w") i):=by
 obtain⟨n,rfl⟩:∃n:Nat,(n:Int)=i:=⟨i.toNat,D0 (by lia)⟩;refine⟨n,by lia,by lia,?_⟩;match n,(show 9<=n by lia),(show n<=28 by lia)with
 | 9,_,_ | 10,_,_ | 11,_,_ | 12,_,_ | 13,_,_ | 14,_,_ | 15,_,_ | 16,_,_ | 17,_,_ | 18,_,_ | 19,_,_ | 20,_,_ | 21,_,_ | 22,_,_ | 23,_,_ | 24,_,_ | 25,_,_ | 26,_,_ | 27,_,_ | 28,_,_=>decide +kernel
def PZ {P:Program}{w:World}{H:Hp}{h:Heap}(ok:HOk P w H h){a:Addr}{xs:List Bool}(e:H a=some (.lst (xs.map V.bl))):∃as,Reads h (.ref a) (.list (xs.map PyData.bool)) as:=by
 obtain⟨z,its,n,rv,ho⟩:=ok _ _ e
 have all:∀{bs:List Bool}{us:List Value},Vals (bs.map V.bl) us->∃as,ReadsAll h us (bs.map PyData.bool) as:=by
  intro bs;induction bs with
  | nil=>intro us r;cases r;exact⟨_,.nil⟩
  | cons b bs ih=>
   intro us r;cases r with
   | cons r1 r2=>cases r1;obtain⟨as,q⟩:=ih r2;exact⟨_,.cons (.bool b) q⟩
 obtain⟨as,ra⟩:=all rv;exact⟨_,.list ho rfl rfl (by simpa using ra)⟩
def Vz (hu:X.A.units+64<cLine):By X (compareOp .NotEq) (λx y H Q=>∃(a b:Addr) (xs ys:List Bool),x=.ref a/\y=.ref b/\H a=some (.lst (xs.map V.bl))/\H b=some (.lst (ys.map V.bl))/\shaped (.list (xs.map PyData.bool))=true/\shaped (.list (ys.map PyData.bool))=true/\Q (.bl (!PyData.eqv (.list (xs.map PyData.bool)) (.list (ys.map PyData.bool)))) H):=by intro pins s σ H x y v u Q I rx ry h;obtain⟨a,b,xs,ys,rfl,rfl,ha,hb,h1,h2,q⟩:=h;cases rx;cases ry;obtain⟨as,ra⟩:=PZ I.hok ha;obtain⟨bs,rb⟩:=PZ I.hok hb;exact PySem.SeqAt.compareNe_shaped ra rb h1 h2 hu ⟨.bl _,H,I,rfl,q⟩
def Zo:∀xs:List Bool,PyData.eqv (.list (xs.map PyData.bool)) (.list (xs.map PyData.bool))=true:=λxs=>by
 rw[PyData.eqv];induction xs with
 | nil=>simp[PyData.eqvAll]
 | cons b r ih=>rw[Bj,PyData.eqvAll,ih];cases b <;> simp[PyData.eqv]
def Pw (xs:List Bool):shaped (.list (xs.map PyData.bool))=true:=by
 have l1:PyData.canLayAll0 (xs.map PyData.bool)=true:=He λb _=>by rw[PyData.canLay0]
 have d1:=Le (g:=PyData.bool) (n:=0) (xs:=xs) λb _=>by rw[PyData.depth];exact AA _
 refine M3 ?_ ?_
 ·rw[PyData.canLay0];exact l1
 rw[PyData.depth];lia
def Wo (F:Fun K "law" "law" FF f fd)(T:Bl mg)(MR:L2.Mk K C fI)(mR:mg "Room" = some (.ref C))(bR:Binds K dI ["self", "lines"] [])(GRi:FnOk P w K mg base CX0 4 fI dI ["self", "lines"] (Kf C))(C_l_room:Ca P w K mg base CX0 3 "_law_room" E4 Nq (Ms K))(C_l_world:Ca P w K mg base CX0 2 "_law_world" Gz Np (Mi K))(C_l_pick:Ca P w K mg base CX0 1 "_law_pick" E7 Cz (Gu K))(C_l_seen:Ca P w K mg base CX0 14 "_law_seen" Kz IR (Mp C)):FnOk P w K mg base CX0 15 f fd Nr (HX K):=by
 refine F.oq scLaw λcdv A outer s H vs Q E hr14 h=>?_;obtain⟨a,ns,rfl,hS,hn,q⟩:=h;have hr1:Room 1 _:=hr14.mono (by decide);have hr2:Room 2 _:=hr14.mono (by decide);have hr3:Room 3 _:=hr14.mono (by decide);have hr5:Room 5 _:=hr14.mono (by decide);have ae:=hr14.units;have hu:=Dw hr14;have aa:sizeLine=16777216:=AM;refine⟨_,(Af (Ay (i:=1) scLaw.nd (AY C_l_room hr3 Au (Aa (pv 0) (Aa Ah (Aa Ah Ab))))) (Af (Ay (i:=2) scLaw.nd (Iw MR GRi hr5 (by rfl) mR bR .nil Au (Aa (Dq N5 (by rfl) T.list Hj (Aa (CJ hu (pv 1) Av (λ_ _=>rfl)) Ab)) Ab))) (Af (Ay (i:=3) scLaw.nd (AY C_l_world hr2 Au (Aa (pv 0) (Aa Ah (Aa (pv 1) Ab))))) (Af (Ay (i:=4) scLaw.nd (Ax Qs Av (Ax Bv Ah (AY C_l_pick hr1 Au (Aa (pv 0) (Aa Ah (Aa Ah Ab))))))) (Af (CI Dj rfl (Ei (by rfl) T.range (Aa Ah Ab)) (Qh (i:=5) scLaw.nd rfl (EZ rfl)) (Am (AH (AI (Vz ae) (AY C_l_seen hr14 Au (Aa (pv 5) (Aa (pv 2) (Aa (pv 3) (Aa (pv 4) Ab))))) (EI (N:=["_law_k", "_law_way"]) (sc:=Aq FF) (own:=["_law_k"]) (fr:=["_law_way"]) (js:=[5]) Ci rfl (Ei (by rfl) T.range (Aa Ah Ab)) (λ_ _ _ _=>Bm (i:=0) (show List.Nodup (["_law_k", "_law_way"]:List Str) by decide +kernel)) (λ_ _ _ _=>Ct) (λ_ _ _ _=>(CV A9 (pv 0) (pv 1) (AJ _)))) (AJ _)) (Am (AC EJ)) AG))) (Am (AC EJ))))))),?_⟩;refine⟨_,rfl,a,ns,2,2,rfl,hS,hn,by decide,by decide,by decide,by decide,λdr rs H2 s2 R hpl htl hrl=>?_⟩;have g:=R.good;obtain⟨kvs,L3,pp,pt,d1,d2,d3,D,k1,k2,k3,k4,k5,k6,k7,g1,g2,g3,g4,g5,g6,g7⟩:=R.ex;refine⟨_,rfl,dr,_,rfl,CN k1 k7,D,_,rfl,.inl (SqL.of g6),λl hl=>?_⟩;obtain⟨H3,g0,s3,e3⟩:=Bd (H:=H2) (o:=.lst ((rs.map Ro.txt).map V.str)) hl;rw[g0];intro x dx nx ndx nex;have s4:Same H3 (Ac (Ac H3 dx (.own x)) x (.ins C dx [])):=λb o e=>by rw[Aj (AL e nx),Aj (AL e ndx)];exact e
 refine⟨x,dx,l,rs,rfl,Ak,s4 _ _ e3,g,hrl,λH5 kp RA=>⟨rfl,?_⟩⟩;have s5:Same H3 H5:=λb o e=>kp b o (s4 _ _ e) (AL e nx);have s25:=s3.trans s5;have R5:=R.same s25;have hS5:=(s2.trans s25).seq hS;have hpn:1<=(plc rs).length:=by lia
 refine⟨_,rfl,_,rfl,a,ns,_,dr,rs,rfl,hS5,hn,by decide,by decide,R5,hpn,λv0 W0 H6 s6 r6 z6 w6=>?_⟩;refine⟨_,rfl,a,ns,_,_,rfl,s6.seq hS5,hn,by decide,by decide,by decide,λj j0 j1=>?_⟩;refine⟨_,_,rfl,rfl,_,_,rfl,rfl,by lia,by lia,by decide +kernel,?_⟩;have lg:Lg (Txt.mul (Str.ofString "w") (9+j)):=Yr (by lia) (by lia);generalize Txt.mul (Str.ofString "w") (9+j)=W at lg;refine⟨8,rfl,by decide,by decide,Hh (n:=8) (λi σ H8=>∃v5:Option V,σ = [some (.ref a),some (.ref dr),some (.ref x),some v0,some (.str W),v5]/\Same H6 H8) ⟨none,rfl,Same.refl _⟩ ?_ ?_⟩
 ·rintro i σ H8 hi ⟨v5,rfl,s8⟩;have s68:=s6.trans s8;refine⟨_,rfl,_,rfl,_,rfl,_,rfl,i,x,rs,v0,W,by rw[Hx];rfl,hi,RA.same s68,g,hpn,lg,λlt H9 s9 e9=>?_⟩;refine⟨22,rfl,by decide,by decide,λD' hD'=>?_⟩;refine Cj (n:=22) (λk ys H10=>ys=(List.range k).map (λk=>V.bl (decide (k=i)))/\Same H9 H10/\H10 D'=some (.lst ys)) ⟨rfl,Same.new hD',Ak⟩ (λk _ _ hk _=>by show k<22;exact hk) (λ_ _ _=>by show 22<=22;exact AA _) ?_ ?_
  ·rintro k ys H11 y H10 hk ⟨rfl,s10,e10⟩ ⟨rfl,rfl⟩;refine Cu ?_;refine⟨_,rfl,_,rfl,rfl,_,e10,by rw[Ar,Hy];lia,?_,s10.put hD',Ak⟩;rw[range_succ,B5]
   have:decide (V.int (0+(k:Int))=V.int (0+(i:Int)))=decide (k=i):=by
    by_cases h:k=i
    ·rw[AQ h,AQ (by rw[h])]
    rw[A8 h,A8 (λz=>h (by have:=V.int.inj z;lia))]
   rw[this];rfl
  rintro ys H10 ⟨rfl,s10,e10⟩;have hm:(List.range 22).map (λk=>V.bl (decide (k=i)))=((List.range 22).map λk=>decide (k=i)).map V.bl:=by rw[Dk];rfl
  rw[hm]at e9 e10;refine⟨lt,D',_,_,rfl,rfl,s10 _ _ e9,e10,Pw _,Pw _,_,rfl,?_⟩;rw[Zo];refine Bc ?_;exact⟨_,rfl,(s8.trans s9).trans s10⟩
 rintro σ H8 ⟨v5,rfl,s8⟩;exact q _
abbrev JE (l:List Addr)(i:Nat):Addr:=l.getD i 0
def Nz (K:W.Frag)(D:Addr):Bool:=decide (PySem.W.findIn K (.ref D) "__getattribute__" = some (some (.builtin "BaseException.__getattribute__"))) && decide (PySem.W.findIn K (.ref D) "__getattr__" = some none) && decide (PySem.W.subIn K (.ref D) (.type "BaseException")=some true) && decide (PySem.W.findIn K (.ref D) "__class__" = some (some (.builtin "object.__class__"))) && decide (PySem.W.specialIn K (.builtin "object.__class__") "__get__" = some (some (.builtin "getset_descriptor.__get__"))) && decide (PySem.W.takesIn K (.builtin "object.__class__")=some true) && decide (PySem.W.mroIn K D (.type "object")=some true) && (PySem.W.clsIn K D).isSome
def W2 (h:Nz K D=true):Gp K D:=by unfold Nz at h;simp only[Ce,Fq]at h;obtain⟨⟨⟨⟨⟨⟨⟨h1,h2⟩,h3⟩,h4⟩,h5⟩,h6⟩,h7⟩,h8⟩:=h;exact⟨h1,h2,h3,h4,h5,h6,h7,h8⟩
def NJ (K:W.Frag)(l:List Addr):Bool:=(List.range 8).all λi=>Nz K (JE l i) && (List.range 21).all λk=>decide (i=k) || PySem.W.kin_not K (JE l i) (JE l k)
def Yz (mG:mg "GropeError" = some (.ref G))(oG:PySem.W.excIn K G BK "ValueError.__new__" = true)
  (m0:mg "NoRoom" = some (.ref x0))(m1:mg "NoWorld" = some (.ref x1))(m2:mg "NoDeed" = some (.ref x2))(m3:mg "NoLook" = some (.ref x3))(m4:mg "NoFact" = some (.ref x4))(m5:mg "NoChart" = some (.ref x5))(m6:mg "NoName" = some (.ref x6))(m7:mg "TooMany" = some (.ref x7))(m8:mg "Cannot" = some (.ref x8))(m9:mg "NoStory" = some (.ref x9))(m10:mg "NoPlan" = some (.ref x10))(m11:mg "Astray" = some (.ref x11))(m12:mg "Hopeless" = some (.ref x12))(m13:mg "CanBeDone" = some (.ref x13))(m14:mg "PlayOver" = some (.ref x14))(m15:mg "NoRows" = some (.ref x15))(m16:mg "Trapped" = some (.ref x16))(m17:mg "Endless" = some (.ref x17))(m18:mg "NoMend" = some (.ref x18))(m19:mg "NoRow" = some (.ref x19))(m20:mg "NotYet" = some (.ref x20))
  (o0:PySem.W.excIn K x0 BK "ValueError.__new__" = true)(s0:mroIn K x0 G=true)(o1:PySem.W.excIn K x1 BK "ValueError.__new__" = true)(s1:mroIn K x1 G=true)(o2:PySem.W.excIn K x2 BK "ValueError.__new__" = true)(s2:mroIn K x2 G=true)(o3:PySem.W.excIn K x3 BK "ValueError.__new__" = true)(s3:mroIn K x3 G=true)(o4:PySem.W.excIn K x4 BK "ValueError.__new__" = true)(s4:mroIn K x4 G=true)(o5:PySem.W.excIn K x5 BK "ValueError.__new__" = true)(s5:mroIn K x5 G=true)(o6:PySem.W.excIn K x6 BK "ValueError.__new__" = true)(s6:mroIn K x6 G=true)(o7:PySem.W.excIn K x7 BK "ValueError.__new__" = true)(s7:mroIn K x7 G=true)(hB:NJ K [x0,x1,x2,x3,x4,x5,x6,x7,x8,x9,x10,x11,x12,x13,x14,x15,x16,x17,x18,x19,x20]=true):Kn K mg G (JE [x0,x1,x2,x3,x4,x5,x6,x7,x8,x9,x10,x11,x12,x13,x14,x15,x16,x17,x18,x19,x20]):=by
 unfold NJ at hB
 have hB':=λi (hi:i<8)=>(Ce _ _).mp (DW.mp hB i (Gc.mpr hi))
 refine⟨mG,oG,λk x h=>?_,λi hi=>?_,λi hi=>?_,λi hi=>W2 (hB' i hi).1,λi hi k hk hik=>?_⟩
 ·match k,h with
  | 0,h=>cases h;exact m0
  | 1,h=>cases h;exact m1
  | 2,h=>cases h;exact m2
  | 3,h=>cases h;exact m3
  | 4,h=>cases h;exact m4
  | 5,h=>cases h;exact m5
  | 6,h=>cases h;exact m6
  | 7,h=>cases h;exact m7
  | 8,h=>cases h;exact m8
  | 9,h=>cases h;exact m9
  | 10,h=>cases h;exact m10
  | 11,h=>cases h;exact m11
  | 12,h=>cases h;exact m12
  | 13,h=>cases h;exact m13
  | 14,h=>cases h;exact m14
  | 15,h=>cases h;exact m15
  | 16,h=>cases h;exact m16
  | 17,h=>cases h;exact m17
  | 18,h=>cases h;exact m18
  | 19,h=>cases h;exact m19
  | 20,h=>cases h;exact m20
  | n+21,h=>cases h
 ·match i,hi with
  | 0,_=>exact o0
  | 1,_=>exact o1
  | 2,_=>exact o2
  | 3,_=>exact o3
  | 4,_=>exact o4
  | 5,_=>exact o5
  | 6,_=>exact o6
  | 7,_=>exact o7
  | n+8,h=>exact absurd h (by lia)
 ·match i,hi with
  | 0,_=>exact s0
  | 1,_=>exact s1
  | 2,_=>exact s2
  | 3,_=>exact s3
  | 4,_=>exact s4
  | 5,_=>exact s5
  | 6,_=>exact s6
  | 7,_=>exact s7
  | n+8,h=>exact absurd h (by lia)
 have:=DW.mp (hB' i hi).2 k (Gc.mpr hk)
 rw[Oi]at this
 rcases this with z | z
 ·exact absurd (Bg z) hik
 exact z
end
end K22
namespace K22
open PySem L2 Tx Rk PyProof.Rows PySem.SeqAt
theorem Yn {P:List Value->Prop}(h:P []):∀us:List Value,us.length=0->P us
 | [],_=>h
theorem Dv {P:List Value->Prop}(h:∀a0:Value,P [a0]):∀us:List Value,us.length=1->P us
 | [a0],_=>h a0
theorem CL {P:List Value->Prop}(h:∀a0 a1:Value,P [a0,a1]):∀us:List Value,us.length=2->P us
 | [a0,a1],_=>h a0 a1
theorem B8 {P:List Value->Prop}(h:∀a0 a1 a2:Value,P [a0,a1,a2]):∀us:List Value,us.length=3->P us
 | [a0,a1,a2],_=>h a0 a1 a2
theorem EK {P:List Value->Prop}(h:∀a0 a1 a2 a3:Value,P [a0,a1,a2,a3]):∀us:List Value,us.length=4->P us
 | [a0,a1,a2,a3],_=>h a0 a1 a2 a3
theorem Ym {P:List Value->Prop}(h:∀a0 a1 a2 a3 a4:Value,P [a0,a1,a2,a3,a4]):∀us:List Value,us.length=5->P us
 | [a0,a1,a2,a3,a4],_=>h a0 a1 a2 a3 a4
open PySem.W (Frag OpenLaw codeIn excIn findIn fnOf hasDictIn isFn keepIn makesIn mg_none_of mg_of nsIn plainGet plainOver)
abbrev nA (K:Frag)(x:Str)(f:Addr):Prop:=nsIn K mainGlobals x=some (some (.ref f))
abbrev lK (K:Frag)(f:Addr)(x q:Str)(s:Stmt)(oc:Value)(od:Option Addr)(kV dc pm:Value)(an:Option Addr)(cd ct:Value)(sl:Array (Option Value)):Prop:=K.lookup f=some ⟨oc,od,.func (fnOf x q (Es s) (Cm s) (Aq s) .none kV dc pm an cd ct),sl⟩
def all_mk {l:OpenLaw}{w:World}{K:Frag}{h:Heap}{mg:Str->Option Value}{fa GE NN CH CT X1 X2 X3 X4 X5 X6 X7 C aN aF tF1 tF2 tF3 tF4 aI f1 f2 f3 f4 f5 f6 f7 f8 f9 f10 f11 f12 f13 f14 f15 f16 f17 f18 f19 f20 f21 f22 f23 f24 f25 f26 f27 f28 f29 f30 f31 f32 f33 f34 f35 f36 f37 f38 f39 f40 f41 f42 f43 f44 f45 f46 f47 f48 f49 f50 f51 f52 f53 f54 f55 f56 f57 f58 f59 f60:Addr}(X:K.In h)(G:h.Ns mainGlobals mg)(hfa:mg "law" = some (.ref fa))
  {od52 an52 od53 an53 od54 an54 od55 an55 od56 an56 od57 an57 od58 an58 odN odF oF1 oF2 oF3 oF4 odI:Option Addr}{sl52 sl53 sl54 sl55 sl56 sl57 sl58 slN slF sF1 sF2 sF3 sF4 slI:Array (Option Value)}{oc52 kV52 dc52 pm52 cd52 ct52 oc53 kV53 dc53 pm53 cd53 ct53 oc54 kV54 dc54 pm54 cd54 ct54 oc55 kV55 dc55 pm55 cd55 ct55 oc56 kV56 dc56 pm56 cd56 ct56 oc57 kV57 dc57 pm57 cd57 ct57 oc58 kV58 dc58 pm58 cd58 ct58 uL uO uP uT uWc uSc uNc uRc:Value}{itN itF iF1 iF2 iF3 iF4 itI:Array Value}{nN nF nF1 nF2 nF3 nF4 nnI:Nat}
  {esP esL:Array DictEntry}{epP epL:Nat}{aP aL t1 t2 t3 t4:Addr}{oT1 oT2 oT3 oT4:Option Addr}{iT1 iT2 iT3 iT4:Array Value}{nT1 nT2 nT3 nT4:Nat}{sT1 sT2 sT3 sT4:Array (Option Value)}
  {X8 X9 X10 X11 X12 X13 X14 X15 X16 X17 X18 X19 X20:Addr}
  (q1:Qf K "read_world" Kq f1)
  (q2:Qf K "guess_world" Ij f2)
  (q3:Qf K "heap_in" FJ f3)
  (q4:Qf K "lid_on" Ig f4)
  (q5:Qf K "check_many" KP f5)
  (q6:Qf K "check_steps" Ik f6)
  (q7:Qf K "check_name" KO f7)
  (q8:Qf K "check_price" KM f8)
  (q9:Qf K "turns" GA f9)
  (q10:Qf K "read_deed" E6 f10)
  (q11:Qf K "move_things" Kt f11)
  (q12:Qf K "take" Kk f12)
  (q13:Qf K "put" Kr f13)
  (q14:Qf K "toss" Ia f14)
  (q15:Qf K "shake" Kl f15)
  (q16:Qf K "tip" Kj f16)
  (q17:Qf K "move_lid" Ku f17)
  (q18:Qf K "hand_fits" KJ f18)
  (q19:Qf K "is_free" E8 f19)
  (q20:Qf K "is_open" FH f20)
  (q21:Qf K "can_put" Il f21)
  (q22:Qf K "laid" Ii f22)
  (q23:Qf K "changed" Fb f23)
  (q24:Qf K "holds" KI f24)
  (q25:Qf K "read_fact" Ic f25)
  (q26:Qf K "read_part" Ib f26)
  (q27:Qf K "read_term" Ko f27)
  (q28:Qf K "is_atom" KG f28)
  (q29:Qf K "is_short_atom" KE f29)
  (q30:Qf K "is_spot" KC f30)
  (q31:Qf K "looked" Kv f31)
  (q32:Qf K "read_look" GB f32)
  (q33:Qf K "check_told" KL f33)
  (q34:Qf K "number_all" Ks f34)
  (q35:Qf K "add_new" KS f35)
  (q36:Qf K "is_name" FI f36)
  (q37:Qf K "read_line" E5 f37)
  (q38:Qf K "read_rows" EG f38)
  (q39:Qf K "read_things" Km f39)
  (q40:Qf K "read_places" Kp f40)
  (q41:Qf K "check_keys" KQ f41)
  (q42:Qf K "_law_pick" E7 f42)
  (q43:Qf K "_law_fixed" E9 f43)
  (q44:Qf K "_law_names" Ie f44)
  (q45:Qf K "_law_place_line" Kw f45)
  (q46:Qf K "_law_room" E4 f46)
  (q47:Qf K "_law_lids" Kx f47)
  (q48:Qf K "_law_world" Gz f48)
  (q49:Qf K "_law_great" FG f49)
  (q50:Qf K "_law_call" KA f50)
  (q51:Qf K "_law_seen" Kz f51)
  (a52:nA K "law" f52)(l52:lK K f52 "law" "law" FF oc52 od52 kV52 dc52 pm52 an52 cd52 ct52 sl52)(c52:codeIn K cd52 "law" = true)(k52:keepIn K (.ref f52)=true)
  (aC:nsIn K mainGlobals "Room" = some (some (.ref C)))
  (a53:findIn K (.ref C) "__init__" = some (some (.ref f53)))(i53:isFn K (.ref f53)=true)(l53:lK K f53 "__init__" "Room.__init__" KH oc53 od53 kV53 dc53 pm53 an53 cd53 ct53 sl53)(c53:codeIn K cd53 "Room.__init__" = true)(k53:keepIn K (.ref f53)=true)
  (a54:findIn K (.ref C) "places" = some (some (.ref f54)))(i54:isFn K (.ref f54)=true)(l54:lK K f54 "places" "Room.places" M5 oc54 od54 kV54 dc54 pm54 an54 cd54 ct54 sl54)(c54:codeIn K cd54 "Room.places" = true)(k54:keepIn K (.ref f54)=true)
  (a55:findIn K (.ref C) "things" = some (some (.ref f55)))(i55:isFn K (.ref f55)=true)(l55:lK K f55 "things" "Room.things" M4 oc55 od55 kV55 dc55 pm55 an55 cd55 ct55 sl55)(c55:codeIn K cd55 "Room.things" = true)(k55:keepIn K (.ref f55)=true)
  (a56:findIn K (.ref C) "lid_of" = some (some (.ref f56)))(i56:isFn K (.ref f56)=true)(l56:lK K f56 "lid_of" "Room.lid_of" Ky oc56 od56 kV56 dc56 pm56 an56 cd56 ct56 sl56)(c56:codeIn K cd56 "Room.lid_of" = true)(k56:keepIn K (.ref f56)=true)
  (a57:findIn K (.ref C) "lidded" = some (some (.ref f57)))(i57:isFn K (.ref f57)=true)(l57:lK K f57 "lidded" "Room.lidded" M7 oc57 od57 kV57 dc57 pm57 an57 cd57 ct57 sl57)(c57:codeIn K cd57 "Room.lidded" = true)(k57:keepIn K (.ref f57)=true)
  (a58:findIn K (.ref C) "key_of" = some (some (.ref f58)))(i58:isFn K (.ref f58)=true)(l58:lK K f58 "key_of" "Room.key_of" KB oc58 od58 kV58 dc58 pm58 an58 cd58 ct58 sl58)(c58:codeIn K cd58 "Room.key_of" = true)(k58:keepIn K (.ref f58)=true)
  (pg:plainGet K C Str.empty=true)(hd:hasDictIn K C=true)(po:plainOver K C=true)(sa:findIn K (.ref C) "__setattr__" = some (some (.builtin "object.__setattr__")))(mk:makesIn K C=true)(kc:keepIn K (.ref C)=true)
  (nP:findIn K (.ref C) "told_places" = some none)(nS:findIn K (.ref C) "told_shapes" = some none)
  (aCH:nsIn K mainGlobals "Chart" = some (some (.ref CH)))(pgCH:plainGet K CH Str.empty=true)(hdCH:hasDictIn K CH=true)(poCH:plainOver K CH=true)(saCH:findIn K (.ref CH) "__setattr__" = some (some (.builtin "object.__setattr__")))(mkCH:makesIn K CH=true)(kcCH:keepIn K (.ref CH)=true)
  (aCT:nsIn K mainGlobals "Atlas" = some (some (.ref CT)))(pgCT:plainGet K CT Str.empty=true)(hdCT:hasDictIn K CT=true)(poCT:plainOver K CT=true)(saCT:findIn K (.ref CT) "__setattr__" = some (some (.builtin "object.__setattr__")))(mkCT:makesIn K CT=true)(kcCT:keepIn K (.ref CT)=true)
  (nCT_1:findIn K (.ref CT) "told_room" = some none)
  (nCT_2:findIn K (.ref CT) "numbers" = some none)
  (nCT_3:findIn K (.ref CT) "made_chart" = some none)
  (q59:Qm K CH "__init__" "Chart.__init__" M8 f59)
  (q60:Qm K CT "__init__" "Atlas.__init__" KR f60)
  (aX1:nsIn K mainGlobals "NoWorld" = some (some (.ref X1)))(oX1:excIn K X1 BK "ValueError.__new__" = true)(sX1:mroIn K X1 GE=true)
  (aX2:nsIn K mainGlobals "NoDeed" = some (some (.ref X2)))(oX2:excIn K X2 BK "ValueError.__new__" = true)(sX2:mroIn K X2 GE=true)
  (aX3:nsIn K mainGlobals "NoLook" = some (some (.ref X3)))(oX3:excIn K X3 BK "ValueError.__new__" = true)(sX3:mroIn K X3 GE=true)
  (aX4:nsIn K mainGlobals "NoFact" = some (some (.ref X4)))(oX4:excIn K X4 BK "ValueError.__new__" = true)(sX4:mroIn K X4 GE=true)
  (aX5:nsIn K mainGlobals "NoChart" = some (some (.ref X5)))(oX5:excIn K X5 BK "ValueError.__new__" = true)(sX5:mroIn K X5 GE=true)
  (aX6:nsIn K mainGlobals "NoName" = some (some (.ref X6)))(oX6:excIn K X6 BK "ValueError.__new__" = true)(sX6:mroIn K X6 GE=true)
  (aX7:nsIn K mainGlobals "TooMany" = some (some (.ref X7)))(oX7:excIn K X7 BK "ValueError.__new__" = true)(sX7:mroIn K X7 GE=true)
  (aG:nsIn K mainGlobals "GropeError" = some (some (.ref GE)))(aE:nsIn K mainGlobals "NoRoom" = some (some (.ref NN)))(oG:excIn K GE BK "ValueError.__new__" = true)(oE:excIn K NN BK "ValueError.__new__" = true)(sE:mroIn K NN GE=true)
  (gL:nsIn K mainGlobals "LETTERS" = some (some uL))(vL:CY uL=some (.str abc))
  (gO:nsIn K mainGlobals "MOST_LETTERS" = some (some uO))(vO:CY uO=some (.int 8))
  (gP:nsIn K mainGlobals "MOST_PLACES" = some (some uP))(vP:CY uP=some (.int 6))
  (gT:nsIn K mainGlobals "MOST_THINGS" = some (some uT))(vT:CY uT=some (.int 6))
  (gWc:nsIn K mainGlobals "MOST_WORLDS" = some (some uWc))(vWc:CY uWc=some (.int 200))
  (gSc:nsIn K mainGlobals "MOST_STEPS" = some (some uSc))(vSc:CY uSc=some (.int 40))
  (gNc:nsIn K mainGlobals "MOST_SIGNS" = some (some uNc))(vNc:CY uNc=some (.int 30))
  (gRc:nsIn K mainGlobals "MOST_PRICE" = some (some uRc))(vRc:CY uRc=some (.int 1000000000))
  (gN:nsIn K mainGlobals "NO_NAMES" = some (some (.ref aN)))(lN:K.lookup aN=some ⟨.type "tuple",odN,.seq itN nN,slN⟩)(vN:CO itN.toList=some (fixedS.map V.str))
  (gF:nsIn K mainGlobals "FORMS" = some (some (.ref aF)))(lF:K.lookup aF=some ⟨.type "tuple",odF,.seq itF nF,slF⟩)(vF:CO itF.toList=some [.ref tF1,.ref tF2,.ref tF3,.ref tF4])
  (lF1:K.lookup tF1=some ⟨.type "tuple",oF1,.seq iF1 nF1,sF1⟩)(vF1:CO iF1.toList=some [.str "place",.int 2])
  (lF2:K.lookup tF2=some ⟨.type "tuple",oF2,.seq iF2 nF2,sF2⟩)(vF2:CO iF2.toList=some [.str "box",.int 2])
  (lF3:K.lookup tF3=some ⟨.type "tuple",oF3,.seq iF3 nF3,sF3⟩)(vF3:CO iF3.toList=some [.str "box",.int 3])
  (lF4:K.lookup tF4=some ⟨.type "tuple",oF4,.seq iF4 nF4,sF4⟩)(vF4:CO iF4.toList=some [.str "thing",.int 3])
  (gI:nsIn K mainGlobals "LIDS_facts" = some (some (.ref aI)))(lI:K.lookup aI=some ⟨.type "tuple",odI,.seq itI nnI,slI⟩)(vI:CO itI.toList=some (lidsS.map V.str))
  (gPl:nsIn K mainGlobals "PLACES" = some (some (.ref aP)))
  (lPl:K.lookup aP=some ⟨.type "dict",none,.dict esP epP,#[]⟩)
  (sPl:(aP == sysModules)=false)
  (vPl:Et esP.toList=some placesK)
  (hPl:esP.toList.map (·.hash)=placesK.map (λkv=>Jr w kv.1))
  (gLi:nsIn K mainGlobals "LIDS_deeds" = some (some (.ref aL)))
  (lLi:K.lookup aL=some ⟨.type "dict",none,.dict esL epL,#[]⟩)
  (sLi:(aL == sysModules)=false)
  (vLi:Et esL.toList=some (FW t1 t2 t3 t4))
  (hLi:esL.toList.map (·.hash)=(FW t1 t2 t3 t4).map (λkv=>Jr w kv.1))
  (lT1:K.lookup t1=some ⟨.type "tuple",oT1,.seq iT1 nT1,sT1⟩)
  (wT1:CO iT1.toList=some [V.str "shut",V.str "open"])
  (lT2:K.lookup t2=some ⟨.type "tuple",oT2,.seq iT2 nT2,sT2⟩)
  (wT2:CO iT2.toList=some [V.str "open",V.str "shut"])
  (lT3:K.lookup t3=some ⟨.type "tuple",oT3,.seq iT3 nT3,sT3⟩)
  (wT3:CO iT3.toList=some [V.str "shut",V.str "locked"])
  (lT4:K.lookup t4=some ⟨.type "tuple",oT4,.seq iT4 nT4,sT4⟩)
  (wT4:CO iT4.toList=some [V.str "locked",V.str "shut"])
  (aY8:nsIn K mainGlobals "Cannot" = some (some (.ref X8)))
  (aY9:nsIn K mainGlobals "NoStory" = some (some (.ref X9)))
  (aY10:nsIn K mainGlobals "NoPlan" = some (some (.ref X10)))
  (aY11:nsIn K mainGlobals "Astray" = some (some (.ref X11)))
  (aY12:nsIn K mainGlobals "Hopeless" = some (some (.ref X12)))
  (aY13:nsIn K mainGlobals "CanBeDone" = some (some (.ref X13)))
  (aY14:nsIn K mainGlobals "PlayOver" = some (some (.ref X14)))
  (aY15:nsIn K mainGlobals "NoRows" = some (some (.ref X15)))
  (aY16:nsIn K mainGlobals "Trapped" = some (some (.ref X16)))
  (aY17:nsIn K mainGlobals "Endless" = some (some (.ref X17)))
  (aY18:nsIn K mainGlobals "NoMend" = some (some (.ref X18)))
  (aY19:nsIn K mainGlobals "NoRow" = some (some (.ref X19)))
  (aY20:nsIn K mainGlobals "NotYet" = some (some (.ref X20)))
  (hKB:NJ K [NN,X1,X2,X3,X4,X5,X6,X7,X8,X9,X10,X11,X12,X13,X14,X15,X16,X17,X18,X19,X20]=true)
  (z1:nsIn K mainGlobals "len" = some none)(z2:nsIn K mainGlobals "range" = some none)(z3:nsIn K mainGlobals "tuple" = some none)(z4:nsIn K mainGlobals "zip" = some none)(z5:nsIn K mainGlobals "isinstance" = some none)(z6:nsIn K mainGlobals "str" = some none)(z7:nsIn K mainGlobals "list" = some none)(z8:nsIn K mainGlobals "set" = some none)(z9:nsIn K mainGlobals "all" = some none)(z10:nsIn K mainGlobals "sorted" = some none)(z11:nsIn K mainGlobals "int" = some none)(z12:nsIn K mainGlobals "bool" = some none)(z13:nsIn K mainGlobals "reversed" = some none)(z14:nsIn K mainGlobals "max" = some none)(z15:nsIn K mainGlobals "sum" = some none)(z16:nsIn K mainGlobals "enumerate" = some none)(z17:nsIn K mainGlobals "dict" = some none)(z18:nsIn K mainGlobals "any" = some none)(z19:nsIn K mainGlobals "ValueError" = some none) :
  ∃fd:FuncData,(∀(s:Shared) (v:Value),BindsTo s fd ⟨[v],[]⟩ [("_law_script",v)])/\∀base:Heap,K.In base->base.Ns mainGlobals mg->FnOk l.prog w K mg base CX0 15 fa fd ["_law_script"] (HX K):=by
 have e:=hfa.symm.trans (AV X G a52)
 cases e
 have T:Bl mg:=⟨Co X G z1,Co X G z2,Co X G z3,Co X G z4,Co X G z5,Co X G z6,Co X G z7,Co X G z8,Co X G z9,Co X G z10,Co X G z11,Co X G z12,Co X G z13,Co X G z14,Co X G z15,Co X G z16,Co X G z17,Co X G z18,Co X G z19⟩
 obtain⟨tL,eL⟩:=(Eg vL:RelV (.str abc) uL)
 rw[eL]at gL
 obtain⟨tO,eO⟩:=(Eg vO:RelV (.int 8) uO)
 rw[eO]at gO
 obtain⟨tP,eP⟩:=(Eg vP:RelV (.int 6) uP)
 rw[eP]at gP
 obtain⟨tT,eT⟩:=(Eg vT:RelV (.int 6) uT)
 rw[eT]at gT
 obtain⟨tWc,eWc⟩:=(Eg vWc:RelV (.int 200) uWc)
 rw[eWc]at gWc
 obtain⟨tSc,eSc⟩:=(Eg vSc:RelV (.int 40) uSc)
 rw[eSc]at gSc
 obtain⟨tNc,eNc⟩:=(Eg vNc:RelV (.int 30) uNc)
 rw[eNc]at gNc
 obtain⟨tRc,eRc⟩:=(Eg vRc:RelV (.int 1000000000) uRc)
 rw[eRc]at gRc
 have M:Md K mg aN aF:=⟨⟨_,AV X G gL⟩,⟨_,AV X G gO⟩,⟨_,AV X G gP⟩,⟨_,AV X G gT⟩,AV X G gN,λH=>.inr ⟨_,itN,nN,lN,rfl,rfl,by
   have h1:=(C2 vN).length
   have h2:itN.toList.length=itN.size:=by simp
   have h3:(fixedS.map V.str).length=14:=by decide +kernel
   have hs:sizeLine=16777216:=AM
   lia,C2 vN⟩,AV X G gF,
  Io lF vF (.cons (Io lF1 vF1 (.cons (Fc rfl) (.cons (Fc rfl) .nil))) (.cons (Io lF2 vF2 (.cons (Fc rfl) (.cons (Fc rfl) .nil))) (.cons (Io lF3 vF3 (.cons (Fc rfl) (.cons (Fc rfl) .nil))) (.cons (Io lF4 vF4 (.cons (Fc rfl) (.cons (Fc rfl) .nil))) .nil))))⟩
 have L:Cl K C:=⟨⟨pg,hd,po,sa⟩,nP,nS⟩
 have MI:Ml K mg aI:=⟨AV X G gI,λH=>.inr ⟨_,itI,nnI,lI,rfl,rfl,by
   have h1:=(C2 vI).length;have h2:itI.toList.length=itI.size:=by simp
   have h3:(lidsS.map V.str).length<=100:=by decide +kernel
   have hs:sizeLine=16777216:=AM;lia,C2 vI⟩⟩
 have F52:=DS l52 c52 k52
 have F53:=DS l53 c53 k53
 have b53:=F53.binds (ps:=["self", "lines"]) λ_ _ _ _ _ _=>CL λ_ _=>rfl
 have F54:=DS l54 c54 k54
 have b54:=F54.binds (ps:=["self"]) λ_ _ _ _ _ _=>Dv λ_=>rfl
 have F55:=DS l55 c55 k55
 have b55:=F55.binds (ps:=["self"]) λ_ _ _ _ _ _=>Dv λ_=>rfl
 have F56:=DS l56 c56 k56
 have b56:=F56.binds (ps:=["self", "place"]) λ_ _ _ _ _ _=>CL λ_ _=>rfl
 have F57:=DS l57 c57 k57
 have b57:=F57.binds (ps:=["self", "place"]) λ_ _ _ _ _ _=>CL λ_ _=>rfl
 have F58:=DS l58 c58 k58
 have b58:=F58.binds (ps:=["self", "place"]) λ_ _ _ _ _ _=>CL λ_ _=>rfl
 obtain⟨_,F59,b59,m59⟩:=q59.df GV λ_ _ _ _ _ _=>EK λ_ _ _ _=>rfl
 obtain⟨_,F60,b60,m60⟩:=q60.df GY λ_ _ _ _ _ _=>Ym λ_ _ _ _ _=>rfl
 have CCH:Cls K CH:=⟨pgCH,hdCH,poCH,saCH⟩
 have CCT:Cls K CT:=⟨pgCT,hdCT,poCT,saCT⟩
 obtain⟨_,D1⟩:=q1.df X G IJ λ_ _ _ _ _ _=>CL λ_ _=>rfl
 obtain⟨_,D2⟩:=q2.df X G IW λ_ _ _ _ _ _=>CL λ_ _=>rfl
 obtain⟨_,D3⟩:=q3.df X G DO λ_ _ _ _ _ _=>B8 λ_ _ _=>rfl
 obtain⟨_,D4⟩:=q4.df X G GM λ_ _ _ _ _ _=>B8 λ_ _ _=>rfl
 obtain⟨_,D5⟩:=q5.df X G Jc λ_ _ _ _ _ _=>Dv λ_=>rfl
 obtain⟨_,D6⟩:=q6.df X G I0 λ_ _ _ _ _ _=>CL λ_ _=>rfl
 obtain⟨_,D7⟩:=q7.df X G Jb λ_ _ _ _ _ _=>Dv λ_=>rfl
 obtain⟨_,D8⟩:=q8.df X G Ja λ_ _ _ _ _ _=>Dv λ_=>rfl
 obtain⟨_,D9⟩:=q9.df X G FQ λ_ _ _ _ _ _=>B8 λ_ _ _=>rfl
 obtain⟨_,D10⟩:=q10.df X G Ff λ_ _ _ _ _ _=>CL λ_ _=>rfl
 obtain⟨_,D11⟩:=q11.df X G IM λ_ _ _ _ _ _=>EK λ_ _ _ _=>rfl
 obtain⟨_,D12⟩:=q12.df X G IE λ_ _ _ _ _ _=>B8 λ_ _ _=>rfl
 obtain⟨_,D13⟩:=q13.df X G IK λ_ _ _ _ _ _=>B8 λ_ _ _=>rfl
 obtain⟨_,D14⟩:=q14.df X G IC λ_ _ _ _ _ _=>B8 λ_ _ _=>rfl
 obtain⟨_,D15⟩:=q15.df X G IF λ_ _ _ _ _ _=>B8 λ_ _ _=>rfl
 obtain⟨_,D16⟩:=q16.df X G ID λ_ _ _ _ _ _=>EK λ_ _ _ _=>rfl
 obtain⟨_,D17⟩:=q17.df X G IP λ_ _ _ _ _ _=>EK λ_ _ _ _=>rfl
 obtain⟨_,D18⟩:=q18.df X G IV λ_ _ _ _ _ _=>EK λ_ _ _ _=>rfl
 obtain⟨_,D19⟩:=q19.df X G De λ_ _ _ _ _ _=>Dv λ_=>rfl
 obtain⟨_,D20⟩:=q20.df X G DM λ_ _ _ _ _ _=>B8 λ_ _ _=>rfl
 obtain⟨_,D21⟩:=q21.df X G FT λ_ _ _ _ _ _=>B8 λ_ _ _=>rfl
 obtain⟨_,D22⟩:=q22.df X G FS λ_ _ _ _ _ _=>B8 λ_ _ _=>rfl
 obtain⟨_,D23⟩:=q23.df X G Dr λ_ _ _ _ _ _=>EK λ_ _ _ _=>rfl
 obtain⟨_,D24⟩:=q24.df X G IU λ_ _ _ _ _ _=>B8 λ_ _ _=>rfl
 obtain⟨_,D25⟩:=q25.df X G II λ_ _ _ _ _ _=>CL λ_ _=>rfl
 obtain⟨_,D26⟩:=q26.df X G IH λ_ _ _ _ _ _=>CL λ_ _=>rfl
 obtain⟨_,D27⟩:=q27.df X G IG λ_ _ _ _ _ _=>CL λ_ _=>rfl
 obtain⟨_,D28⟩:=q28.df X G IT λ_ _ _ _ _ _=>CL λ_ _=>rfl
 obtain⟨_,D29⟩:=q29.df X G GU λ_ _ _ _ _ _=>B8 λ_ _ _=>rfl
 obtain⟨_,D30⟩:=q30.df X G GS λ_ _ _ _ _ _=>B8 λ_ _ _=>rfl
 obtain⟨_,D31⟩:=q31.df X G IQ λ_ _ _ _ _ _=>B8 λ_ _ _=>rfl
 obtain⟨_,D32⟩:=q32.df X G FR λ_ _ _ _ _ _=>CL λ_ _=>rfl
 obtain⟨_,D33⟩:=q33.df X G IZ λ_ _ _ _ _ _=>B8 λ_ _ _=>rfl
 obtain⟨_,D34⟩:=q34.df X G IL λ_ _ _ _ _ _=>B8 λ_ _ _=>rfl
 obtain⟨_,D35⟩:=q35.df X G Jd λ_ _ _ _ _ _=>CL λ_ _=>rfl
 obtain⟨_,D36⟩:=q36.df X G ["text"] λ_ _ _ _ _ _=>Dv λ_=>rfl
 obtain⟨_,D37⟩:=q37.df X G ["line"] λ_ _ _ _ _ _=>Dv λ_=>rfl
 obtain⟨_,D38⟩:=q38.df X G ["lines"] λ_ _ _ _ _ _=>Dv λ_=>rfl
 obtain⟨_,D39⟩:=q39.df X G ["rows"] λ_ _ _ _ _ _=>Dv λ_=>rfl
 obtain⟨_,D40⟩:=q40.df X G ["rows"] λ_ _ _ _ _ _=>Dv λ_=>rfl
 obtain⟨_,D41⟩:=q41.df X G ["places", "shapes"] λ_ _ _ _ _ _=>CL λ_ _=>rfl
 obtain⟨_,D42⟩:=q42.df X G ["_law_script", "_law_k", "_law_many"] λ_ _ _ _ _ _=>B8 λ_ _ _=>rfl
 obtain⟨_,D43⟩:=q43.df X G ["_law_text"] λ_ _ _ _ _ _=>Dv λ_=>rfl
 obtain⟨_,D44⟩:=q44.df X G ["_law_script", "_law_k", "_law_many"] λ_ _ _ _ _ _=>B8 λ_ _ _=>rfl
 obtain⟨_,D45⟩:=q45.df X G ["_law_script", "_law_k", "_law_room_here", "_law_name"] λ_ _ _ _ _ _=>EK λ_ _ _ _=>rfl
 obtain⟨_,D46⟩:=q46.df X G ["_law_script", "_law_places", "_law_things"] λ_ _ _ _ _ _=>B8 λ_ _ _=>rfl
 obtain⟨_,D47⟩:=q47.df X G ["_law_room_here", "_law_place"] λ_ _ _ _ _ _=>CL λ_ _=>rfl
 obtain⟨_,D48⟩:=q48.df X G ["_law_script", "_law_k", "_law_room_here"] λ_ _ _ _ _ _=>B8 λ_ _ _=>rfl
 obtain⟨_,D49⟩:=q49.df X G GO λ_ _ _ _ _ _=>Yn rfl
 obtain⟨_,D50⟩:=q50.df X G IS λ_ _ _ _ _ _=>EK λ_ _ _ _=>rfl
 obtain⟨_,D51⟩:=q51.df X G IR λ_ _ _ _ _ _=>EK λ_ _ _ _=>rfl
 refine⟨fnOf "law" "law" (Es FF) (Cm FF) (Aq FF) .none kV52 dc52 pm52 an52 cd52 ct52,λs v=>.of_eq rfl,λbase _ _=>?_⟩
 have GQ:=V6 (P:=l.prog) (w:=w) (base:=base) D42.F T
 have GP:=V7 GQ
 have GX:=WG (P:=l.prog) (w:=w) (mg:=mg) (base:=base) D43.F
 have GN:=Wa (P:=l.prog) (w:=w) (base:=base) D44.F D42 D43 T GQ GX
 have GL:=Wh (P:=l.prog) (w:=w) (base:=base) D45.F D42 T GP
 have GR:=VU (P:=l.prog) (w:=w) (base:=base) D46.F D42 D44 D45 T GP GN GL
 have GI:=Wi (P:=l.prog) (w:=w) (mg:=mg) (base:=base) D47.F
 have GW:=VF (P:=l.prog) (w:=w) (base:=base) D48.F D42 D47 T GP GI
 have Gis:=Wv (P:=l.prog) (w:=w) (base:=base) D36.F T M
 have Grl:=V0  D37.F D36 T M Gis
 have Grr:=VX  D38.F D37 T Grl
 have Gth:=VM (P:=l.prog) (w:=w) (base:=base) D39.F T M
 have Gpl:=V4 (P:=l.prog) (w:=w) (base:=base) D40.F T M
 have Gck:=WN (P:=l.prog) (w:=w) (mg:=mg) (base:=base) D41.F
 have Gin:=Wz  F53 L D38 D40 D39 D41 Grr Gpl Gth Gck
 have Gps:=V5 (P:=l.prog) (w:=w) (base:=base) F54 L T
 have DD:Dd l.prog w K mg aP:=⟨AV X G gPl,QM lPl sPl vPl hPl (by decide +kernel)⟩
 have DL:Dl l.prog w K mg aL t1 t2 t3 t4:=⟨AV X G gLi,QM lLi sLi vLi hLi (by show List.Nodup ([Sum.inr "open",Sum.inr "shut",Sum.inr "lock",Sum.inr "unlock"]:List Ag);decide +kernel),λH=>.inr ⟨_,iT1,nT1,lT1,rfl,rfl,by
   have h1:=(C2 wT1).length
   have h2:iT1.toList.length=iT1.size:=by simp
   have h3:([V.str "shut",V.str "open"]:List V).length=2:=rfl
   have hs:sizeLine=16777216:=AM
   lia,C2 wT1⟩,λH=>.inr ⟨_,iT2,nT2,lT2,rfl,rfl,by
   have h1:=(C2 wT2).length
   have h2:iT2.toList.length=iT2.size:=by simp
   have h3:([V.str "open",V.str "shut"]:List V).length=2:=rfl
   have hs:sizeLine=16777216:=AM
   lia,C2 wT2⟩,λH=>.inr ⟨_,iT3,nT3,lT3,rfl,rfl,by
   have h1:=(C2 wT3).length
   have h2:iT3.toList.length=iT3.size:=by simp
   have h3:([V.str "shut",V.str "locked"]:List V).length=2:=rfl
   have hs:sizeLine=16777216:=AM
   lia,C2 wT3⟩,λH=>.inr ⟨_,iT4,nT4,lT4,rfl,rfl,by
   have h1:=(C2 wT4).length
   have h2:iT4.toList.length=iT4.size:=by simp
   have h3:([V.str "locked",V.str "shut"]:List V).length=2:=rfl
   have hs:sizeLine=16777216:=AM
   lia,C2 wT4⟩⟩
 have Ghi:=WB  D3.F L b54 ⟨a54,i54,k54⟩ Gps
 have Gln:=Wj  D4.F L b54 ⟨a54,i54,k54⟩ Gps
 have Glo:=Wm (P:=l.prog) (w:=w) (mg:=mg) (base:=base) F56 L
 have Gld:=Wn  F57 L b56 ⟨a56,i56,k56⟩ Glo
 have Gky:=Wr  F58 L b56 ⟨a56,i56,k56⟩ Glo
 have Gif:=Ww (P:=l.prog) (w:=w) (mg:=mg) (base:=base) D19.F
 have Gio:=Wt  D20.F ⟨D4,Gln⟩
 have Gch:=WO  D23.F L b54 ⟨a54,i54,k54⟩ Gps
 have Grd:=V2  D10.F T L DD b54 ⟨a54,i54,k54⟩ Gps
 have Ghf:=WC  D18.F L D19 Gif b58 ⟨a58,i58,k58⟩ Gky b57 ⟨a57,i57,k57⟩ Gld
 have Gml:=Wb  D17.F DL ⟨D4,Gln⟩ ⟨D18,Ghf⟩ ⟨D23,Gch⟩
 have Gcp:=WQ  D21.F ⟨D19,Gif⟩ ⟨D20,Gio⟩
 have Gla:=Wp  D22.F ⟨D3,Ghi⟩ ⟨D23,Gch⟩
 have Gpu:=V3  D13.F ⟨D21,Gcp⟩ ⟨D22,Gla⟩
 have Gto:=VI  D14.F L b54 ⟨a54,i54,k54⟩ Gps D21 Gcp D22 Gla
 have Gtk:=VO  D12.F T D3 D19 D20 D23 Ghi Gif Gio Gch
 have Gsk:=VR  D15.F T D3 D19 D20 D23 Ghi Gif Gio Gch
 have Gti:=VJ  D16.F T D3 D19 D20 D23 Ghi Gif Gio Gch
 have Gmt:=Wc  D11.F ⟨D12,Gtk⟩ ⟨D13,Gpu⟩ ⟨D14,Gto⟩ ⟨D15,Gsk⟩
 have Gtu:=VH  D9.F DL ⟨D10,Grd⟩ ⟨D16,Gti⟩ ⟨D11,Gmt⟩ ⟨D17,Gml⟩
 have Mq:Mc mg:=⟨⟨_,AV X G gWc⟩,⟨_,AV X G gSc⟩,⟨_,AV X G gNc⟩,⟨_,AV X G gRc⟩⟩
 have LT:Sv K CT:=⟨CCT,nCT_1,nCT_2,nCT_3⟩
 have KN:=Yz (K:=K) (mg:=mg) (AV X G aG) oG (AV X G aE) (AV X G aX1) (AV X G aX2) (AV X G aX3) (AV X G aX4) (AV X G aX5) (AV X G aX6) (AV X G aX7) (AV X G aY8) (AV X G aY9) (AV X G aY10) (AV X G aY11) (AV X G aY12) (AV X G aY13) (AV X G aY14) (AV X G aY15) (AV X G aY16) (AV X G aY17) (AV X G aY18) (AV X G aY19) (AV X G aY20) oE sE oX1 sX1 oX2 sX2 oX3 sX3 oX4 sX4 oX5 sX5 oX6 sX6 oX7 sX7 hKB
 have XR:Xk K mg GE NN "NoRoom" := ⟨AV X G aE,oE,sE⟩
 have XW:Xk K mg GE X1 "NoWorld" := ⟨AV X G aX1,oX1,sX1⟩
 have XD:Xk K mg GE X2 "NoDeed" := ⟨AV X G aX2,oX2,sX2⟩
 have XL:Xk K mg GE X3 "NoLook" := ⟨AV X G aX3,oX3,sX3⟩
 have XF:Xk K mg GE X4 "NoFact" := ⟨AV X G aX4,oX4,sX4⟩
 have XC:Xk K mg GE X5 "NoChart" := ⟨AV X G aX5,oX5,sX5⟩
 have XN:Xk K mg GE X6 "NoName" := ⟨AV X G aX6,oX6,sX6⟩
 have XT:Xk K mg GE X7 "TooMany" := ⟨AV X G aX7,oX7,sX7⟩
 have Gcn:=WM (P:=l.prog) (w:=w) (mg:=mg) (base:=base) D7.F T Mq
 have Gcq:=WL (P:=l.prog) (w:=w) (mg:=mg) (base:=base) D8.F Mq
 have GcsP:=WJ  D6.F T Mq ⟨D7,Gcn⟩ ⟨D8,Gcq⟩
 have Grk0:=VZ (P:=l.prog) (w:=w) (mg:=mg) (base:=base) D32.F
 have Gtd:=WI  D33.F ⟨D10,Grd⟩ ⟨D32,Grk0⟩ ⟨D6,GcsP⟩
 have Gan:=WU (P:=l.prog) (w:=w) (mg:=mg) (base:=base) D35.F T XT ⟨_,AV X G gWc⟩
 have Gna:=V9  D34.F T ⟨D35,Gan⟩ ⟨D9,Gtu⟩
 have Gai:=WT  F60 T LT ⟨D33,Gtd⟩ ⟨D34,Gna⟩
 have Gmx:=We (P:=l.prog) (w:=w) (mg:=mg) (base:=base) D5.F XC Mq
 have Gcx:=Wy  F59 ⟨D5,Gmx⟩
 have Grx:=V1 (P:=l.prog) (w:=w) (mg:=mg) (base:=base) D10.F T DD XD
 have Gtx:=VG  D9.F ⟨D10,Grx⟩
 have Glx:=VY (P:=l.prog) (w:=w) (mg:=mg) (base:=base) D32.F T XL
 have Gkx:=Wf  D31.F ⟨D32,Glx⟩
 have Glox:=Wk (P:=l.prog) (w:=w) (mg:=mg) (base:=base) F56 L XN
 have Gkyx:=Wq  F58 L b56 ⟨a56,i56,k56⟩ Glox
 have Gisx:=Wu (P:=l.prog) (w:=w) (mg:=mg) (base:=base) D36.F T M
 have Ggx:=WD  D2.F T L XW b54 ⟨a54,i54,k54⟩ Gps
 have Grwx:=VW  D1.F ⟨D2,Ggx⟩
 have Gth2:=VL (P:=l.prog) (w:=w) (mg:=mg) (base:=base) F55 L T
 have Gsh:=VQ  D29.F L MI b54 ⟨a54,i54,k54⟩ Gps b55 ⟨a55,i55,k55⟩ Gth2
 have Gsp:=VP  D30.F L b54 ⟨a54,i54,k54⟩ Gps b55 ⟨a55,i55,k55⟩ Gth2
 have Gat:=WS  D28.F L T b55 ⟨a55,i55,k55⟩ Gth2 D29 Gsh D30 Gsp
 have Gtm:=VN  D27.F XF T ⟨D28,Gat⟩
 have Gpt:=V8  D26.F T ⟨D27,Gtm⟩
 have Gfa:=WH  D25.F T ⟨D26,Gpt⟩
 have Gho:=WA  D24.F ⟨D25,Gfa⟩
 have Glnx:=Wg  D37.F XR D36 T M Gisx
 have Growx:=VT  D38.F D37 Glnx
 have Ginx:=Wx  F53 D38 Growx
 have Ggr:=WE  D49.F T ⟨mk,a53,i53,kc⟩ (AV X G aC) b53 Gin ⟨mkCT,m60.at_,m60.fn,kcCT⟩ (AV X G aCT) b60 Gai
 have Gca:=WR  D50.F (ad:=JE [NN,X1,X2,X3,X4,X5,X6,X7,X8,X9,X10,X11,X12,X13,X14,X15,X16,X17,X18,X19,X20]) L ⟨mk,a53,i53,kc⟩ (AV X G aC) b53 Ginx ⟨mkCH,m59.at_,m59.fn,kcCH⟩ (AV X G aCH) b59 Gcx ⟨D1,Grwx⟩ ⟨D9,Gtx⟩ ⟨D31,Gkx⟩ ⟨D24,Gho⟩ b58 ⟨a58,i58,k58⟩ Gkyx D49 Ggr
 have Gse:=VS  D51.F T KN ⟨D50,Gca⟩
 exact Wo F52 T ⟨mk,a53,i53,kc⟩ (AV X G aC) b53 Gin ⟨D46,GR⟩ ⟨D48,GW⟩ ⟨D42,GP⟩ ⟨D51,Gse⟩
def walk {l:PySem.W.OpenLaw}{q:Program}{loose:List Str}{XP:(Str->Option Value)->Heap->Prop}{YP:World->Heap->Prop}{d:DefRec}{K:Params->W.Frag}(hn:l.most=some 63)(hdf:d.params.defaults=[])
  (hY:∀(w:World) (h:Heap),YP w h->(K w.params).In h)
  (F:∀(w:World) (mg:Str->Option Value) (fa:Addr) (h:Heap),(K w.params).In h->h.Ns mainGlobals mg->mg d.name=some (.ref fa) -> ∃fd:FuncData,(∀(s:Shared) (u:Value),BindsTo s fd ⟨[u],[]⟩ [("_law_script",u)])/\∀base:Heap,(K w.params).In base->base.Ns mainGlobals mg->FnOk l.prog w (K w.params) mg base CX0 15 fa fd ["_law_script"] (HX (K w.params))) :
  PySem.W.WalkO q loose XP YP l.row.toRowW d [] (λf vs=>PySem.call f vs):=
 L2.walk_of (n:=63) (k:=15) (x := "_law_script") (CX:=λ_=>CX0) (sp:=λw=>HX (K w.params)) hn (by decide) hdf ⟨rfl,by decide,by decide⟩ hY F (λ_ _ a ns hl _ hS=>⟨a,ns,rfl,hS,hl,λ_=>rfl⟩) λ_ _ _ _ _ z=>z
end K22
namespace PySem.W.Fast
/-- names that are taken: the twins that would have them are made for the walk alone,and it goes without them as well -/
def tw18030579226669927053:=0
def tw11296325401905212061:=0
def tw11331451474228801802:=0
def tw945308396737377421:=0
def tw3606342624955684564:=0
def tw14507864787409581693:=0
def tw1777197817600219666:=0
def tw12961028640881249276:=0
def tw9940870283634031287:=0
def tw3084019796741490680:=0
def tw2374884322786081245:=0
def tw15067228619106074637:=0
def tw1394766608605596838:=0
def tw14380918384143938869:=0
def tw2390838763451756816:=0
def tw3699903595944284623:=0
def tw4948029602559261949:=0
def tw15395258820564004802:=0
def tw5121812723134139838:=0
def tw13994367774694008651:=0
def tw6614273377828272120:=0
def tw17514601710304515859:=0
def tw7021302873411347247:=0
def tw3816767393761340090:=0
def tw14408654346682553620:=0
def tw3579147805932293019:=0
def tw5170962511840922562:=0
def tw14091061487640571730:=0
def tw882345769003836033:=0
def tw15943555889043147:=0
def tw3058699450767720044:=0
def tw5473545676983353988:=0
def tw8782116421022522145:=0
def tw5178982484237848280:=0
def tw5643391083007254273:=0
def tw12577840129871464298:=0
def tw917270098655473330:=0
def tw16440460075289848992:=0
def tw1724761404051939377:=0
def tw13540723413692218601:=0
def tw13544187408853973495:=0
def tw6331534091023262924:=0
def tw6034032022332845935:=0
def tw14343823986256732768:=0
def tw11893140064337312628:=0
def tw5796283000131683840:=0
def tw15293839364705501543:=0
def tw6090176374692769369:=0
def tw7321890695209310320:=0
def tw14664761896740520204:=0
def tw1727126127435039658:=0
def tw12430179300642892330:=0
def tw16054248101943660884:=0
def tw2630244508111837196:=0
def tw15477167394698097609:=0
def tw894212761390246419:=0
def tw316449811729665633:=0
def tw18104140355623542571:=0
def tw3573798521158449521:=0
def tw158856895766558732:=0
def tw2649642419334937240:=0
def tw14775234959945399829:=0
def tw16558845161498387352:=0
def tw12800364584245036984:=0
def tw220498967645587813:=0
def tw5477891977047482135:=0
def tw16302114735514353992:=0
def tw3889060894223854636:=0
def tw12427791455892734829:=0
def tw12535780667218744430:=0
def tw13510022741901375013:=0
def tw2733314786859743193:=0
def tw17172114233980198721:=0
def tw18259478840989616465:=0
def tw6345262617701071186:=0
def tw8773513609110140829:=0
def tw7821101363855646040:=0
def tw4910216676453315649:=0
def tw4802370200688716897:=0
def tw8140654877377338349:=0
def tw16070346824957019990:=0
def tw7581015380737017822:=0
def tw18059394991932204866:=0
def tw9268431609663662579:=0
def tw955246453043214741:=0
def tw1375645795070168226:=0
def tw9074352448360386234:=0
def tw8362405269684399116:=0
def tw17867504906423707638:=0
def tw1713756086549201122:=0
def tw18428350735102549501:=0
def tw9098209400119550156:=0
def tw5459875796367560399:=0
def tw11928229164554021612:=0
def tw14441561457926826787:=0
def tw2330995376002637317:=0
def tw1891054359061481158:=0
def tw3761821254397661324:=0
def tw2298737161141050852:=0
def tw12458914501556283793:=0
def tw17309638013386095401:=0
def tw12849763612451727361:=0
def tw17021030474644334356:=0
def tw122129403276492120:=0
def tw3651725059217488793:=0
def tw5209003715763890934:=0
def tw1838344178459581854:=0
def tw2479854184115423114:=0
def tw9650482180397622166:=0
def tw2450037598909831825:=0
def tw1513018949555031525:=0
def tw2814215102860228869:=0
def tw2856973990469265912:=0
def tw6424121349532783706:=0
def tw3439582377427781908:=0
def tw14312656358849106901:=0
def tw16513546819438744059:=0
def tw8456454423794776940:=0
def tw17472166582290737897:=0
def tw14020275121434552648:=0
def tw7887951699887071835:=0
def tw9727745144910125243:=0
def tw8599239832782354918:=0
def tw17212038337253733087:=0
def tw3795213666451422958:=0
def tw275286783945916915:=0
def tw17964698576208396402:=0
def tw1672921128534482467:=0
def tw17716405816570610709:=0
def tw10182967852108670615:=0
def tw3445995894575152417:=0
def tw1307982072849364058:=0
def tw3194765444647866188:=0
def tw16624528324888986718:=0
def tw7381528256647377454:=0
def tw2628949382529974878:=0
def tw1044831762489171871:=0
def tw5199732696079036711:=0
def tw3904621834926851329:=0
def tw11641237847046579150:=0
def tw12978080542291802299:=0
def tw9831624716845752099:=0
def tw17369446782684403095:=0
def tw13595822616446422397:=0
def tw3873959043357620930:=0
def tw6020847054639962143:=0
def tw3428894899177469915:=0
def tw9180497815605154184:=0
def tw16331194344570159250:=0
def tw14518891233126216993:=0
def tw10901087457007788781:=0
def tw521402903505244758:=0
def tw7671309816755093740:=0
def tw2012885740085936759:=0
def tw5582591102169821036:=0
def tw16309821151594162138:=0
def tw520092674655359045:=0
def tw12812783460865464503:=0
def tw7551171766855037267:=0
def tw8431089210680241737:=0
def tw7880436641490222147:=0
def tw17324209076457847359:=0
def tw4438473836200202401:=0
def tw18207103528430033845:=0
def tw16689568582880138031:=0
def tw17683648782009692389:=0
def tw14677966020578377529:=0
def tw13681923826315182006:=0
def tw308858721656904703:=0
def tw6491556646126512083:=0
def tw5937807523536164238:=0
def tw12304148528222966768:=0
def tw15289890600898076195:=0
def tw11592076165062492534:=0
def tw8759588020719092737:=0
def tw2093391319780431118:=0
def tw7267298158441475138:=0
def tw1387232674778824692:=0
def tw6467728672308781211:=0
def tw13549051774673657363:=0
def tw17737240741634534635:=0
def tw14323192819439082647:=0
def tw12826502804653024962:=0
def tw2654189464346079179:=0
def tw3436962554552912425:=0
def tw8374673644450888715:=0
def tw13780745036433877566:=0
def tw10121968402776727707:=0
def tw5628168974625380114:=0
def tw14120271520394066016:=0
def tw6760826852728601655:=0
def tw7425153766331472503:=0
def tw9520341154711355218:=0
def tw1814190126506343236:=0
def tw9858065897050738092:=0
def tw10589739833843888839:=0
def tw8396456856294415096:=0
def tw14137864166349099594:=0
def tw14327714653724538949:=0
def tw10956734033883187099:=0
def tw8628181028308250095:=0
def tw15491104581053642412:=0
def tw163862165732440490:=0
def tw6809740548964918316:=0
def tw314782676133896003:=0
def tw17820354433934349856:=0
def tw14625499954677266579:=0
def tw12633662964722834229:=0
def tw11697580121805603619:=0
def tw16616675333681872365:=0
def tw4635696986617843461:=0
def tw18137911882212702:=0
def tw17634522238743149259:=0
def tw13078592312221818492:=0
def tw12810321404433248032:=0
def tw12931240876537819687:=0
def tw14292028963339108001:=0
def tw13539762592855315585:=0
def tw17234216768206683898:=0
def tw15692591081718452664:=0
def tw2199925868248296127:=0
def tw15205446298014863369:=0
end PySem.W.Fast
open PySem PySem.W PyProof.Rows
set_option maxRecDepth 100000 in
set_option maxHeartbeats 0 in
theorem PySem.Challenge.cw_grope_k22_refusals_apart_holds : PySem.Challenge.rw_grope_k22_refusals_apart.Holds := by
 w_on;o_law;k_head;(case hw=>w_witness2)
 k_fill
 refine K22.walk (l:=PySem.Challenge.rw_grope_k22_refusals_apart) rfl rfl (λw h Y=>PySem.W.kIn_of Y) ?F
 case F=>
  intro w mg fa h KX G hmg
  refine' K22.all_mk KX G hmg ?q1 ?q2 ?q3 ?q4 ?q5 ?q6 ?q7 ?q8 ?q9 ?q10 ?q11 ?q12 ?q13 ?q14 ?q15 ?q16 ?q17 ?q18 ?q19 ?q20 ?q21 ?q22 ?q23 ?q24 ?q25 ?q26 ?q27 ?q28 ?q29 ?q30 ?q31 ?q32 ?q33 ?q34 ?q35 ?q36 ?q37 ?q38 ?q39 ?q40 ?q41 ?q42 ?q43 ?q44 ?q45 ?q46 ?q47 ?q48 ?q49 ?q50 ?q51 ?a52 ?l52 ?c52 ?k52 ?aC ?a53 ?i53 ?l53 ?c53 ?k53 ?a54 ?i54 ?l54 ?c54 ?k54 ?a55 ?i55 ?l55 ?c55 ?k55 ?a56 ?i56 ?l56 ?c56 ?k56 ?a57 ?i57 ?l57 ?c57 ?k57 ?a58 ?i58 ?l58 ?c58 ?k58 ?pg ?hd ?po ?sa ?mk ?kc ?nP ?nS ?aCH ?pgCH ?hdCH ?poCH ?saCH ?mkCH ?kcCH ?aCT ?pgCT ?hdCT ?poCT ?saCT ?mkCT ?kcCT ?nCT_1 ?nCT_2 ?nCT_3 ?q59 ?q60 ?aX1 ?oX1 ?sX1 ?aX2 ?oX2 ?sX2 ?aX3 ?oX3 ?sX3 ?aX4 ?oX4 ?sX4 ?aX5 ?oX5 ?sX5 ?aX6 ?oX6 ?sX6 ?aX7 ?oX7 ?sX7 ?aG ?aE ?oG ?oE ?sE ?gL ?vL ?gO ?vO ?gP ?vP ?gT ?vT ?gWc ?vWc ?gSc ?vSc ?gNc ?vNc ?gRc ?vRc ?gN ?lN ?vN ?gF ?lF ?vF ?lF1 ?vF1 ?lF2 ?vF2 ?lF3 ?vF3 ?lF4 ?vF4 ?gI ?lI ?vI ?gPl ?lPl ?sPl ?vPl ?hPl ?gLi ?lLi ?sLi ?vLi ?hLi ?lT1 ?wT1 ?lT2 ?wT2 ?lT3 ?wT3 ?lT4 ?wT4 ?aY8 ?aY9 ?aY10 ?aY11 ?aY12 ?aY13 ?aY14 ?aY15 ?aY16 ?aY17 ?aY18 ?aY19 ?aY20 ?hKB ?z1 ?z2 ?z3 ?z4 ?z5 ?z6 ?z7 ?z8 ?z9 ?z10 ?z11 ?z12 ?z13 ?z14 ?z15 ?z16 ?z17 ?z18 ?z19
  all_goals (try unfold K22.nA)
  all_goals (try unfold K22.lK)
  case q1|q2|q3|q4|q5|q6|q7|q8|q9|q10|q11|q12|q13|q14|q15|q16|q17|q18|q19|q20|q21|q22|q23|q24|q25|q26|q27|q28|q29|q30|q31|q32|q33|q34|q35|q36|q37|q38|q39|q40|q41|q42|q43|q44|q45|q46|q47|q48|q49|q50|q51=>refine' .mk ?a ?l ?c ?k;case a | l | c | k=>k_is
  case a52|l52|c52|k52|aC|a53|i53|l53|c53|k53|a54|i54|l54|c54|k54|a55|i55|l55|c55|k55|a56|i56|l56|c56|k56|a57|i57|l57|c57|k57|a58|i58|l58|c58|k58|pg|hd|po|sa|mk|kc|nP|nS|aCH|pgCH|hdCH|poCH|saCH|mkCH|kcCH|aCT|pgCT|hdCT|poCT|saCT|mkCT|kcCT|nCT_1|nCT_2|nCT_3=>k_is
  case q59|q60=>refine' .mk ?a ?i ?l ?c ?k;case a | i | l | c | k=>k_is
  (case aX1=>k_is)
  (case oX1=>k_exc)
  (case aX2=>k_is)
  (case oX2=>k_exc)
  (case aX3=>k_is)
  (case oX3=>k_exc)
  (case aX4=>k_is)
  (case oX4=>k_exc)
  (case aX5=>k_is)
  (case oX5=>k_exc)
  (case aX6=>k_is)
  (case oX6=>k_exc)
  (case aX7=>k_is)
  (case oX7=>k_exc)
  case aG|aE=>k_is
  case oG|oE=>k_exc
  (case sE=>first | rfl | (with_unfolding_all rfl) | exact Eq.refl true)
  (case gL=>k_is)
  (case vL=>first | rfl | decide +kernel | k_is)
  (case gO=>k_is)
  (case vO=>first | rfl | decide +kernel | k_is)
  (case gP=>k_is)
  (case vP=>first | rfl | decide +kernel | k_is)
  (case gT=>k_is)
  (case vT=>first | rfl | decide +kernel | k_is)
  (case gWc=>k_is)
  (case vWc=>first | rfl | decide +kernel | k_is)
  (case gSc=>k_is)
  (case vSc=>first | rfl | decide +kernel | k_is)
  (case gNc=>k_is)
  (case vNc=>first | rfl | decide +kernel | k_is)
  (case gRc=>k_is)
  (case vRc=>first | rfl | decide +kernel | k_is)
  case gN|lN=>k_is
  (case vN=>first | rfl | decide +kernel | k_is)
  case gF|lF=>k_is
  (case vF=>first | rfl | decide +kernel | k_is)
  (case lF1=>k_is)
  (case vF1=>first | rfl | decide +kernel | k_is)
  (case lF2=>k_is)
  (case vF2=>first | rfl | decide +kernel | k_is)
  (case lF3=>k_is)
  (case vF3=>first | rfl | decide +kernel | k_is)
  (case lF4=>k_is)
  (case vF4=>first | rfl | decide +kernel | k_is)
  case gI|lI=>k_is
  (case vI=>first | rfl | decide +kernel | k_is)
  case gPl|lPl=>k_is
  case sPl|vPl=>first | rfl | decide +kernel
  (case hPl=>first | rfl | (with_unfolding_all rfl))
  case gLi|lLi=>k_is
  case sLi|vLi=>first | rfl | decide +kernel
  (case hLi=>first | rfl | (with_unfolding_all rfl))
  (case lT1=>k_is)
  (case wT1=>first | rfl | decide +kernel | k_is)
  (case lT2=>k_is)
  (case wT2=>first | rfl | decide +kernel | k_is)
  (case lT3=>k_is)
  (case wT3=>first | rfl | decide +kernel | k_is)
  (case lT4=>k_is)
  (case wT4=>first | rfl | decide +kernel | k_is)
  case aY8|aY9|aY10|aY11|aY12|aY13|aY14|aY15|aY16|aY17|aY18|aY19|aY20=>k_is
  (case hKB=>first | kernel_rfl | decide +kernel | rfl)
  case z1|z2|z3|z4|z5|z6|z7|z8|z9|z10|z11|z12|z13|z14|z15|z16|z17|z18|z19=>k_is
  case sX1|sX2|sX3|sX4|sX5|sX6|sX7=>first | rfl | (with_unfolding_all rfl) | exact Eq.refl true
#print axioms PySem.Challenge.cw_grope_k22_refusals_apart_holds
