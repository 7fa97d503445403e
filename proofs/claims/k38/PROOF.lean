import PyProof.Rows.All
import Wide.All
import OpenK.AllK
import Wide.FinOn
import Lean
import PyProof.EqAt
import PyProof.EqKinds
import PyProof.TupleCall
import PyProof.StrReplace2
import PyProof.DictItems
import PyProof.EnumStmt
import PyProof.EnumFor
import PyProof.DictItemsLoops
import PyProof.ZipIter
import PyProof.IsRules
import PyProof.Rows.SortRev
import KE.KIntText
import OpenK.KRaise
import KE.TryInHelper
import PyProof.RulesRaise
import PyProof.Rows.RaiseClass
import PyProof.RaisesMany
import PyProof.ExcClass3
import PyProof.ExcBaseAll.ValueError
import KE.KTryMore
import PyProof.InstStoreFacts
import OpenK.KMake
import PyProof.ExcAttrAll.ValueError
import KE.KIsAll
import OpenK.KWalk
import OpenK.KDescr
import PyProof.PureStr
import PyProof.ExcStr
import PyProof.CallStr
import KE.KCallOwn
import KE.KSortTup
import PyProof.Rows.StrCut
import PyProof.StrBlock
import KE.IntTextLaws
import PyProof.DictValues
import PyProof.DictWalks
import PyProof.Rows.Range3
import KE.KDictOf
import KE.KRevIter
import KE.KDictList
import PyProof.EqAt
import PyProof.AttrMissHeap
import PySem.Challenge.RW_cabinet_k38_whole_paths_and_changes
set_option compiler.extract_closed false
set_option Elab.async false
set_option linter.all false
set_option maxRecDepth 100000
set_option maxHeartbeats 4000000
namespace L2
open PySem PySem.Spec PyProof.Rows
abbrev mC:=@wpAny_bind
abbrev mD:=@Nat.le_refl
abbrev mE:=@Heap.get?_push_of_some
abbrev mF:=@List.mem_cons_self
abbrev mG:=@List.mem_cons
abbrev mH:=@List.mem_cons_of_mem
abbrev mI:=@if_neg
abbrev mJ:=@List.length_map
abbrev mK:=@if_pos
abbrev mL:=@List.length_append
abbrev mM:=@wpAny_pure
abbrev mN:=@True.intro
abbrev mO:=@Heap.get?_update_other
abbrev mP:=@List.mem_singleton
abbrev mQ:=@List.mem_of_getElem?
abbrev mR:=@Heap.lt_size
abbrev mS:=@List.length_cons
abbrev mU:=@sizeLine_eq
abbrev mV:=@Option.some.inj
abbrev mW:=@Bool.false_ne_true
abbrev mX:=@Heap.get?_push_size
abbrev mY:=@List.map_cons
abbrev mZ:=@decide_eq_true
abbrev nA:=@List.map_append
abbrev nB:=@List.length_singleton
abbrev nD:=@List.mem_append
abbrev nE:=@List.getElem?_eq_some_iff
abbrev nF:=@List.getElem?_eq_getElem
abbrev nG:=@List.size_toArray
abbrev nH:=@Nat.lt_of_lt_of_le
abbrev nI:=@List.getElem?_map
abbrev nJ:=@decide_eq_false
abbrev nL:=@Nat.ne_of_lt
abbrev nM:=@List.mem_map
abbrev nN:=@Nat.le_trans
abbrev nO:=@Or.inl
abbrev nP:=@List.mem_append_right
abbrev nQ:=@List.take_length
abbrev nR:=@Int.toNat_natCast
abbrev nS:=@List.getD_eq_getElem?_getD
abbrev nU:=@List.length_take
abbrev nV:=@List.all_eq_true
abbrev nW:=@List.nodup_cons
abbrev nX:=@List.length_nil
abbrev nY:=@List.getElem?_append_right
abbrev nZ:=@Bool.and_eq_true
abbrev pA:=@List.replicate_succ
abbrev pB:=@Nat.zero_le
abbrev pC:=@decide_eq_true_eq
abbrev pG:=@wpAny_truthy_bool
abbrev pH:=@List.take_of_length_le
abbrev pJ:=@List.getElem?_cons_zero
abbrev pK:=@Nat.ne_of_gt
abbrev pP:=@List.flatten_cons
abbrev pQ:=@List.map_map
abbrev pT:=@List.mem_append_left
abbrev pU:=@List.getElem?_append_left
abbrev pX:=@wpAny_holding
abbrev pY:=@List.append_nil
abbrev pZ:=@W.mg_none_of
abbrev rA:=@Heap.get?_update_self
abbrev rB:=@List.filterMap_cons
abbrev rC:=@wpAny_field
abbrev rD:=@Bool.eq_iff_iff
abbrev rE:=@wpAny_Call_Name_kw
abbrev rF:=@wpAny_mono
abbrev rG:=@List.length_drop
abbrev rH:=@Array.getElem?_eq_some_iff
abbrev rJ:=@Nat.le_succ
abbrev rK:=@PySem.mem_of_lookup
abbrev rL:=@List.map_congr_left
abbrev rM:=@Bool.false_eq_true
abbrev rN:=@decide_eq_true_iff
abbrev rO:=@Nat.lt_irrefl
abbrev rP:=@Heap.size_push
abbrev rQ:=@wpAny_callSpecial?_slot
abbrev rR:=@List.append_assoc
abbrev rT:=@List.map_nil
abbrev rV:=@List.drop_eq_nil_of_le
abbrev rW:=@List.all_map
abbrev rX:=@wpAny_call_entry
abbrev rY:=@List.lookup_cons
abbrev rZ:=@List.drop_zero
abbrev sA:=@List.length_replicate
abbrev sB:=@List.getElem?_eq_none
abbrev sC:=@List.nodup_nil
abbrev sF:=@Array.getElem?_setIfInBounds_ne
abbrev sG:=@List.getElem?_set_ne
abbrev sH:=@codeAny_mono
abbrev sJ:=@Nat.not_lt_zero
abbrev sK:=@List.mem_of_mem_take
abbrev sP:=@wpAny_newObj_type
abbrev sQ:=@Nat.lt_succ_of_lt
abbrev sS:=@W.mg_of
abbrev sT:=@List.eq_nil_of_length_eq_zero
abbrev sU:=@Int.eq_ofNat_of_zero_le
abbrev sX:=@beq_eq_false_iff_ne
abbrev sY:=@List.flatMap_append
abbrev sZ:=@wpAny_setField
abbrev tD:=@F.plain_max_loop
abbrev tE:=@Nat.lt_succ_self
abbrev tF:=@List.not_mem_nil
abbrev tG:=@List.cons_ne_nil
abbrev tH:=@wpAny_typeOf_ref
abbrev tI:=@wpAny_pyNext_list_item
abbrev tJ:=@List.getElem?_set_self
abbrev tK:=@Calls.callWith_builtin
abbrev tL:=@PySem.F.plainAttrs_str
abbrev tM:=@PyProof.Rows.callWith_type1
abbrev tO:=@W.kia_one
abbrev tP:=@Int.emod_lt_of_pos
abbrev tQ:=@wpAny_execs_nil
abbrev tR:=@wpAny_passesOwn
abbrev tS:=@Array.getElem?_toList
abbrev tT:=@Nat.le_add_left
abbrev tU:=@List.take_append_drop
abbrev tV:=@if_false
abbrev tW:=@plainId_quiet
abbrev tX:=@Nat.le_succ_of_le
abbrev tY:=@Heap.get?_none_of_le
abbrev tZ:=@Around.under_plainId
abbrev aA:=@List.drop_eq_getElem_cons
abbrev aB:=@List.mem_of_mem_drop
abbrev aD:=@List.getLast?_eq_getElem?
abbrev aE:=@wpAny_seqItems
abbrev aF:=@wpAny_isInstance
abbrev aG:=@Nat.min_eq_right
abbrev aH:=@List.getElem_mem
abbrev aI:=@Array.length_toList
abbrev aJ:=@PySem.F.plainAttrs_dict
abbrev aK:=@wpAny_getItem_str_slice
abbrev aL:=@PySem.F.plainAttrs_list
abbrev aM:=@List.filter_cons_of_pos
abbrev aN:=@wpAny_standAt
abbrev aO:=@Bool.true_and
abbrev aP:=@wpAny_updateSeq
abbrev aQ:=@call_meets
abbrev aR:=@List.mem_filter
abbrev aS:=@List.foldl_cons
abbrev aT:=@List.nil_append
abbrev aU:=@List.find?_cons
abbrev aV:=@Nat.min_eq_left
abbrev aW:=@Int.emod_nonneg
abbrev aX:=@List.contains_cons
abbrev aY:=@wpAny_letGo
abbrev aZ:=@Int.mul_le_mul_of_nonneg_left
abbrev bA:=@List.nodup_append
abbrev bB:=@isSubtype_stop
abbrev bC:=@List.mem_range
abbrev bD:=@wpAny_tryCatch
abbrev bE:=@wpAny_execs_cons
abbrev bF:=@wpAny_call
abbrev bG:=@wpAny_attempt
abbrev bH:=@List.any_cons
abbrev bI:=@Array.getElem?_setIfInBounds_self_of_lt
abbrev bJ:=@length_partsBetween
abbrev bK:=@codeAny_builtin
abbrev bM:=@List.mem_or_eq_of_mem_set
abbrev bN:=@List.length_set
abbrev bO:=@Calls.Constant_str
abbrev bP:=@Calls.spliced_cons
abbrev bQ:=@PySem.F.slot_list_append
abbrev bR:=@PySem.F.slot_dict_values
abbrev bS:=@Nat.add_sub_cancel
abbrev bU:=@Bool.or_true
abbrev bV:=@wpAny_rule
abbrev bW:=@typeIs_str
abbrev bX:=@List.getElem?_cons_succ
abbrev bY:=@decide_eq_false_iff_not
abbrev bZ:=@List.filter_cons_of_neg
abbrev cA:=@List.getLast?_cons_cons
abbrev cB:=@wpAny_pyIter_list
abbrev cC:=@List.take_add_one
abbrev cD:=@Nat.lt_succ_of_le
abbrev cE:=@List.pairwise_map
abbrev cF:=@Or.inr
abbrev cG:=@List.drop_of_length_le
abbrev cH:=@List.sum_cons
abbrev cI:=@Bool.and_true
abbrev cJ:=@List.any_eq_true
abbrev cK:=@Nat.succ_le_succ
abbrev cL:=@wpAny_isTrue_Compare1
abbrev cM:=@PySem.F.slot_str_join
abbrev cN:=@PySem.F.type_str_join
abbrev cO:=@F.slot_str_ascii_iterator_next
abbrev cP:=@F.slot_dict_valueiterator_next
abbrev cQ:=@wpAny_typeNameOfWhole_itemiter
abbrev cR:=@Nat.le_of_lt
abbrev cS:=@wpAny_Name
abbrev cT:=@wpAny_loadName_local
abbrev cU:=@List.of_mem_zip
abbrev cV:=@PyProof.Rows.callWith_builtin1
abbrev cW:=@Calls.evalArgs_plain
abbrev cX:=@Nat.lt_trans
abbrev cY:=@post_val_or_str
abbrev cZ:=@codeAny_call_builtin
abbrev dA:=@Nat.mul_le_mul_right
abbrev dB:=@F.excBase_ValueError
abbrev dC:=@Int.mul_le_mul_of_nonneg_right
abbrev dD:=@Int.zero_add
abbrev dE:=@List.replicate_succ'
abbrev dF:=@List.length_dropLast
abbrev dG:=@wpAny_typeNameOfWhole_valiter
abbrev dH:=@F.slot_dict_itemiterator_next
abbrev dI:=@F.slot_dict_itemiterator_iter
abbrev dJ:=@wpAny_loadName_cell
abbrev dL:=@List.length_pos_iff
abbrev dM:=@if_true
abbrev dN:=@or_false
abbrev dO:=@W.kitx_dict
abbrev dP:=@tupleKind_room_in1
abbrev dQ:=@Nat.lt_of_le_of_lt
abbrev dR:=@List.pairwise_cons
abbrev dS:=@F.args_str_split_2
abbrev dU:=@List.set_cons_zero
abbrev dW:=@List.set_cons_succ
abbrev dX:=@List.take_nil
abbrev dY:=@List.map_take
abbrev dZ:=@wpAny_Assign_Name
abbrev eA:=@Calls.spliced_nil
abbrev eB:=@of_decide_eq_true
abbrev eC:=@F.entry_str_split
abbrev eD:=@List.length_range
abbrev eE:=@List.flatMap_cons
abbrev eF:=@Bool.not_eq_false
abbrev eG:=@List.filter_cons
abbrev eI:=@Txt.slice_le
abbrev eJ:=@F.entry_max_loop
abbrev eK:=@Nat.le_add_right
abbrev eL:=@Nat.sub_zero
abbrev eM:=@List.drop_length
abbrev eN:=@F.slot_str_split
abbrev eO:=@decide_eq_decide
abbrev eP:=@Bool.or_eq_true
abbrev eQ:=@exists_eq_left'
abbrev eR:=@W.kitx_list
def Hn(A:Around)(h:Heap):Prop:=∀v,A.handled=some v→∃x o C vs,v= .ref x∧h.get? x=some o∧o.cls= .ref C∧o.data= .fields vs∧vs[2]? =some Value.none
theorem Hn.kept{A:Around}{h h':Heap}(n:Hn A h)(k:∀b o C,o.cls= .ref C→h.get? b=some o→h'.get? b=some o):Hn A h':=fun v e=>by
 obtain⟨x,o,C,vs,a,b,c,d⟩:=n v e;exact⟨x,o,C,vs,a,k x o C c b,c,d⟩
theorem Hn.keeps{A:Around}{h h':Heap}(n:Hn A h)(k:∀b o,h.get? b=some o→h'.get? b=some o):Hn A h':=n.kept fun b o _ _=>k b o
theorem Hn.ext{A:Around}{h h':Heap}{it:Addr}{oi:Obj}{T:String}(n:Hn A h)(hi:h.get? it=some oi)(hT:oi.cls= .type T)(k:∀b o,b≠it→h.get? b=some o→h'.get? b=some o):Hn A h':=
 n.kept fun b o C c e=>k b o (fun z=>by subst z;rw[hi] at e;cases e;rw[hT] at c;cases c) e
theorem zCb:entryFor table "proto.unchain" =some Builtin.«proto.unchain»:=entryFor_of_fast (by kernel_rfl)
section
variable{prog:Program}{w:World}{A:Around}{E:Value→Shared→Prop}{s:Shared}{e:Addr}{oe:Obj}{ve:Array Value}
theorem zNl{α:Type}{Q:α→Shared→Prop}{T:String}(hn:Hn A s.heap)(e1:s.heap.get? e=some oe)(hT:oe.cls= .type T)(e2:oe.data= .fields ve)(hs:2<ve.size)
  (q:∀h' vs',(∀b o,b≠e→s.heap.get? b=some o→h'.get? b=some o)→(∀b,s.heap.get? b=none→h'.get? b=none)→h'.get? e=some {oe with data:=.fields vs'}→(vs'=ve∨∃c,vs'=ve.setIfInBounds 2 c)→E (.ref e) {s with heap:=h'}):wpAny (model prog w) A (raiseNew (.ref e):Sem α) Q E s:=by
 unfold raiseNew;refine mC (wpAny_handled ?_)
 cases hh:A.handled with
 | none=>exact mC (mM (wpAny_throw (q s.heap ve (fun _ _ _ z=>z) (fun _ z=>z) (by rw[e1,←e2]) (.inl rfl))))
 | some v=>
  obtain⟨x,o,C,vs,rfl,h1,h2,h3,h4⟩:=hn v hh;have ne:x≠e:=fun z=>by subst z;rw[e1] at h1;cases h1;rw[hT] at h2;cases h2
  dsimp only;rw[mK (by
   refine bne_iff_ne.mpr fun z=>ne ?_;cases z;rfl)]
  refine mC (pX (runValue_entry zCb ?_));unfold Builtin.«proto.unchain»;dsimp only;refine mC (rC h1 h3 h4 ?_);rw[mK (by rfl)];refine mM ⟨_,rfl, ?_⟩;refine mC (sZ e1 e2 hs ?_);refine wpAny_throw (q _ (ve.setIfInBounds 2 (.ref x)) (fun b o hb z=>(mO _ _ (Ne.symm hb)).trans z) (fun b z=>?_) ?_ (.inr ⟨_,rfl⟩))
  ·by_cases hb:b=e
   ·subst hb;rw[e1] at z;cases z
   ·exact(mO _ _ (Ne.symm hb)).trans z
  ·have:(Obj.mapFields (fun xs=>xs.setIfInBounds 2 (.ref x)) oe)={oe with data:=.fields (ve.setIfInBounds 2 (.ref x))}:=by
    cases oe;cases e2;rfl
   rw[←this];exact rA _ e1 (by rw[this];rfl)
theorem zAn{α:Type}{Q:α→Shared→Prop}{R:Value→Shared→Prop}(hn:Hn A s.heap)
  (hR:∀e h',(∀b o,s.heap.get? b=some o→h'.get? b=some o)→(∃oe,h'.get? e=some oe∧oe.cls= .type "StopIteration")→R (.ref e) {s with heap:=h'}):
  wpAny (model prog w) A (do let e ←PySem.newExc (.type "StopIteration") [];raiseNew e:Sem α) Q R s:=by
 refine mC ?_;simp only[PySem.newExc,newTuple];refine mC (sP ?_ (by size_fits));refine mC (m:=firstArgMember _ _) (wpAny_of_eq (a:=Value.none) (by first | rfl |(simp only[firstArgMember];rfl)) ?_)
 refine sP ?_ (by size_fits);refine zNl ?_ (mX _ rfl) rfl rfl (by simp;lia) fun h' vs' k1 _ k2 _=>?_
 ·exact hn.keeps fun b o e=>mE _ (mE _ e)
 ·refine hR _ h' (fun b ob e=>?_) ⟨_,k2,rfl⟩
  have e1:=mE {cls:=.type "tuple",data:=.seq ([]:List Value).toArray} e;exact k1 b ob (nL (mR e1)) (mE _ e1)
theorem zHu{α:Type}{it:Addr}{o:Obj}{v:Value}{k:Nat}{vs:Array Value}{Ti:String}{Q:α→Shared→Prop}{R:Value→Shared→Prop}(hn:Hn A s.heap)(ho:s.heap.get? it=some o)(hc:o.cls= .type Ti)(hd:o.data= .fields vs)(hk:k<vs.size)
  (hR:∀e h',Heap.ExtBut it s.heap h'→(∃oe,h'.get? e=some oe∧oe.cls= .type "StopIteration")→R (.ref e) {s with heap:=h'}):
  wpAny (model prog w) A (do setField (.ref it) k v;let e ←PySem.newExc (.type "StopIteration") [];raiseNew e:Sem α) Q R s:=by
 refine mC (sZ ho hd hk ?_);exact zAn (hn.ext ho hc fun b o hb e=>(mO _ _ (Ne.symm hb)).trans e) fun e h' k1 k2=>hR e h' (fun b ob hb e=>k1 b ob ((mO _ _ (Ne.symm hb)).trans e)) k2
theorem vY{it l:Addr}{i:Nat}{items:Array Value}{Q:Option Value→Shared→Prop}(hn:Hn A s.heap)(hit:s.heap.IsListIter it l i)(hl:s.heap.IsList l items)(hx:items[i]? =none)
  (hQ:∀h',Heap.ExtBut it s.heap h'→Q none {s with heap:=h'}):wpAny (model prog w) A (pyNext (.ref it)) Q E s:=by
 obtain⟨o,ho,hc,hd⟩:=id hit;obtain⟨ol,hol,_,nl,hdl⟩:=hl;unfold pyNext;refine mC (bG (rQ (name:=Str.ofString "__next__") hit.typeIs slot_listiter_next
  (rX slot_listiter_next hit.typeIs entry_listiter_next ?_ (args_listiter_next _))))
 show wpAny _ _ (field (.ref it) 0>>=_) _ _ s;refine mC (rC ho hd (x:=.ref l) rfl ?_);show wpAny _ _ (if(Value.ref l==Value.none)=true then _ else _) _ _ s;rw[mI (show¬((Value.ref l==Value.none)=true) from mW)];show wpAny _ _ (field (.ref it) 1>>=_) _ _ s;refine mC (rC ho hd (x:=.int i 0) rfl ?_);show wpAny _ _ (seqItems? (.ref l)>>=_) _ _ s;refine mC (aE hol hdl ?_);simp only[nR,hx];refine mC (bV (zHu (A:=A.in1) hn ho hc hd (by simp) fun e h' k ⟨oe,he,hT⟩=>?_));refine mC (aF (T:="StopIteration") (b:=true) ⟨oe,he,hT⟩ bB ?_);exact mM (hQ _ k)
theorem zBd{it t:Addr}{i:Nat}{items:Array Value}{Q:Option Value→Shared→Prop}(hn:Hn A s.heap)(hit:IsTupIter s.heap it t i)(ht:IsTup s.heap t items)(hx:items[i]? =none)
  (hQ:∀h',Heap.ExtBut it s.heap h'→Q none {s with heap:=h'}):wpAny (model prog w) A (pyNext (.ref it)) Q E s:=by
 obtain⟨o,ho,hc,hd⟩:=id hit;obtain⟨ol,hol,_,nl,hdl⟩:=ht;unfold pyNext;refine mC (bG (rQ (name:=Str.ofString "__next__") hit.typeIs slot_tupleiter_next
  (rX slot_tupleiter_next hit.typeIs entry_tupleiter_next ?_ (args_tupleiter_next _))))
 show wpAny _ _ (field (.ref it) 0>>=_) _ _ s;refine mC (rC ho hd (x:=.ref t) rfl ?_);show wpAny _ _ (if(Value.ref t==Value.none)=true then _ else _) _ _ s;rw[mI (show¬((Value.ref t==Value.none)=true) from mW)];show wpAny _ _ (field (.ref it) 1>>=_) _ _ s;refine mC (rC ho hd (x:=.int i 0) rfl ?_);show wpAny _ _ (seqItems? (.ref t)>>=_) _ _ s;refine mC (aE hol hdl ?_);simp only[nR,hx];refine mC (bV (zHu (A:=A.in1) hn ho hc hd (by simp) fun e h' k ⟨oe,he,hT⟩=>?_));refine mC (aF (T:="StopIteration") (b:=true) ⟨oe,he,hT⟩ bB ?_);exact mM (hQ _ k)
theorem zKa{it:Addr}{x:Str}{t:Tok}{i:Nat}{Q:Option Value→Shared→Prop}(hn:Hn A s.heap)
  (hit:s.heap.IsStrIter it "str_ascii_iterator" x t i) (hx:x.cps[i]? =none)
  (hQ:∀h',Heap.ExtBut it s.heap h'→Q none {s with heap:=h'}):wpAny (model prog w) A (pyNext (.ref it)) Q E s:=by
 obtain⟨o,ho,hc,hd⟩:=id hit;unfold pyNext;refine mC (bG (rQ (name:=Str.ofString "__next__") hit.typeIs cO
  (rX cO hit.typeIs F.entry_str_ascii_iterator_next ?_ (F.args_str_ascii_iterator_next_1 _))))
 show wpAny _ _ (field (.ref it) 0>>=_) _ _ s;refine mC (rC ho hd (x:=.str x t) rfl ?_);show wpAny _ _ (field (.ref it) 1>>=_) _ _ s;refine mC (rC ho hd (x:=.int i 0) rfl ?_);simp only[nR,hx];refine mC (bV (mC (sZ ho hd (by simp) (mC (aY ?_)))));refine zAn (A:=A.in1) ?_ fun e h' k ⟨oe,he,hT⟩=>?_
 ·exact hn.ext ho hc fun b o hb e=>(mO _ _ (Ne.symm hb)).trans e
 refine mC (aF (T:="StopIteration") (b:=true) ⟨oe,he,hT⟩ bB ?_);exact mM (hQ _ fun b ob hb e=>k b ob ((mO _ _ (Ne.symm hb)).trans e))
theorem zMd{it:Addr}{x:Str}{t:Tok}{i:Nat}{Q:Option Value→Shared→Prop}(hn:Hn A s.heap)
  (hit:s.heap.IsStrIter it "str_iterator" x t i) (hx:x.cps[i]? =none)
  (hQ:∀h',Heap.ExtBut it s.heap h'→Q none {s with heap:=h'}):wpAny (model prog w) A (pyNext (.ref it)) Q E s:=by
 obtain⟨o,ho,hc,hd⟩:=id hit;unfold pyNext;refine mC (bG (rQ (name:=Str.ofString "__next__") hit.typeIs F.slot_str_iterator_next
  (rX F.slot_str_iterator_next hit.typeIs F.entry_str_iterator_next ?_ (F.args_str_iterator_next_1 _))))
 show wpAny _ _ (field (.ref it) 0>>=_) _ _ s;refine mC (rC ho hd (x:=.str x t) rfl ?_);show wpAny _ _ (field (.ref it) 1>>=_) _ _ s;refine mC (rC ho hd (x:=.int i 0) rfl ?_);simp only[nR,hx];refine mC (bV (mC (sZ ho hd (by simp) (mC (aY ?_)))));refine zAn (A:=A.in1) ?_ fun e h' k ⟨oe,he,hT⟩=>?_
 ·exact hn.ext ho hc fun b o hb e=>(mO _ _ (Ne.symm hb)).trans e
 refine mC (aF (T:="StopIteration") (b:=true) ⟨oe,he,hT⟩ bB ?_);exact mM (hQ _ fun b ob hb e=>k b ob ((mO _ _ (Ne.symm hb)).trans e))
theorem zVk{t:Addr}{items:Array Value}{targets:List (Bool×(Value→Sem Unit))}{Q:Unit→Shared→Prop}(hn:Hn A s.heap)(ht:IsTup s.heap t items)(hl:targets.length=items.size)(hstar:targets.findIdx? (·.1)=none)
  (h:∀h',Heap.ExtBut s.heap.objs.size s.heap h'→wpAny (model prog w) A (assignInOrder (targets.map (·.2)) items.toList) Q E {s with heap:=h'}):
  wpAny (model prog w) A (unpack (.ref t) targets) Q E s:=by
 have hlt:t≠s.heap.objs.size:=by obtain⟨o,ho,_⟩:=ht;exact nL (mR ho)
 unfold unpack;rw[hl,hstar];refine mC (pX ?_);unfold unpackItems;refine mC ?_;unfold notIterableAtAll;refine mC (wpAny_specialOf ht.typeIs slot_tuple_iter.lookup ?_);refine mM ?_;simp only[rM,tV];refine mC (pX (iter_tuple ht ?_));refine mC (pX (draw_tuple hlt items.size 0 _ _ ⟨_,mX _ rfl,rfl,rfl⟩ (ht.push _) (by lia) fun h₁ hit₁ hs₁=>?_));have hall:List.take items.size (List.drop 0 items.toList)=items.toList:=by
  rw[rZ];exact pH (by simp)
 rw[hall];rw[mI (by simp)];have ht₁:IsTup h₁ t items:=(ht.push _).extBut hs₁.extBut hlt;refine mC (pX (zBd ((hn.keeps fun b o e=>mE _ e).ext (mX _ rfl) rfl hs₁.extBut) hit₁ ht₁ (by simp) fun h₂ he₂=>?_));simp only[Option.isSome_none,rM,tV];exact mM (h h₂ fun b o hb e=>he₂ b o hb (hs₁.extBut b o hb (mE _ e)))
theorem uD{x:Option Addr}(hx:∀v,A.handled=some v→∃a,x=some a∧v= .ref a)(I ax:Addr)(hne:ax≠I)(items:Array Value):
  Walks prog w A I ([I,ax]++x.toList) [I] items.size (fun i v=>items[i]? =some v) (fun i h=>h.IsListIter I ax i∧h.IsList ax items∧Hn A h) where
 sub:=fun b hb=>by simp at hb;simp[hb]
 frame:=fun _ _ _ st hk=>⟨st.1.at fun o e=>hk I (by simp) o e,st.2.1.at fun o e=>hk ax (by simp) o e,fun v e=>by
  obtain⟨a,rfl,rfl⟩:=hx v e;obtain⟨x,o,C,vs,z,h1,h2⟩:=st.2.2 _ e;cases z;exact⟨a,o,C,vs,rfl,hk a (by simp) o h1,h2⟩⟩
 item:=fun i s Q E hi st hQ=>by
  obtain⟨o,ho,hc,hd⟩:=id st.1;refine tI st.1 st.2.1 (x:=items[i]) (by simp[hi]) fun h' hit' hs'=>?_;exact hQ _ h' s.toks (by simp[hi]) ⟨hit',st.2.1.extBut hs'.extBut hne,st.2.2.ext ho hc hs'.extBut⟩ fun b o hb e=>hs'.extBut b o (fun h=>hb (by simp[h])) e
 done:=fun s Q E st hQ=>vY st.2.2 st.1 st.2.1 (by simp) fun h' he'=>hQ h' s.toks fun b o hb e=>he' b o (fun h=>hb (by simp[h])) e
 self:=fun _ _ _ _ st hQ=>wpAny_pyIter_listiter st.1 hQ
end
theorem zDg{prog:Program}{w:World}{A:Around}{E:Value→Shared→Prop}{s:Shared}{env:Env}{elts:List Expr}{x1}{pos:Pos}{t:Addr}{items:Array Value}{Q:Unit→Shared→Prop}(hh:Hn A s.heap)(ht:IsTup s.heap t items)
  (hn:(assignEach elts env).length=items.size) (hstar:(assignEach elts env).findIdx? (·.1)=none)
  (h:∀h',Heap.ExtBut s.heap.objs.size s.heap h'→wpAny (model prog w) A (assignInOrder ((assignEach elts env).map (·.2)) items.toList) Q E {s with heap:=h'}):
  wpAny (model prog w) A (assign (.Tuple elts x1 pos) env (.ref t)) Q E s:=by
 rw[assign_Tuple];exact mC (aN (zVk hh ht hn hstar h))
section
variable{prog:Program}{w:World}{κ:Type} [DecidableEq κ] {knd:KeyKind prog w κ} {A:Around} {E:Value→Shared→Prop} {s:Shared}
theorem zFz{it d:Addr}{i ep:Nat}{kvs:List (κ×Value)}{Q:Option Value→Shared→Prop}(hh:Hn A s.heap)(hit:s.heap.IsValIter it d i kvs.length ep)
  (hm:s.heap.DictAt knd d kvs ep) (hx:kvs[i]? =none)
  (hQ:∀h',Heap.ExtBut it s.heap h'→Q none {s with heap:=h'}):wpAny (model prog w) A (pyNext (.ref it)) Q E s:=by
 obtain⟨o,ho,hc,hd⟩:=id hit;obtain⟨od,es,hod,hcd,hdd,hk,hp,hn⟩:=id hm;unfold pyNext;refine mC (bG (rQ (name:=Str.ofString "__next__") hit.typeIs cP
  (rX cP hit.typeIs F.entry_dict_valueiterator_next ?_ (F.args_dict_valueiterator_next_1 _))))
 refine mC (mM ?_);refine mC ?_;refine mC ?_
 first | refine mC (dG hit.typeIs (mM ?_))| refine mC (wpAny_typeNameOf_valiter hit.typeIs (mM ?_))
 refine mC (wpAny_fieldsOf ho hd ?_);have hown:Builtin.Dict_items.ownsTuple "dict_valueiterator" =false:=by decide
 simp only[hown,rM,tV];show wpAny _ _ (if(Value.ref d==Value.none)=true then _ else _) _ _ s;rw[mI (show¬((Value.ref d==Value.none)=true) from mW)];refine mC (mM ?_);refine mC (wpAny_dictEntries hod hdd ?_);have hsz:es.size=kvs.length:=by rw[←hp.length];simp
 rw[mI (by rw[hsz];simp)];refine mC (mM ?_);refine mC (wpAny_dictEpoch hod hdd ?_);rw[mI (by simp)];refine mM ?_;have hge:es.size≤i:=by rw[hsz];simpa using hx
 simp only[show¬((i:Int)<0) from by lia,tV,nR,Array.getElem?_eq_none hge];refine mC ?_
 first | refine mC (dG hit.typeIs (mM ?_))| refine mC (wpAny_typeNameOf_valiter hit.typeIs (mM ?_))
 refine zHu (A:=A.in1) (k:=0) hh ho hc hd (by simp) fun e h' k ⟨oe,he,hT⟩=>?_;refine mC (aF (T:="StopIteration") (b:=true) ⟨oe,he,hT⟩ bB ?_);exact mM (hQ _ k)
theorem zGp{x:Option Addr}(hx:∀v,A.handled=some v→∃a,x=some a∧v= .ref a)(I d:Addr)(hne:d≠I)(kvs:List (κ×Value))(ep:Nat):
  Walks prog w A I ([I,d]++x.toList) [I] kvs.length (fun i v=>∃k,kvs[i]? =some (k,v)) (fun i h=>h.IsValIter I d i kvs.length ep∧h.DictAt knd d kvs ep∧Hn A h) where
 sub:=fun b hb=>by simp at hb;simp[hb]
 frame:=fun _ _ _ st hk=>⟨st.1.at fun o e=>hk I (by simp) o e,st.2.1.at' fun o e=>hk d (by simp) o e,fun v e=>by
  obtain⟨a,rfl,rfl⟩:=hx v e;obtain⟨x,o,C,vs,z,h1,h2⟩:=st.2.2 _ e;cases z;exact⟨a,o,C,vs,rfl,hk a (by simp) o h1,h2⟩⟩
 item:=fun i s Q E hi st hQ=>by
  obtain⟨o,ho,hc,hd⟩:=id st.1;obtain⟨⟨k,x⟩,hx⟩:∃p,kvs[i]? =some p:=⟨kvs[i],by simp[hi]⟩;refine wpAny_pyNext_values_item st.1 st.2.1 hx fun h' hit' hs'=>?_;exact hQ x h' s.toks ⟨k,hx⟩ ⟨hit',st.2.1.extBut hs'.extBut hne,st.2.2.ext ho hc hs'.extBut⟩ fun b o hb e=>hs'.extBut b o (fun h=>hb (by simp[h])) e
 done:=fun s Q E st hQ=>zFz st.2.2 st.1 st.2.1 (by simp) fun h' he'=>hQ h' s.toks fun b o hb e=>he' b o (fun h=>hb (by simp[h])) e
 self:=fun _ _ _ _ st hQ=>wpAny_pyIter_valiter st.1 hQ
theorem zKi{r d:Addr}{kvs:List (κ×Value)}{ep:Nat}{Q:Value→Shared→Prop}(hh:Hn A s.heap)(hv:s.heap.IsValuesView r d)(hm:s.heap.DictAt knd d kvs ep)(hn:kvs.length≤sizeLine)
  (hQ:∀h' tk acc' c',(∀b o,s.heap.get? b=some o→h'.get? b=some o)→h'.get? s.heap.objs.size=some {cls:=.type "list",dict:=none,data:=.seq acc' c',slots:=#[]}→ItemsOf (fun i v=>∃k,kvs[i]? =some (k,v)) acc' kvs.length→Q (.ref s.heap.objs.size) {s with heap:=h',toks:=tk}):
  wpAny (model prog w) A (call (.type "list") [.ref r]) Q E s:=by
 have K:=PySem.W.kdl_values (prog:=prog) (w:=w) (knd:=knd) (r:=r) (d:=d) (kvs:=kvs) (ep:=ep);refine callType_codes (Q₁:=fun obj s₁=>obj= .ref s.heap.objs.size∧s₁={s with heap:=s.heap.push {cls:=.type "list",data:=.seq #[]}}) PySem.F.called_list (PySem.F.typeCall_list_1 _) PySem.F.entry_list_init
  (code_list_new _ ⟨rfl,rfl⟩) fun obj s₁ h₁=>?_
 obtain⟨rfl,rfl⟩:=h₁;have hS:(s.heap.push {cls:=.type "list",data:=.seq #[]}).get? s.heap.objs.size=some {cls:=.type "list",data:=.seq #[]}:=mX _ rfl;have hlt:=K.there _ ⟨hv,hm⟩;have hok:=K.keep _ (s.heap.push {cls:=.type "list",data:=.seq #[]}) ⟨hv,hm⟩ fun b _ o e=>mE _ e;have hh1:Hn A (s.heap.push {cls:=.type "list",data:=.seq #[]}):=hh.keeps fun b o e=>mE _ e;have hSr:s.heap.objs.size≠r:=pK hlt.1;have hSd:s.heap.objs.size≠d:=pK hlt.2;have hk0:∀b o,s.heap.get? b=some o→(s.heap.push {cls:=.type "list",data:=.seq #[]}).get? b=some o:=fun b o e=>mE _ e;refine⟨⟨_,hS,rfl⟩,PySem.F.args_list_init_2 _ _, ?_⟩;have hQ':∀h' tk acc' c',(∀b o,b≠s.heap.objs.size→(s.heap.push {cls:=.type "list",data:=.seq #[]}).get? b=some o→h'.get? b=some o)→h'.get? s.heap.objs.size=some {cls:=.type "list",dict:=none,data:=.seq acc' c',slots:=#[]}→ItemsOf (fun i v=>∃k,kvs[i]? =some (k,v)) acc' kvs.length→Q (.ref s.heap.objs.size) {s with heap:=h',toks:=tk}:=
  fun h' tk acc' c' hk=>hQ h' tk acc' c' fun b o e=>hk b o (nL (mR e)) (hk0 b o e)
 generalize hS0:s.heap.objs.size=S at hS hSr hSd hQ'⊢;generalize (s.heap.push {cls:=.type "list",data:=.seq #[]})=h1 at hS hok hh1 hQ'⊢;show wpAny _ _ (do let old ←Builtin.List.listItems (.ref S);Builtin.List.listUpdate (.ref S) (fun _=>#[]);letGo old.toList.reverse;Builtin.List.listExtendWith (.ref S) (.ref r) .none) _ _ {s with heap:=h1};refine mC ?_;unfold Builtin.List.listItems;refine mC (aE hS rfl (mM ?_));show wpAny _ _ (updateSeq S (fun _=>#[])>>=fun _=>letGo (#[]:Array Value).toList.reverse>>=fun _=>Builtin.List.listExtendWith (.ref S) (.ref r) .none) _ _ _;refine mC (aP hS rfl ?_);have hS₂:=rA (Obj.mapSeq (fun _=>(#[]:Array Value))) hS rfl;have oth:∀b o,b≠S→h1.get? b=some o→(h1.update S (Obj.mapSeq (fun _=>(#[]:Array Value)))).get? b=some o:=
  fun b o hb e=>(mO _ _ (Ne.symm hb)).trans e
 refine mC (aY ?_);have hok2:=K.keep _ (h1.update S (Obj.mapSeq (fun _=>(#[]:Array Value)))) hok fun b hb o e=>oth b o (by rcases hb with rfl | rfl;exact hSr.symm;exact hSd.symm) e
 have hh2:Hn A (h1.update S (Obj.mapSeq (fun _=>(#[]:Array Value)))):=hh1.ext hS rfl oth
 replace hQ':=fun h' tk acc' c' (hk:∀b o,b≠S→(h1.update S (Obj.mapSeq (fun _=>(#[]:Array Value)))).get? b=some o→h'.get? b=some o)=>hQ' h' tk acc' c' fun b o hb e=>hk b o hb (oth b o hb e)
 clear oth hok hh1 hk0;dsimp only at hS₂⊢;generalize h1.update S (Obj.mapSeq (fun _=>(#[]:Array Value)))=h2 at hS₂ hok2 hh2 hQ'⊢;obtain⟨x,hx,hxS⟩:∃x:Option Addr,(∀v,A.handled=some v→∃a,x=some a∧v= .ref a)∧∀a∈x.toList,S≠a∧a<h2.objs.size:=by
  cases e:A.handled with
  | none=>exact⟨none,fun v z=>(nomatch z),fun a ha=>by simp at ha⟩
  | some v=>
   obtain⟨x,o,C,vs,rfl,a1,a2,a3⟩:=hh2 v e;refine⟨some x,fun v z=>⟨x,rfl,(mV z).symm⟩,fun a ha=>?_⟩;have ha:a=x:=by simpa using ha
   subst ha;refine⟨fun z=>?_,mR a1⟩;subst z;rw[a1] at hS₂;cases hS₂;cases a2
 have hSI:S≠h2.objs.size:=nL (mR hS₂);have hSf:S∉ [h2.objs.size,d]++x.toList:=by
  intro z;rcases nD.mp z with z | z
  ·rcases mG.mp z with z | z
   ·exact hSI z
   ·exact hSd (mP.mp z)
  ·exact(hxS S z).1 rfl
 have hdl:d≠h2.objs.size:=nL (K.there _ hok2).2;have W:=zGp (prog:=prog) (w:=w) (knd:=knd) (A:=A.in1.in1) (x:=x) hx h2.objs.size d hdl kvs ep;have key:∀(h:Heap)(c₁ tk:Nat),(h.IsValIter h2.objs.size d 0 kvs.length ep∧h.DictAt knd d kvs ep∧Hn A.in1.in1 h)→(∀b o,b≠S→h2.get? b=some o→h.get? b=some o)→
   h.get? S=some {cls:=.type "list",data:=.seq #[] c₁}→codeAny (model prog w) A.in1 (.builtin "list.extend.loop" ⟨[.ref S, .ref h2.objs.size, .none],[]⟩) (fun r s'=>match r with | .ok (.ret v)=>v=Value.none∧Q (.ref S) s' | .ok _=>False | .error e=>E e s') {s with heap:=h,toks:=tk}:=by
  intro h c₁ tk hst hk hS₁;refine codeAny_extend_loopS W.toS hn S hSf .none kvs.length 0 _ #[] c₁ rfl (pB _) hst hS₁ (ItemsOf.nil _) fun s' acc' c' hm hS' hacc=>?_;rw[Moved.eq_with hm];refine⟨rfl,hQ' s'.heap s'.toks acc' c' (fun b o hb e=>hm.heap b o (fun hmem=>?_) (hk b o hb e)) hS' hacc⟩;rcases mG.mp hmem with e' | hmem
  ·exact hb e'
  ·exact absurd (mR e) (by rw[mP.mp hmem];exact rO _)
 unfold Builtin.List.listExtendWith;refine mC (wpAny_typeOf (T:="dict_values") (K.type _ hok2) ?_);have h1':Builtin.List.listSameRef (.ref S) (.ref r)=false:=by simp[Builtin.List.listSameRef,hSr]
 simp only[h1',K.notList,K.notTuple,Bool.or_false,rM,tV];refine mC (wpAny_pyIter_values hok2.1 hok2.2 ?_);have st:∀oI,oI=({cls:=.type "dict_valueiterator",data:=.fields #[.ref d, .int 0 0, .int kvs.length 0, .int ep 0]}:Obj)→(h2.push oI).IsValIter h2.objs.size d 0 kvs.length ep∧(h2.push oI).DictAt knd d kvs ep∧Hn A.in1.in1 (h2.push oI):=fun oI e=>by
  subst e;exact⟨⟨_,mX _ rfl,rfl,rfl⟩,hok2.2.push _,hh2.keeps fun b o e=>mE _ e⟩
 have st:=st _ rfl;have hS₁:=mE ({cls:=.type "dict_valueiterator",data:=.fields #[.ref d, .int 0 0, .int kvs.length 0, .int ep 0]}:Obj) hS₂;have hk1:∀b o,h2.get? b=some o→(h2.push ({cls:=.type "dict_valueiterator",data:=.fields #[.ref d, .int 0 0, .int kvs.length 0, .int ep 0]}:Obj)).get? b=some o:=fun b o e=>mE _ e;refine mC (pX (K.hint _ _ _ _ (K.keep _ _ hok2 fun b _ o e=>mE _ e) ?_));refine wpAny_ite_split (fun _=>?_) (fun _=>mM ⟨tW PySem.F.plain_extend_loop _,key _ _ _ st (fun b o _ e=>hk1 b o e) hS₁⟩);refine mC (bV ?_);refine mC ?_;show wpAny _ _ (updateSeq S (·.push .none)>>=fun _=>updateSeq S (·.pop)) _ _ _;refine mC (aP hS₁ rfl ?_);have hS₃:=rA (Obj.mapSeq (·.push Value.none)) hS₁ rfl;refine aP (hz:=by seq_fits) hS₃ rfl ?_;have hS₄:=rA (Obj.mapSeq (·.pop)) hS₃ rfl;refine mM ⟨tW PySem.F.plain_extend_loop _,key _ _ _ ?_ (fun b o hb e=>?_) hS₄⟩
 ·refine W.frame 0 _ _ st fun b hb o e=>?_
  have hbS:b≠S:=fun h=>hSf (h▸hb);exact(mO _ _ (Ne.symm hbS)).trans ((mO _ _ (Ne.symm hbS)).trans e)
 ·exact(mO _ _ (Ne.symm hb)).trans ((mO _ _ (Ne.symm hb)).trans (hk1 b o e))
end
section
variable{prog:Program}{w:World}{κ:Type} [DecidableEq κ] {knd:KeyKind prog w κ} {A:Around} {E:Value→Shared→Prop} {s:Shared}
theorem zJo{it d:Addr}{i ep:Nat}{kvs:List (κ×Value)}{ok ov:Value}{Q:Option Value→Shared→Prop}(hh:Hn A s.heap)(hit:IsItemIter s.heap it d i kvs.length ep ok ov)
  (hm:s.heap.DictAt knd d kvs ep) (hx:kvs[i]? =none)
  (hQ:∀h',Heap.ExtBut it s.heap h'→Q none {s with heap:=h'}):wpAny (model prog w) A (pyNext (.ref it)) Q E s:=by
 obtain⟨od,es,hod,hcd,hdd,hk,hpr,hn⟩:=id hm;have hT:s.TypeIs (.ref it) "dict_itemiterator":=⟨_,hit,rfl⟩;unfold pyNext;refine mC (bG (rQ (name:=Str.ofString "__next__") hT dH
  (rX dH hT F.entry_dict_itemiterator_next ?_ (F.args_dict_itemiterator_next_1 _))))
 refine mC (mM ?_);refine mC ?_;refine mC ?_
 first | refine mC (cQ hT (mM ?_))| refine mC (wpAny_typeNameOf_itemiter hT (mM ?_))
 refine mC (wpAny_fieldsOf hit rfl ?_);have hown:Builtin.Dict_items.ownsTuple "dict_itemiterator" =true:=by decide
 simp only[hown,dM];show wpAny _ _ (if(Value.ref d==Value.none)=true then _ else _) _ _ s;rw[mI (show¬((Value.ref d==Value.none)=true) from mW)];refine mC (mM ?_);refine mC (wpAny_dictEntries hod hdd ?_);have hsz:es.size=kvs.length:=by rw[←hpr.length];simp
 rw[mI (by rw[hsz];simp)];refine mC (mM ?_);refine mC (wpAny_dictEpoch hod hdd ?_);rw[mI (by simp)];refine mM ?_;have hge:es.size≤i:=by rw[hsz];simpa using hx
 simp only[show¬((i:Int)<0) from by lia,tV,nR,Array.getElem?_eq_none hge];refine mC ?_
 first | refine mC (cQ hT (mM ?_))| refine mC (wpAny_typeNameOf_itemiter hT (mM ?_))
 refine zHu (A:=A.in1) (k:=2) hh hit rfl rfl (by simp) fun e h' k ⟨oe,he,hT⟩=>?_;refine mC (aF (T:="StopIteration") (b:=true) ⟨oe,he,hT⟩ bB ?_);exact mM (hQ _ k)
end
section
variable{prog:Program}{w:World}{A:Around}{E:Value→Shared→Prop}
def zYk(h h':Heap)(e:Addr)(o:Value)(name:Str):Prop:=(∀b ob,h.get? b=some ob→h'.get? b=some ob)∧∃t c u,h'.get? e=some {cls:=.type "AttributeError",data:=.fields #[t, .none,c, .none, .bool false, .none, .str name u,o]}
theorem zJj{α:Type}{s:Shared}{o:Value}{name:Str}{msg:Str}{Q:α→Shared→Prop}(hh:Hn A s.heap)
  (h:∀h' tk e,zYk s.heap h' e o name→E (.ref e) {s with heap:=h',toks:=tk}) (hm:msg.length≤sizeLine:=by size_fits):
  wpAny (model prog w) A (raiseAttrError o name msg:Sem α) Q E s:=by
 unfold raiseAttrError;refine mC (wpAny_mkStr (mC ?_) hm);unfold PySem.newExc newTuple;refine mC (sP ?_ (by size_fits));refine mC (m:=firstArgMember _ _) (wpAny_of_eq (a:=Value.none) (by simp only[firstArgMember,attrError_no_first];rfl) ?_);rw[ownMembersOf_AttributeError];refine sP ?_ (by size_fits);obtain⟨hp,g,d,tk,os⟩:=s;have f1:=sub_AttributeError
 repeat (any_goals (first | assumption | wp_step))
 dsimp only;refine zNl (T:="AttributeError") ?_ (rA _ (mX _ rfl) rfl) rfl rfl (by simp[Array.setIfInBounds]) fun h' vs' k1 _ k2 k3=>?_
 ·refine hh.keeps fun b ob hb=>?_
  have hlt:b<hp.objs.size:=mR hb;refine(mO _ _ ?_).trans (mE _ (mE _ hb));simp only[rP];exact pK (sQ hlt)
 ·refine h _ _ _ ⟨fun b ob hb=>?_, ?_⟩
  ·have hlt:b<hp.objs.size:=mR hb
   refine k1 b ob ?_ ((mO _ _ ?_).trans (mE _ (mE _ hb)))
   ·simp only[rP]
    exact nL (sQ hlt)
   ·simp only[rP]
    exact pK (sQ hlt)
  ·rcases k3 with rfl |⟨c,rfl⟩<;>exact⟨_,_,_,k2⟩
theorem zJc(a:Addr)(xs:Array Value)(k:Nat)(sl:Array (Option Value))(name:Str)(u:Tok)(hmiss:typeLookup (.type "list") name=pure none)(hname:(["__module__","__name__","__qualname__","__doc__","__annotations__"]:List Str).contains name=false)(hsz:name.length+100≤sizeLine:=by size_fits):
  Meets (Builtin.«object.__getattribute__» ⟨[.ref a, .str name u],[]⟩) (fun A R s=>s.heap.get? a=some {cls:=.type "list",dict:=none,data:=.seq xs k,slots:=sl}∧Hn A s.heap∧∀h' tk e,zYk s.heap h' e (.ref a) name→R (.error (.ref e)) {s with heap:=h',toks:=tk}):=
 Meets.of_wp fun prog w A R s hs=>by
  obtain⟨hp,g,d,tk,os⟩:=s;obtain⟨hx,hn,hs⟩:=hs;have hT:(⟨hp,g,d,tk,os⟩:Shared).TypeIs (.ref a) "list":=⟨_,hx,rfl⟩;unfold Builtin.«object.__getattribute__»
  repeat (any_goals (first | assumption | wp_step))
  simp only[hname,rM,tV]
  repeat (any_goals (first | assumption | wp_step))
  exact zJj hn hs (attrMsg_fits (by decide+kernel) hsz)
theorem zTr{s:Shared}{a:Addr}{xs:Array Value}{k:Nat}{name:Str}{Q:Option Value→Shared→Prop}
  (hx:s.heap.get? a=some {cls:=.type "list",dict:=none,data:=.seq xs k,slots:=#[]}) (hmiss:typeLookup (.type "list") name=pure none) (hname:(["__module__","__name__","__qualname__","__doc__","__annotations__"]:List Str).contains name=false) (hA:Hn A s.heap)
  (h:∀h' tk,(∀b o,s.heap.get? b=some o→h'.get? b=some o)→Q none {s with heap:=h',toks:=tk}) (hsz:name.length+100≤sizeLine:=by size_fits):
  wpAny (model prog w) A (getAttr? (.ref a) name) Q E s:=by
 obtain⟨hp,g,d,tk,os⟩:=s;have hT:∀tk',(⟨hp,g,d,tk',os⟩:Shared).TypeIs (.ref a) "list":=fun _=>⟨_,hx,rfl⟩;have f1:=sub_AttributeError;have f3:=F.slot_list_getattribute.lookup;have f4:=F.slot_list_getattribute.bind (.ref a);have f5:=am_list_getattr_none;unfold getAttr? getAttrBy? getAttrBy
 repeat (any_goals (first | assumption | exact hT _ |((with_reducible show wpAny _ _ (call (Value.builtin "list.__getattribute__") _ _) _ _ _);refine aQ F.slot_list_getattribute (hT _) am_entry_list_getattribute (F.args_list_getattribute_2 _ _) (zJc a xs k #[] name _ hmiss hname hsz) ⟨hx,hA,fun h' tk' e hx'=>?_⟩)| wp_step))
 obtain⟨hk,t',c',u',he⟩:=hx';show wpAny _ _ (getattributeRaised _ _ _ _ _ _ _) _ _ _;unfold getattributeRaised
 repeat (any_goals (first | assumption | wp_step))
 exact h h' tk' hk
end
abbrev Key:=Sum Int Str
def zDt:Key→Value→Bool
 | .inl k,v=>Value.isInt k v
 | .inr x,v=>Value.isStrOf x v
def keyH(w:World):Key→Int
 | .inl k=>hashInt k
 | .inr x=>hashStr w x
theorem xH:∀{k:Key}{v:Value},zDt k v=true→(∃i t,k=Sum.inl i∧v=Value.int i t)∨(∃x t,k=Sum.inr x∧v=Value.str x t)
 | .inl i,v,h=>by
  obtain⟨t,e⟩:=Value.isInt_shape (k:=i) (v:=v) h;exact .inl ⟨i,t,rfl,e⟩
 | .inr x,v,h=>by
  obtain⟨t,e⟩:=Value.isStrOf_shape (x:=x) (v:=v) h;exact .inr ⟨x,t,rfl,e⟩
theorem zQe(i:Int)(t:Tok):zDt (.inl i) (.int i t)=true:=by simp[zDt,Value.isInt]
theorem zOp(x:Str)(t:Tok):zDt (.inr x) (.str x t)=true:=by simp[zDt,Value.isStrOf]
theorem zZs(a b:Int):decide ((Sum.inl a:Key)=Sum.inl b)=(a==b):=by
 by_cases e:a=b
 ·subst e;simp
 ·have h:¬(Sum.inl a:Key)=Sum.inl b:=fun q=>e (Sum.inl.inj q)
  rw[nJ h];exact(sX.mpr e).symm
theorem yAz(a b:Str):decide ((Sum.inr a:Key)=Sum.inr b)=decide (a=b):=by
 by_cases e:a=b
 ·subst e;simp
 ·have h:¬(Sum.inr a:Key)=Sum.inr b:=fun q=>e (Sum.inr.inj q)
  rw[nJ h,nJ e]
theorem yBx(a:Int)(b:Str):decide ((Sum.inl a:Key)=Sum.inr b)=false:=nJ (fun q=>nomatch q)
theorem yBf(a:Str)(b:Int):decide ((Sum.inr a:Key)=Sum.inl b)=false:=nJ (fun q=>nomatch q)
def yL(prog:Program)(w:World):PySem.KeyKind prog w Key where
 is:=zDt
 hash:=keyH w
 inj:=fun v a b ha hb=>by
  rcases xH ha with⟨i,t,rfl,rfl⟩|⟨x,t,rfl,rfl⟩
  ·rcases xH hb with⟨j,u,rfl,e⟩|⟨y,u,rfl,e⟩
   ·injection e with e1 _;rw[e1]
   ·exact nomatch e
  ·rcases xH hb with⟨j,u,rfl,e⟩|⟨y,u,rfl,e⟩
   ·exact nomatch e
   ·injection e with e1 _;rw[e1]
 byValue:=fun k v h=>by
  rcases xH h with⟨i,t,rfl,rfl⟩|⟨x,t,rfl,rfl⟩<;>rfl
 pyHash:=fun hv h=>by
  rcases xH hv with⟨i,t,rfl,rfl⟩|⟨x,t,rfl,rfl⟩
  ·exact wpAny_pyHash_int h
  ·exact wpAny_pyHash_str h
 eqBool:=fun hu hv h=>by
  rcases xH hu with⟨i,t,rfl,rfl⟩|⟨x,t,rfl,rfl⟩
  ·rcases xH hv with⟨j,u,rfl,rfl⟩|⟨y,u,rfl,rfl⟩
   ·rw[zZs] at h;exact wpAny_eqBool_int h
   ·rw[yBx] at h;exact SeqAt.EqAt.int_str i t y u _ _ _ _ h
  ·rcases xH hv with⟨j,u,rfl,rfl⟩|⟨y,u,rfl,rfl⟩
   ·rw[yBf] at h;exact SeqAt.EqAt.str_int x t j u _ _ _ _ h
   ·rw[yAz] at h;exact wpAny_eqBool_str h
 «strs»:=fun k x t v h=>by
  rcases xH h with⟨i,u,rfl,e⟩|⟨y,u,rfl,e⟩
  ·exact nomatch e
  ·injection e with e1 _
   subst e1;cases v<;>rfl
theorem zJl(prog:Program)(w:World)(i:Int)(t:Tok):(yL prog w).is (.inl i) (.int i t)=true:=zQe i t
theorem zIi(prog:Program)(w:World)(x:Str)(t:Tok):(yL prog w).is (.inr x) (.str x t)=true:=zOp x t
inductive V where
 | non | bl (b:Bool)| int (i:Int)| str (x:Str)| byt (b:Array UInt8)| flt (b:UInt64)| ref (a:Addr)| ty (n:String)
 deriving DecidableEq
def RelV:V→Value→Prop
 | .non,u=>u=Value.none
 | .bl b,u=>u=Value.bool b
 | .int i,u=>∃t,u=Value.int i t
 | .str x,u=>∃t,u=Value.str x t
 | .byt b,u=>∃t,u=Value.bytes b t
 | .flt b,u=>∃t,u=Value.float b t
 | .ref a,u=>u=Value.ref a
 | .ty n,u=>u=Value.type n
abbrev Vals:List V→List Value→Prop:=Paired RelV
theorem Vals.length{xs:List V}{us:List Value}(r:Vals xs us):xs.length=us.length:=Paired.length r
theorem Vals.get:∀{xs:List V}{us:List Value}{i:Nat}{x:V},Vals xs us→xs[i]? =some x→∃u,us[i]? =some u∧RelV x u
 | _,_,_,_, .nil,e=>by simp at e
 | _,_,0,_, .cons r _,e=>by simp at e;subst e;exact⟨_,rfl,r⟩
 | _,_,i+1,x, .cons _ t,e=>by
  obtain⟨u,h1,h2⟩:=Vals.get (i:=i) (x:=x) t (by simpa using e);exact⟨u,by simpa using h1,h2⟩
theorem Vals.append:∀{xs ys:List V}{us ws:List Value},Vals xs us→Vals ys ws→Vals (xs++ys) (us++ws)
 | _,_,_,_, .nil,s=>s
 | _,_,_,_, .cons r t,s=>.cons r (Vals.append t s)
theorem Vals.take:∀{xs:List V}{us:List Value}(n:Nat),Vals xs us→Vals (xs.take n) (us.take n)
 | _,_,0,_=>.nil
 | _,_,_+1, .nil=>.nil
 | _,_,n+1, .cons r t=>.cons r (Vals.take n t)
theorem Vals.drop:∀{xs:List V}{us:List Value}(n:Nat),Vals xs us→Vals (xs.drop n) (us.drop n)
 | _,_,0,r=>r
 | _,_,_+1, .nil=>.nil
 | _,_,n+1, .cons _ t=>Vals.drop n t
def RelO:Option V→Option Value→Prop
 | some v,some u=>RelV v u
 | none,none=>True
 | _,_=>False
def KV{κ:Type}:List (κ×V)→List (κ×Value)→Prop:=Paired fun(p:κ×V) (q:κ×Value)=>p.1=q.1∧RelV p.2 q.2
def kV:Key→V
 | .inl i=>.int i
 | .inr x=>.str x
inductive HO where
 /-- a list -/
 | lst (xs:List V)
 /-- a tuple (never changes)-/
 | tup (xs:List V)
 /-- a dict whose keys are ints and texts;one whose keys are tuples of ints and texts (the empty one is both)-/
 | dK (kvs:List (Key×V))| dT (kvs:List (List Key×V))
 /-- a set of ints:its members,its size -/
 | set (S:Int→Bool) (n:Nat)
 /-- an instance of the class at C,its dict at dx,its attributes -/
 | ins (C dx:Addr) (fs:List (Str×V))
 /-- the dict of the instance at x -/
 | own (x:Addr)
 /-- the dict of an exception -/
 | xd (fs:List (Str×V))
 /-- a bound method,f of x -/
 | met (f x:Addr)
 /-- a range object lo,lo+1, .. below hi -/
 | rng (lo hi:Int)
 /-- a thing that is known to the object (the script;a dict while a loop walks it):read,never written while it is so -/
 | frz (o:Obj) (u:HO)
 /-- a code object's table -/
 | tbl (ps:Array Value)
 /-- any other thing,by what is true of its one object (a def of one's own:SetO a S n:=HO.ext fun h=>..)-/
 | ext (φ:Heap→Prop)
abbrev Hp:=Addr→Option HO
def upd(H:Hp)(a:Addr)(o:HO):Hp:=fun b=>if b=a then some o else H b
theorem zE{H:Hp}{a:Addr}{o:HO}:upd H a o a=some o:=by unfold upd;rw[mK rfl]
theorem zO{H:Hp}{a b:Addr}{o:HO}(h:b≠a):upd H a o b=H b:=by unfold upd;rw[mI h]
theorem zNd{H:Hp}{a:Addr}{o u:HO}:upd (upd H a o) a u=upd H a u:=by
 funext b;unfold upd;split<;>rfl
theorem ne_of{H:Hp}{a b:Addr}{o u:HO}(h:H a=some o)(h':H b=some u)(d:o≠u):a≠b:=by
 intro e;subst e;rw[h] at h';exact d (mV h')
theorem zX{H:Hp}{a b:Addr}{o:HO}(h:H a=some o)(h':H b=none):a≠b:=by
 intro e;subst e;rw[h] at h';cases h'
section
variable(P:Program)(w:World)
def ObjOk(H:Hp)(h:Heap)(a:Addr):HO→Prop
 | .lst xs=>xs.length≤sizeLine∧∃(its:List Value)(n:Nat),Vals xs its∧h.get? a=some {cls:=.type "list",data:=.seq its.toArray n}
 | .tup xs=>xs.length≤sizeLine∧∃its:List Value,Vals xs its∧IsTup h a its.toArray
 | .dK kvs=>kvs.length≤sizeLine∧(a==sysModules)=false∧∃vs,KV kvs vs∧h.DictOf (yL P w) a vs
 | .dT kvs=>kvs.length≤sizeLine∧(a==sysModules)=false∧∃xs:List (List Key×Addr×Value),
   Paired (fun(p:List Key×V) (q:List Key×Addr×Value)=>p.1=q.1∧H q.2.1=some (.tup (p.1.map kV))∧RelV p.2 q.2.2) kvs xs∧
   ∃o es ep,h.get? a=some o∧o.ExactDict∧o.data= .dict es ep∧es.toList=xs.map (entryOfKey (tupleKind (yL P w)))∧(xs.map (·.1)).Nodup
 | .set S n=>h.SetOf (intKind P w) a S n
 | .ins C dx fs=>H dx=some (.own a)∧fs.length≤1000∧dx≠a∧h.get? a=some (W.instObj C dx)∧
   ∃mA,h.Ns1 dx mA∧(∀f,RelO (fs.lookup f) (mA f))∧PySem.Within mA (fs.map (·.1))
 | .own _=>∃o,h.get? a=some o
 | .xd fs=>∃mA,h.Ns1 a mA∧∀f,RelO (fs.lookup f) (mA f)
 | .rng lo hi=>∃t u v,h.get? a=some {cls:=.type "range",data:=.fields #[.int lo t, .int hi u, .int 1 v]}
 | .frz o u=>h.get? a=some o∧ObjOk H h a u
 | .tbl ps=>h.get? a=some {cls:=.none,data:=.fields ps}
 | .met f x=>h.get? a=some (W.methodObj (.ref f) (.ref x))
 | .ext φ=>φ h∧(∃o,h.get? a=some o)∧∀h1 h2:Heap,φ h1→(∀o,h1.get? a=some o→h2.get? a=some o)→φ h2
def HOk(H:Hp)(h:Heap):Prop:=∀a o,H a=some o→ObjOk P w H h a o
end
section
variable{P:Program}{w:World}{H H':Hp}{h h':Heap}{a:Addr}{o:HO}
theorem ObjOk.lt(x:ObjOk P w H h a o):a<h.objs.size:=by
 cases o with
 | lst xs=>obtain⟨_,_,_,_,e⟩:=x;exact mR e
 | tup xs=>obtain⟨_,_,_,p⟩:=x;exact p.lt
 | dK kvs=>obtain⟨_,_,_,_,o,_,_,e,_⟩:=x;exact mR e
 | dT kvs=>obtain⟨_,_,_,_,o,_,_,e,_⟩:=x;exact mR e
 | set S n=>obtain⟨o,_,_,_,e,_⟩:=x;exact mR e
 | ins C dx fs=>obtain⟨_,_,_,e,_⟩:=x;exact mR e
 | own y=>obtain⟨_,e⟩:=x;exact mR e
 | xd fs=>obtain⟨_,⟨_,_,_,e,_⟩,_⟩:=x;exact mR e
 | rng lo hi=>obtain⟨_,_,_,e⟩:=x;exact mR e
 | frz ob u=>obtain⟨e,_⟩:=x;exact mR e
 | tbl ps=>exact mR (show h.get? a=some _ from x)
 | met f y=>exact mR (show h.get? a=some _ from x)
 | ext φ=>obtain⟨_,⟨_,e⟩,_⟩:=x;exact mR e
theorem Paired.mapP{α β:Type}{F G:α→β→Prop}:∀{l₁:List α}{l₂:List β},Paired F l₁ l₂→(∀a b,F a b→G a b)→Paired G l₁ l₂
 | _,_, .nil,_=>.nil
 | _,_, .cons r t,f=>.cons (f _ _ r) (Paired.mapP t f)
theorem ObjOk.stay(x:ObjOk P w H h a o)(k:∀b u,(b=a∨H b=some (.own a))→h.get? b=some u→h'.get? b=some u)
  (ho:∀b,H b=some (.own a)→H' b=some (.own a)) (ht:∀b xs,H b=some (.tup xs)→H' b=some (.tup xs)):ObjOk P w H' h' a o:=by
 induction o with
 | lst xs=>obtain⟨z,its,n,r,e⟩:=x;exact⟨z,its,n,r,k _ _ (.inl rfl) e⟩
 | tup xs=>obtain⟨z,its,r,ob,e,c⟩:=x;exact⟨z,its,r,ob,k _ _ (.inl rfl) e,c⟩
 | dK kvs=>obtain⟨z,y,vs,r,ob,es,ep,e,c⟩:=x;exact⟨z,y,vs,r,ob,es,ep,k _ _ (.inl rfl) e,c⟩
 | dT kvs=>
  obtain⟨z,y,xs,r,ob,es,ep,e,c⟩:=x;exact⟨z,y,xs,Paired.mapP r fun p q z=>⟨z.1,ht _ _ z.2.1,z.2.2⟩,ob,es,ep,k _ _ (.inl rfl) e,c⟩
 | set S n=>obtain⟨ob,es,ep,t,e,c⟩:=x;exact⟨ob,es,ep,t,k _ _ (.inl rfl) e,c⟩
 | ins C dx fs=>
  obtain⟨d,z,ne,e,mA,⟨od,es,ep,e2,c⟩,r⟩:=x;exact⟨ho _ d,z,ne,k _ _ (.inl rfl) e,mA,⟨od,es,ep,k _ _ (.inr d) e2,c⟩,r⟩
 | own y=>obtain⟨ob,e⟩:=x;exact⟨ob,k _ _ (.inl rfl) e⟩
 | xd fs=>obtain⟨mA,⟨od,es,ep,e,c⟩,r⟩:=x;exact⟨mA,⟨od,es,ep,k _ _ (.inl rfl) e,c⟩,r⟩
 | rng lo hi=>obtain⟨t,u,v,e⟩:=x;exact⟨t,u,v,k _ _ (.inl rfl) e⟩
 | frz ob u ih=>obtain⟨e,q⟩:=x;exact⟨k _ _ (.inl rfl) e,ih q⟩
 | tbl ps=>
  have e:h.get? a=some {cls:=.none,data:=.fields ps}:=x;show h'.get? a=some {cls:=.none,data:=.fields ps};exact k a _ (.inl rfl) e
 | met f y=>
  have e:h.get? a=some (W.methodObj (.ref f) (.ref y)):=x;show h'.get? a=some (W.methodObj (.ref f) (.ref y));exact k a _ (.inl rfl) e
 | ext φ=>obtain⟨p,⟨o,e⟩,st⟩:=x;exact⟨st _ _ p fun o q=>k _ _ (.inl rfl) q,⟨o,k _ _ (.inl rfl) e⟩,st⟩
theorem HOk.lt(x:HOk P w H h)(e:H a=some o):a<h.objs.size:=(x a o e).lt
theorem HOk.fresh(x:HOk P w H h)(e:h.objs.size≤a):H a=none:=by
 cases q:H a with
 | none=>rfl
 | some u=>exact absurd (nH (x.lt q) e) (rO _)
theorem HOk.kept(x:HOk P w H h)(k:∀b u,h.get? b=some u→h'.get? b=some u):HOk P w H h':=fun a o e=>
 (x a o e).stay (fun b u _ q=>k b u q) (fun _ q=>q) fun _ _ q=>q
theorem HOk.laid(x:HOk P w H h)(k:∀b u,h.get? b=some u→h'.get? b=some u)(hp:h.objs.size≤a)(new:ObjOk P w (upd H a o) h' a o):HOk P w (upd H a o) h':=fun b u e=>by
 have hn:=x.fresh hp
 by_cases hb:b=a
 ·subst hb;rw[zE] at e;cases e;exact new
 ·rw[zO hb] at e
  exact(x b u e).stay (fun c v _ q=>k c v q) (fun c q=>by rw[zO (zX q hn)];exact q) fun c xs q=>by rw[zO (zX q hn)];exact q
end
def Rd(H:Hp)(a:Addr)(u:HO):Prop:=H a=some u∨∃o,H a=some (.frz o u)
theorem Rd.ok{P:Program}{w:World}{H:Hp}{h:Heap}{a:Addr}{u:HO}(r:Rd H a u)(x:HOk P w H h):ObjOk P w H h a u:=by
 rcases r with r |⟨o,r⟩
 ·exact x a u r
 ·obtain⟨_,q⟩:=x a _ r
  exact q
def Mut:Option HO→Prop
 | some (.lst _)=>True
 | some (.dK _)=>True
 | some (.dT _)=>True
 | some (.set _ _)=>True
 | some (.ins _ _ _)=>True
 | some (.ext _)=>True
 | _=>False
section
variable{P:Program}{w:World}{H:Hp}{h h':Heap}{x e:Addr}{o':HO}
theorem HOk.write(ok:HOk P w H h)(mu:Mut (H x))(he:e=x∨H e=some (.own x))(k:∀b u,b≠e→h.get? b=some u→h'.get? b=some u)(heo:∃u,h'.get? e=some u)
  (new:ObjOk P w (upd H x o') h' x o'):HOk P w (upd H x o') h':=fun b u q=>by
 have nown:∀c y,H c=some (.own y)→c≠x:=fun c y r z=>by subst z;rw[r] at mu;exact mu
 have ntup:∀c xs,H c=some (.tup xs)→c≠x:=fun c xs r z=>by subst z;rw[r] at mu;exact mu
 by_cases hb:b=x
 ·subst hb;rw[zE] at q;cases q;exact new
 ·rw[zO hb] at q
  by_cases hbe:b=e
  ·have q':H b=some (.own x):=by
    rcases he with z | z
    ·exact absurd (hbe.trans z) hb
    ·rw[hbe];exact z
   rw[q] at q';cases q';obtain⟨v,hv⟩:=heo;exact⟨v,by rw[hbe];exact hv⟩
  ·refine(ok b u q).stay (fun c v hc r=>k c v ?_ r) (fun c r=>by rw[zO (nown c b r)];exact r) fun c xs r=>by rw[zO (ntup c xs r)];exact r
   rcases hc with rfl | hc
   ·exact hbe
   ·rintro rfl
    rcases he with z | z
    ·exact nown c b hc z
    ·rw[hc] at z;cases z;exact hb rfl
end
structure Un(fs ex:List Addr)(H H':Hp)(h h':Heap):Prop where
 keep:∀b o,h.get? b=some o→H b=none→b∉fs→b∉ex→h'.get? b=some o
 slot:∀b o,h.get? b=some o→H b=none→b∈fs→b∉ex→∃sl,h'.get? b=some {o with slots:=sl}
 free:∀b o,h.get? b=some o→H b=none→b∉ex→H' b=none
 there:∀b o,h.get? b=some o→b∉ex→∃o',h'.get? b=some o'
 tups:∀b xs,H b=some (.tup xs)→H' b=some (.tup xs)
 frzs:∀b o u,H b=some (.frz o u)→H' b=some (.frz o u)
 tbls:∀b ps,H b=some (.tbl ps)→∃more,H' b=some (.tbl (ps++more))
section
variable{fs fs' ex ex':List Addr}{H H1 H2:Hp}{h h1 h2 h':Heap}{a x e:Addr}{o:HO}
theorem Un.any(u:Un fs ex H H1 h h1){b:Addr}{ob:Obj}(q:h.get? b=some ob)(n:H b=none)(hx:b∉ex):∃sl,h1.get? b=some {ob with slots:=sl}:=by
 by_cases hb:b∈fs
 ·exact u.slot b ob q n hb hx
 ·exact⟨ob.slots,u.keep b ob q n hb hx⟩
theorem Un.kept(k:∀b u,h.get? b=some u→h'.get? b=some u):Un fs ex H H h h':=
 ⟨fun b ob q _ _ _=>k b ob q,fun b ob q _ _ _=>⟨ob.slots,k b ob q⟩,fun _ _ _ n _=>n,fun b ob q _=>⟨ob,k b ob q⟩,fun _ _ q=>q,fun _ _ _ q=>q,fun _ ps q=>⟨#[],by rw[q];simp⟩⟩
theorem Un.refl:Un fs ex H H h h:=Un.kept fun _ _ q=>q
theorem Un.laid(k:∀b u,h.get? b=some u→h'.get? b=some u)(hp:h.objs.size≤a)(hn:H a=none):Un fs ex H (upd H a o) h h' where
 keep:=fun b u q _ _ _=>k b u q
 slot:=fun b u q _ _ _=>⟨u.slots,k b u q⟩
 free:=fun b u q n _=>by rw[zO (nL (nH (mR q) hp))];exact n
 there:=fun b u q _=>⟨u,k b u q⟩
 tups:=fun b xs q=>by rw[zO (zX q hn)];exact q
 frzs:=fun b u xs q=>by rw[zO (zX q hn)];exact q
 tbls:=fun b ps q=>⟨#[],by rw[zO (zX q hn),q];simp⟩
theorem Un.write(mu:Mut (H x))(he:e=x∨H e=some (.own x))(k:∀b u,b≠e→h.get? b=some u→h'.get? b=some u)(heo:∃u,h'.get? e=some u):Un fs ex H (upd H x o) h h':=by
 have hx:∀b,H b=none→b≠x:=fun b n z=>by subst z;rw[n] at mu;exact mu
 have hb:∀b,H b=none→b≠e:=fun b n z=>by
  subst z;rcases he with r | r
  ·exact hx b n r
  ·rw[n] at r;cases r
 have hm:∀b u,H b=some u→¬Mut (some u)→b≠x:=fun b u q nm z=>by subst z;rw[q] at mu;exact nm mu
 refine⟨fun b u q n _ _=>k b u (hb b n) q,fun b u q n _ _=>⟨u.slots,k b u (hb b n) q⟩,fun b u q n _=>by rw[zO (hx b n)];exact n,fun b u q _=>?_,
  fun b xs q=>by rw[zO (hm b _ q fun z=>z)];exact q,fun b u xs q=>by rw[zO (hm b _ q fun z=>z)];exact q,fun b ps q=>⟨#[],by rw[zO (hm b _ q fun z=>z),q];simp⟩⟩
 by_cases hbe:b=e
 ·subst hbe;exact heo
 ·exact⟨u,k b u hbe q⟩
end
def trk(h:Heap)(H:Hp):List Addr:=(List.range h.objs.size).filter fun a=>(H a).isSome
def zGo(h:Heap)(H:Hp):Heap:=W.hideAll h (trk h H)
theorem zOr(h:Heap)(H:Hp):(zGo h H).objs.size=h.objs.size:=W.hideAll_size _ _
theorem zSu{h:Heap}{H:Hp}{b:Addr}{o:Obj}(e:h.get? b=some o)(n:H b=none):(zGo h H).get? b=some o:=
 W.hideAll_get _ e fun hm=>by
  have q:(H b).isSome=true:=(aR.mp hm).2;rw[n] at q;simp at q
theorem zWj{h:Heap}{H:Hp}{b:Addr}{o:Obj}(e:(zGo h H).get? b=some o):h.get? b=some o∧H b=none:=by
 have e':h.get? b=some o:=W.of_hideAll (trk h H) e;refine⟨e', ?_⟩
 cases q:H b with
 | none=>rfl
 | some x=>
  have hm:b∈trk h H:=aR.mpr ⟨bC.mpr (mR e'),by simp[q]⟩;have z:(zGo h H).get? b=none:=W.hideAll_none (trk h H) hm;rw[z] at e;cases e
def zVz(g h:Heap)(L:Addr):List (Addr×Obj):=(List.range h.objs.size).filterMap fun a=>if a=L∨(g.get? a).isSome=true then none else(h.get? a).map fun o=>(a,o)
def rest(g h:Heap)(L d:Addr):List (Addr×Obj):=(zVz g h L).filter fun p=>decide (p.1≠d)
structure Mod(K:W.Frag)(mg:Str→Option Value)(base:Heap):Prop where
 kin:K.In base
 glob:base.Ns mainGlobals mg
 blt:∃mb,base.Ns builtinsNs mb∧∀x:Str,x≠ "__name__"→mb x=bootBuiltins x
 nolimit:base.NoLimit
structure Cx where
 prog:Program
 w:World
 K:W.Frag
 mg:Str→Option Value
 base:Heap
 A:Around
 N:List Str
 s₀:Shared
 H₀:Hp
 env:Env
 outer:List Env
 stack:List Env
 ex:List Addr
 fn:Str→Bool
 calm:Bool
 cool:Bool
 pn:List (Addr×Obj)
 xe:Value→Shared→Prop
def frs(l:List Env):List Addr:=l.filterMap (·.frame)
abbrev Cx.fs(X:Cx):List Addr:=frs X.outer
def Vis(sc:Scope)(x:Str):Prop:=sc.names.lookup x=some .local∨sc.names.lookup x=some .cell∨sc.names.lookup x=some .free
def Loc(sc:Scope)(x:Str):Prop:=sc.names.lookup x=some .local∨sc.names.lookup x=some .cell
def Look(env:Env)(h:Heap)(m:Str→Option Value)(x:Str)(u:Value):Prop:=
 (env.kindOf x=some .local∧m x=some u)∨((env.kindOf x=some .cell∨env.kindOf x=some .free)∧∃c,env.cells.lookup x=some c∧h.IsCell c (some u))
def Cx.heat(X:Cx):Bool→Bool
 | true=>X.cool
 | false=>X.calm
def HnAt(A:Around)(h:Heap)(H:Hp)(fs ex:List Addr):Prop:=∀v,A.handled=some v→∃x o C vs,v= .ref x∧h.get? x=some o∧o.cls= .ref C∧o.data= .fields vs∧vs[2]? =some Value.none∧H x=none∧x∉fs∧x∉ex
theorem HnAt.none{A:Around}{h:Heap}{H:Hp}{fs ex:List Addr}(hh:A.handled=none):HnAt A h H fs ex:=fun v e=>by rw[hh] at e;cases e
theorem HnAt.hn{A:Around}{h:Heap}{H:Hp}{fs ex:List Addr}(n:HnAt A h H fs ex):Hn A h:=fun v e=>by
 obtain⟨x,o,C,vs,a,b,c,d,f,_⟩:=n v e;exact⟨x,o,C,vs,a,b,c,d,f⟩
structure Cx.Ok(X:Cx):Prop where
 mod:Mod X.K X.mg X.base
 kind:X.env.scope.kind= .function
 glob:X.env.globals=mainGlobals
 blt:X.env.builtins=builtinsNs
 above:X.s₀.heap.objs.size≤X.env.locals
 inj:∀x y c,X.env.cells.lookup x=some c→X.env.cells.lookup y=some c→x=y
 has:∀x,(X.env.kindOf x=some .cell∨X.env.kindOf x=some .free)→∃c,X.env.cells.lookup x=some c
 cab:∀x c,X.fn x=true→X.env.cells.lookup x=some c→X.s₀.heap.objs.size≤c
 hd:(X.calm=true→X.A.handled=none)∧(X.cool=true→HnAt X.A X.s₀.heap X.H₀ X.fs X.ex)
 frames:X.A.frames=some X.stack
 stk:X.stack=X.outer∨(X.stack=X.env::X.outer∧X.env.frame=some X.env.locals)
 exf:∀b∈X.ex,b≠X.env.locals∧∀x c,X.env.cells.lookup x=some c→c≠b
 bs:∀b o,X.base.get? b=some o→X.s₀.heap.get? b=some o∧X.H₀ b=none
 bsz:X.base.objs.size≤X.s₀.heap.objs.size
 noex:∀b o,X.base.get? b=some o→b∉X.ex
 exfs:∀b∈X.ex,b∉X.fs
 funs:X.s₀.heap.FunFrames X.base X.outer
 frf:∀b∈X.fs,X.H₀ b=none
structure Inv(X:Cx)(pins:List (Addr×Obj))(σ:List (Option V))(H:Hp)(s:Shared):Prop where
 ok:X.Ok
 os:s.os=X.s₀.os
 bare:AllBare s.gens
 base:Un X.fs X.ex X.H₀ H X.s₀.heap s.heap
 loc:∃m,s.heap.Ns X.env.locals m∧∀(i:Nat)(x:Str)(v:V),X.N[i]? =some x→σ[i]? =some (some v)→Vis X.env.scope x→∃u,RelV v u∧Look X.env s.heap m x u
 cell:∀x c,X.env.cells.lookup x=some c→∃v,s.heap.IsCell c v
 free:H X.env.locals=none
 freeC:∀x c,X.env.cells.lookup x=some c→H c=none
 pin:∀p∈X.pn++pins,s.heap.get? p.1=some p.2∧H p.1=none∧p.1≠X.env.locals∧p.1∉X.fs∧∀v,p.2.data≠ .cell v
 hok:HOk X.prog X.w H s.heap
 len:σ.length=X.N.length
section
variable{X:Cx}{pins:List (Addr×Obj)}{σ:List (Option V)}{H H':Hp}{s:Shared}{h':Heap}
theorem Inv.hnAt(I:Inv X pins σ H s)(hc:X.cool=true):HnAt X.A s.heap H X.fs X.ex:=fun v e=>by
 obtain⟨x,o,C,vs,a,h1,h2,h3,h4,h5,h6,h7⟩:=I.ok.hd.2 hc v e;exact⟨x,o,C,vs,a,I.base.keep x o h1 h5 h6 h7,h2,h3,h4,I.base.free x o h1 h5 h7,h6,h7⟩
theorem Inv.hn(I:Inv X pins σ H s)(hc:X.cool=true):Hn X.A s.heap:=(I.hnAt hc).hn
theorem Cx.Ok.nofr(ok:X.Ok){b:Addr}{o:Obj}(e:X.base.get? b=some o):b∉X.fs:=fun hb=>by
 have:=(ok.funs.mem hb).1;rw[e] at this;cases this
theorem Inv.bs(I:Inv X pins σ H s):∀b o,X.base.get? b=some o→s.heap.get? b=some o∧H b=none:=fun b o e=>
 ⟨I.base.keep b o (I.ok.bs b o e).1 (I.ok.bs b o e).2 (I.ok.nofr e) (I.ok.noex b o e),I.base.free b o (I.ok.bs b o e).1 (I.ok.bs b o e).2 (I.ok.noex b o e)⟩
theorem Inv.bk(I:Inv X pins σ H s):∀b o,X.base.get? b=some o→s.heap.get? b=some o:=fun b o e=>(I.bs b o e).1
theorem Inv.mod(I:Inv X pins σ H s):Mod X.K X.mg X.base:=I.ok.mod
theorem Inv.kIn(I:Inv X pins σ H s):X.K.In s.heap:=I.ok.mod.kin.keeps I.bk
theorem Inv.lt(I:Inv X pins σ H s):X.env.locals<s.heap.objs.size:=let ⟨_,hn,_⟩:=I.loc;hn.lt
theorem Inv.sz(I:Inv X pins σ H s):X.s₀.heap.objs.size≤s.heap.objs.size:=nN I.ok.above (cR I.lt)
theorem Inv.nofs(I:Inv X pins σ H s){a:Addr}(h:s.heap.objs.size≤a):a∉X.fs:=fun hb=>by
 obtain⟨_,o,ho,_⟩:=I.ok.funs.mem hb;exact absurd (nH (mR ho) (nN I.sz h)) (rO _)
theorem Inv.cne(I:Inv X pins σ H s):∀x c,X.env.cells.lookup x=some c→c≠X.env.locals:=fun x c e z=>by
 obtain⟨v,o,ho,hd⟩:=I.cell x c e;obtain⟨m,⟨o',es,ep,ho',hd',_⟩,_⟩:=I.loc;rw[z,ho'] at ho;cases ho;rw[hd'] at hd;cases hd
theorem Inv.funs(I:Inv X pins σ H s):s.heap.FunFrames X.base X.outer:=by
 have all:∀(l:List Env),(∀b∈frs l,b∈X.fs)→X.s₀.heap.FunFrames X.base l→s.heap.FunFrames X.base l:=by
  intro l
  induction l with
  | nil=>intro _ _;trivial
  | cons env r ih=>
   intro hs hl;obtain⟨hk,⟨L,o,hf,hn,ho,hd⟩,hr⟩:=hl;have hL:L∈X.fs:=hs L (by unfold frs;rw[rB,hf];exact mF);obtain⟨sl,e⟩:=I.base.slot L o ho (I.ok.frf L hL) hL fun z=>I.ok.exfs L z hL;exact⟨hk,⟨L,_,hf,hn,e,hd⟩,ih (fun b hb=>hs b (by unfold frs;rw[rB,hf];exact mH _ hb)) hr⟩
 exact all X.outer (fun _ hb=>hb) I.ok.funs
theorem Inv.stack(I:Inv X pins σ H s):s.heap.FunFrames X.base X.stack:=by
 rcases I.ok.stk with e |⟨e,hf⟩
 ·rw[e];exact I.funs
 ·rw[e]
  obtain⟨m,hn,_⟩:=I.loc;refine .cons (by rw[I.ok.kind];decide) hf hn ?_ I.funs;exact tY (nN I.ok.bsz I.ok.above)
theorem Inv.stkSub(I:Inv X pins σ H s):∀b∈frs X.stack,b∈X.env.locals::X.fs:=fun b hb=>by
 rcases I.ok.stk with e |⟨e,hf⟩
 ·rw[e] at hb;exact mH _ hb
 ·rw[e] at hb
  unfold frs at hb;rw[rB,hf] at hb;exact hb
theorem Inv.stkFree(I:Inv X pins σ H s):∀b∈frs X.stack,H b=none:=fun b hb=>by
 rcases mG.mp (I.stkSub b hb) with e | hb
 ·rw[e];exact I.free
 ·obtain⟨_,o,ho,_⟩:=I.ok.funs.mem hb
  exact I.base.free b o ho (I.ok.frf b hb) fun z=>I.ok.exfs b z hb
theorem Inv.step{g':Array GenState}{t':Nat}{d':Drawn}{ch:List Addr}(I:Inv X pins σ H s)
  (hch:∀b∈ch,(b∈X.ex∨X.s₀.heap.objs.size≤b)∧b≠X.env.locals∧(∀x c,X.env.cells.lookup x=some c→c≠b)∧∀p∈X.pn++pins,p.1≠b)
  (keep:∀b o,b≠X.env.locals→b∉X.fs→b∉ch→s.heap.get? b=some o→H b=none→h'.get? b=some o)
  (slot:∀b o,b≠X.env.locals→b∈X.fs→b∉ch→s.heap.get? b=some o→H b=none→∃sl,h'.get? b=some {o with slots:=sl}) (free:∀b o,b∉ch→s.heap.get? b=some o→H b=none→H' b=none)
  (there:∀b o,b∉ch→s.heap.get? b=some o→∃o',h'.get? b=some o')
  (tups:∀b xs,H b=some (.tup xs)→H' b=some (.tup xs)) (frzs:∀b o u,H b=some (.frz o u)→H' b=some (.frz o u)) (tbls:∀b ps,H b=some (.tbl ps)→∃more,H' b=some (.tbl (ps++more)))
  (ns:∀m,s.heap.Ns X.env.locals m→h'.Ns X.env.locals m) (hok:HOk X.prog X.w H' h') (hg:AllBare g'):
  Inv X pins σ H' {s with heap:=h',gens:=g',drawn:=d',toks:=t'}:=by
 have neL:∀b o,X.s₀.heap.get? b=some o→b≠X.env.locals:=fun b o e=>nL (nH (mR e) I.ok.above);have neC:∀b o,X.s₀.heap.get? b=some o→b∉X.ex→b∉ch:=fun b o e hx hb=>by
  rcases(hch b hb).1 with z | z
  ·exact hx z
  ·exact absurd (nH (mR e) z) (rO _)
 have cellK:∀x c,X.env.cells.lookup x=some c→∀v,s.heap.IsCell c v→h'.IsCell c v:=fun x c e v ⟨o,ho,hd⟩=>by
  have nch:c∉ch:=fun z=>(hch c z).2.2.1 x c e rfl
  by_cases hc:c∈X.fs
  ·obtain⟨sl,q⟩:=slot c o (I.cne x c e) hc nch ho (I.freeC x c e)
   exact⟨_,q,hd⟩
  ·exact⟨o,keep c o (I.cne x c e) hc nch ho (I.freeC x c e),hd⟩
 refine⟨I.ok,I.os,hg,⟨fun b o e n hb hx=>?_,fun b o e n hb hx=>?_,fun b o e n hx=>?_,fun b o e hx=>?_,fun b xs e=>tups b xs (I.base.tups b xs e),fun b o xs e=>frzs b o xs (I.base.frzs b o xs e),fun b ps e=>?_⟩, ?_,fun x c e=>?_, ?_,fun x c e=>?_,fun p hp=>?_,hok,I.len⟩
 ·exact keep b o (neL b o e) hb (neC b o e hx) (I.base.keep b o e n hb hx) (I.base.free b o e n hx)
 ·obtain⟨sl,e1⟩:=I.base.slot b o e n hb hx
  obtain⟨sl',e2⟩:=slot b _ (neL b o e) hb (neC b o e hx) e1 (I.base.free b o e n hx);exact⟨sl',e2⟩
 ·obtain⟨o',e1⟩:=I.base.there b o e hx
  exact free b o' (neC b o e hx) e1 (I.base.free b o e n hx)
 ·obtain⟨o',e1⟩:=I.base.there b o e hx
  exact there b o' (neC b o e hx) e1
 ·obtain⟨m1,e1⟩:=I.base.tbls b ps e
  obtain⟨m2,e2⟩:=tbls b _ e1;exact⟨m1++m2,by rw[e2,Array.append_assoc]⟩
 ·obtain⟨m,hn,hl⟩:=I.loc
  refine⟨m,ns m hn,fun i x v e1 e2 e3=>?_⟩;obtain⟨u,r,l⟩:=hl i x v e1 e2 e3;refine⟨u,r, ?_⟩;rcases l with l |⟨k,c,e,z⟩
  ·exact .inl l
  ·exact .inr ⟨k,c,e,cellK x c e _ z⟩
 ·obtain⟨v,z⟩:=I.cell x c e
  exact⟨v,cellK x c e v z⟩
 ·obtain⟨m,⟨o,_,_,ho,_⟩,_⟩:=I.loc
  exact free _ o (fun z=>(hch _ z).2.1 rfl) ho I.free
 ·obtain⟨v,o,ho,hd⟩:=I.cell x c e
  exact free c o (fun z=>(hch c z).2.2.1 x c e rfl) ho (I.freeC x c e)
 ·obtain⟨e,n,ne,nf,d⟩:=I.pin p hp
  have nch:p.1∉ch:=fun z=>(hch p.1 z).2.2.2 p hp rfl;exact⟨keep p.1 p.2 ne nf nch e n,free p.1 p.2 nch e n,ne,nf,d⟩
theorem Inv.un{t':Nat}(I:Inv X pins σ H s)(u:Un X.fs [] H H' s.heap h')(hok:HOk X.prog X.w H' h'):Inv X pins σ H' {s with heap:=h',toks:=t'}:=by
 obtain⟨m,⟨o,es,ep,ho,r⟩,_⟩:=id I.loc;obtain⟨sl,hL⟩:=u.any ho I.free (by simp);exact I.step (g':=s.gens) (d':=s.drawn) (ch:=[]) (fun _ z=>nomatch z) (fun b o _ hb _ e n=>u.keep b o e n hb (by simp)) (fun b o _ hb _ e n=>u.slot b o e n hb (by simp)) (fun b o _ e n=>u.free b o e n (by simp)) (fun b o _ e=>u.there b o e (by simp)) u.tups u.frzs u.tbls (fun m' hm=>by
  obtain⟨o',es',ep',ho',r'⟩:=hm;rw[ho] at ho';cases ho';exact⟨_,es',ep',hL,r'⟩) hok I.bare
theorem Inv.call{g':Array GenState}{t':Nat}{d':Drawn}{ch:List Addr}(I:Inv X pins σ H s)(u:Un (frs X.stack) ch H H' s.heap h')(hok:HOk X.prog X.w H' h')(hg:AllBare g')
  (hch:∀b∈ch,(b∈X.ex∨X.s₀.heap.objs.size≤b)∧b≠X.env.locals∧(∀x c,X.env.cells.lookup x=some c→c≠b)∧∀p∈X.pn++pins,p.1≠b):
  Inv X pins σ H' {s with heap:=h',gens:=g',drawn:=d',toks:=t'}:=by
 obtain⟨m,⟨o,es,ep,ho,r⟩,_⟩:=id I.loc;obtain⟨sl,hL⟩:=u.any ho I.free fun z=>(hch _ z).2.1 rfl;exact I.step (ch:=ch) hch (fun b o hL hb hc e n=>u.keep b o e n (fun z=>(mG.mp (I.stkSub b z)).elim hL hb) hc) (fun b o _ _ hc e n=>u.any e n hc) (fun b o hc e n=>u.free b o e n hc) (fun b o hc e=>u.there b o e hc) u.tups u.frzs u.tbls (fun m' hm=>by
  obtain⟨o',es',ep',ho',r'⟩:=hm;rw[ho] at ho';cases ho';exact⟨_,es',ep',hL,r'⟩) hok hg
theorem Inv.turned{t':Nat}{it:Addr}(I:Inv X pins σ H s)(k:∀b o,b≠it→s.heap.get? b=some o→h'.get? b=some o)(hn:H it=none)(hL:it≠X.env.locals)
  (h1:it∈X.ex∨X.s₀.heap.objs.size≤it) (h2:∀x c,X.env.cells.lookup x=some c→c≠it) (h3:∀p∈X.pn++pins,p.1≠it):Inv X pins σ H {s with heap:=h',toks:=t'}:=by
 have nit:∀b u,H b=some u→b≠it:=fun b u e z=>by rw[z,hn] at e;cases e
 refine I.step (g':=s.gens) (d':=s.drawn) (ch:=[it]) (fun b hb=>?_) (fun b o _ _ hc e _=>k b o (fun z=>hc (by simp[z])) e) (fun b o _ _ hc e _=>⟨o.slots,k b o (fun z=>hc (by simp[z])) e⟩) (fun _ _ _ _ n=>n)
  (fun b o hc e=>⟨o,k b o (fun z=>hc (by simp[z])) e⟩) (fun _ _ e=>e) (fun _ _ _ e=>e) (fun b ps e=>⟨#[],by rw[e];simp⟩) (fun m hm=>?_) (fun b u e=>?_) I.bare
 ·have e:b=it:=by simpa using hb
  subst e;exact⟨h1,hL,h2,h3⟩
 ·obtain⟨o,es,ep,ho,r⟩:=hm
  exact⟨o,es,ep,k _ o (Ne.symm hL) ho,r⟩
 ·refine(I.hok b u e).stay (fun c v hc q=>k c v ?_ q) (fun _ q=>q) fun _ _ q=>q
  rcases hc with z | z
  ·rw[z];exact nit b u e
  ·exact nit c _ z
theorem Inv.tok(I:Inv X pins σ H s)(t:Nat):Inv X pins σ H {s with toks:=t}:=I.un (h':=s.heap) (t':=t) Un.refl I.hok
theorem Inv.kept{t':Nat}(I:Inv X pins σ H s)(k:∀b u,s.heap.get? b=some u→h'.get? b=some u):Inv X pins σ H {s with heap:=h',toks:=t'}:=I.un (Un.kept k) (I.hok.kept k)
theorem Inv.laid{a:Addr}{o:HO}{t':Nat}(I:Inv X pins σ H s)(k:∀b u,s.heap.get? b=some u→h'.get? b=some u)(hp:s.heap.objs.size≤a)(new:ObjOk X.prog X.w (upd H a o) h' a o):
  Inv X pins σ (upd H a o) {s with heap:=h',toks:=t'}:=I.un (Un.laid k hp (I.hok.fresh hp)) (I.hok.laid k hp new)
theorem Inv.write{x e:Addr}{o:HO}{t':Nat}(I:Inv X pins σ H s)(mu:Mut (H x))(he:e=x∨H e=some (.own x))(k:∀b u,b≠e→s.heap.get? b=some u→h'.get? b=some u)(heo:∃u,h'.get? e=some u)
  (new:ObjOk X.prog X.w (upd H x o) h' x o):Inv X pins σ (upd H x o) {s with heap:=h',toks:=t'}:=I.un (Un.write mu he k heo) (I.hok.write mu he k heo new)
theorem Inv.weak{σ':List (Option V)}(I:Inv X pins σ H s)(hl:σ'.length=σ.length)(w:∀(i:Nat) v,σ'[i]? =some (some v)→σ[i]? =some (some v)):Inv X pins σ' H s:=
 ⟨I.ok,I.os,I.bare,I.base,let ⟨m,hn,hl'⟩:=I.loc;⟨m,hn,fun i x v e1 e2 e3=>hl' i x v e1 (w i v e2) e3⟩,I.cell,I.free,I.freeC,I.pin,I.hok,hl.trans I.len⟩
theorem Inv.pins_of{pins':List (Addr×Obj)}(I:Inv X pins σ H s)(h:∀p∈pins',s.heap.get? p.1=some p.2∧H p.1=none∧p.1≠X.env.locals∧p.1∉X.fs∧∀v,p.2.data≠ .cell v):Inv X pins' σ H s:=
 ⟨I.ok,I.os,I.bare,I.base,I.loc,I.cell,I.free,I.freeC,fun p hp=>(nD.mp hp).elim (fun z=>I.pin p (pT _ z)) (h p),I.hok,I.len⟩
theorem zJh{N:List Str}(hN:N.Nodup){i j:Nat}{x:Str}(a:N[i]? =some x)(b:N[j]? =some x):i=j:=by
 obtain⟨h1,e1⟩:=nE.mp a;obtain⟨h2,e2⟩:=nE.mp b;exact(List.getElem_inj hN).mp (e1.trans e2.symm)
theorem zEg{M:Model}{A:Around}{E:Value→Shared→Prop}{i:Nat}{x:Str}{v:V}{u:Value}{Q:Unit→Shared→Prop}(I:Inv X pins σ H s)(hN:X.N.Nodup)(hi:X.N[i]? =some x)(hx:Loc X.env.scope x)(r:RelV v u)
  (h:∀s',Inv X pins (σ.set i (some v)) H s'→(∃a,Heap.SameBut a s.heap s'.heap∧(a=X.env.locals∨X.env.cells.lookup x=some a))→Q () s') (hf:X.fn x=true∨X.env.scope.names.lookup x=some .local:=by first | exact .inl rfl | exact .inr rfl | assumption):wpAny M A (storeName X.env x u) Q E s:=by
 obtain⟨m,hn,hl⟩:=id I.loc;have hcls:(X.env.scope.kind== .class ||(X.env.scope.kind== .module && X.env.locals !=X.env.globals))=false:=by rw[I.ok.kind];rfl
 have hiσ:i<σ.length:=by rw[I.len];exact(nE.mp hi).1
 have cne:=I.cne;have tracked:∀{a:Addr}{h':Heap},(∃o,s.heap.get? a=some o∧H a=none)→Heap.SameBut a s.heap h'→HOk X.prog X.w H h':=fun {a h'} ha hs b ob e=>by
  obtain⟨_,_,hfree⟩:=ha;refine(I.hok b ob e).stay (fun c w' hc q=>(hs.2 c ?_).trans q) (fun _ q=>q) fun _ _ q=>q;rintro rfl;rcases hc with rfl | hc
  ·rw[hfree] at e;cases e
  ·rw[hfree] at hc;cases hc
 rcases hx with hk | hk
 ·refine wpAny_storeName_local hk hn (fun h' hn' hs=>?_) hcls
  obtain⟨oL,_,_,hoL,_⟩:=id hn;refine h _ ⟨I.ok,I.os,I.bare,⟨fun b o e n hb hx=>?_,fun b o e n hb hx=>?_,I.base.free,fun b o e hx=>?_,I.base.tups,I.base.frzs,I.base.tbls⟩,⟨_,hn',fun j y v' e1 e2 e3=>?_⟩,fun y c e=>?_,I.free,I.freeC,fun p hp=>?_,tracked ⟨oL,hoL,I.free⟩ hs,by simpa using I.len⟩ ⟨_,hs, .inl rfl⟩
  ·exact(hs.2 b (nL (nH (mR e) I.ok.above))).trans (I.base.keep b o e n hb hx)
  ·obtain⟨sl,e1⟩:=I.base.slot b o e n hb hx
   exact⟨sl,(hs.2 b (nL (nH (mR e) I.ok.above))).trans e1⟩
  ·obtain⟨o',e1⟩:=I.base.there b o e hx
   exact⟨o',(hs.2 b (nL (nH (mR e) I.ok.above))).trans e1⟩
  ·by_cases hj:j=i
   ·subst hj
    rw[hi] at e1;cases e1;rw[tJ hiσ] at e2;cases e2;exact⟨u,r, .inl ⟨hk,by simp⟩⟩
   ·rw[sG (Ne.symm hj)] at e2
    obtain⟨u',r',q⟩:=hl j y v' e1 e2 e3;refine⟨u',r', ?_⟩;rcases q with⟨k,e⟩|⟨k,c,e,z⟩
    ·refine .inl ⟨k, ?_⟩
     have:y≠x:=fun e=>hj (zJh hN e1 (e▸hi));simp[this,e]
    ·exact .inr ⟨k,c,e,z.sameBut hs (cne y c e)⟩
  ·obtain⟨w',z⟩:=I.cell y c e
   exact⟨w',z.sameBut hs (cne y c e)⟩
  ·obtain⟨e,n,ne,nf,d⟩:=I.pin p hp
   exact⟨(hs.2 p.1 ne).trans e,n,ne,nf,d⟩
 ·have hfn:X.fn x=true:=by
   rcases hf with z | z
   ·exact z
   ·rw[z] at hk;cases hk
  obtain⟨c,hc⟩:=I.ok.has x (.inl hk);obtain⟨w',z⟩:=I.cell x c hc;refine wpAny_storeName_cell I.ok.kind hk hc z (fun h' hc' hs=>?_);obtain⟨oc,hoc,hocd⟩:=id z;refine h {s with heap:=h'} ⟨I.ok,I.os,I.bare,⟨fun b o e n hb hx=>?_,fun b o e n hb hx=>?_,I.base.free,fun b o e hx=>?_,I.base.tups,I.base.frzs,I.base.tbls⟩,⟨m,hn.sameBut hs (Ne.symm (cne x c hc)),fun j y v' e1 e2 e3=>?_⟩,fun y c' e=>?_,I.free,I.freeC,fun p hp=>?_,tracked ⟨oc,hoc,I.freeC x c hc⟩ hs,by simpa using I.len⟩ ⟨c,hs, .inr hc⟩
  ·exact(hs.2 b (nL (nH (mR e) (I.ok.cab x c hfn hc)))).trans (I.base.keep b o e n hb hx)
  ·obtain⟨sl,e1⟩:=I.base.slot b o e n hb hx
   exact⟨sl,(hs.2 b (nL (nH (mR e) (I.ok.cab x c hfn hc)))).trans e1⟩
  ·obtain⟨o',e1⟩:=I.base.there b o e hx
   exact⟨o',(hs.2 b (nL (nH (mR e) (I.ok.cab x c hfn hc)))).trans e1⟩
  ·by_cases hj:j=i
   ·subst hj
    rw[hi] at e1;cases e1;rw[tJ hiσ] at e2;cases e2;exact⟨u,r, .inr ⟨.inl hk,c,hc,hc'⟩⟩
   ·rw[sG (Ne.symm hj)] at e2
    obtain⟨u',r',q⟩:=hl j y v' e1 e2 e3;refine⟨u',r', ?_⟩;rcases q with q |⟨k,c',e,z'⟩
    ·exact .inl q
    ·refine .inr ⟨k,c',e,z'.sameBut hs ?_⟩
     rintro rfl;exact hj (zJh hN e1 (I.ok.inj _ _ _ e hc▸hi))
  ·by_cases hcc:c'=c
   ·subst hcc;exact⟨_,hc'⟩
   ·obtain⟨w2,z2⟩:=I.cell y c' e
    exact⟨w2,z2.sameBut hs hcc⟩
  ·obtain⟨e,n,ne,nf,d⟩:=I.pin p hp
   refine⟨(hs.2 p.1 ?_).trans e,n,ne,nf,d⟩;intro q;rw[q,hoc] at e;have q':oc=p.2:=mV e;exact d w' (by rw[←q'];exact hocd)
theorem kH{M:Model}{A:Around}{E:Value→Shared→Prop}{i:Nat}{x:Str}{v:V}{u:Value}{Q:Unit→Shared→Prop}(I:Inv X pins σ H s)(hN:X.N.Nodup)(hi:X.N[i]? =some x)(hx:Loc X.env.scope x)(r:RelV v u)
  (h:∀s',Inv X pins (σ.set i (some v)) H s'→Q () s') (hf:X.fn x=true∨X.env.scope.names.lookup x=some .local:=by first | exact .inl rfl | exact .inr rfl | assumption):wpAny M A (storeName X.env x u) Q E s:=
 zEg I hN hi hx r (fun s' I' _=>h s' I') hf
theorem Inv.call'{s':Shared}{ch:List Addr}(I:Inv X pins σ H s)(ho:s'.os=s.os)(u:Un (frs X.stack) ch H H' s.heap s'.heap)(hok:HOk X.prog X.w H' s'.heap)(hg:AllBare s'.gens)
  (hch:∀b∈ch,(b∈X.ex∨X.s₀.heap.objs.size≤b)∧b≠X.env.locals∧(∀x c,X.env.cells.lookup x=some c→c≠b)∧∀p∈X.pn++pins,p.1≠b):Inv X pins σ H' s':=by
 obtain⟨h',g',d',t',o'⟩:=s';have e:o'=s.os:=ho;subst e;exact I.call (g':=g') (t':=t') (d':=d') u hok hg hch
end
abbrev XK:=Value→Option Addr→Hp→Prop
abbrev St:=List (Option V)
abbrev VK:=V→Hp→Prop
abbrev TE:=St→Hp→VK→Prop
abbrev TT:=St→Hp→(Bool→Hp→Prop)→Prop
abbrev TA:=St→Hp→(List V→Hp→Prop)→Prop
structure gR where
 nx:St→Hp→Prop
 rt:VK
 bk:St→Hp→Prop:=fun _ _=>False
 ct:St→Hp→Prop:=fun _ _=>False
abbrev TS:=gR→St→Hp→Prop
def EP(X:Cx)(pins:List (Addr×Obj))(σ:St)(Q:VK)(u:Value)(s':Shared):Prop:=∃v H',Inv X pins σ H' s'∧RelV v u∧Q v H'
def TP(X:Cx)(pins:List (Addr×Obj))(σ:St)(Q:Bool→Hp→Prop)(b:Bool)(s':Shared):Prop:=∃H',Inv X pins σ H' s'∧Q b H'
def AP(X:Cx)(pins:List (Addr×Obj))(σ:St)(Q:List V→Hp→Prop)(us:List Value)(s':Shared):Prop:=∃vs H',Inv X pins σ H' s'∧Vals vs us∧Q vs H'
def SP(X:Cx)(pins:List (Addr×Obj))(D:gR)(f:Flow)(s':Shared):Prop:=
 match f with
 | .next=>∃σ' H',Inv X pins σ' H' s'∧D.nx σ' H'
 | .brk=>∃σ' H',Inv X pins σ' H' s'∧D.bk σ' H'
 | .cont=>∃σ' H',Inv X pins σ' H' s'∧D.ct σ' H'
 | .ret u=>∃v σ' H',Inv X pins σ' H' s'∧RelV v u∧D.rt v H'
def PE(X:Cx)(e:Expr)(t:TE):Prop:=
 ∀(pins:List (Addr×Obj))(s:Shared)(σ:St)(H:Hp)(Q:VK),Inv X pins σ H s→t σ H Q→wpAny (model X.prog X.w) X.A (eval e X.env) (EP X pins σ Q) X.xe s
def PT(X:Cx)(e:Expr)(t:TT):Prop:=
 ∀(pins:List (Addr×Obj))(s:Shared)(σ:St)(H:Hp)(Q:Bool→Hp→Prop),Inv X pins σ H s→t σ H Q→wpAny (model X.prog X.w) X.A (isTrue e X.env (eval e X.env)) (TP X pins σ Q) X.xe s
def PW(X:Cx)(e:Expr)(t:TT):Prop:=
 ∀(whole:Sem Value)(pins:List (Addr×Obj))(s:Shared)(σ:St)(H:Hp)(Q:Bool→Hp→Prop),Inv X pins σ H s→t σ H Q→wpAny (model X.prog X.w) X.A (isTrue e X.env whole) (TP X pins σ Q) X.xe s
theorem PW.pt{X:Cx}{e:Expr}{t:TT}(h:PW X e t):PT X e t:=h _
def PA(X:Cx)(es:List Expr)(t:TA):Prop:=
 ∀(pos:Pos)(pins:List (Addr×Obj))(s:Shared)(σ:St)(H:Hp)(Q:List V→Hp→Prop),Inv X pins σ H s→t σ H Q→wpAny (model X.prog X.w) X.A (spliced (backTo pos (starEach es X.env))) (AP X pins σ Q) X.xe s
def PS(X:Cx)(st:Stmt)(t:TS):Prop:=
 ∀(pins:List (Addr×Obj))(s:Shared)(σ:St)(H:Hp)(D:gR),Inv X pins σ H s→t D σ H→wpAny (model X.prog X.w) X.A (exec st X.env) (SP X pins D) X.xe s
def PSs(X:Cx)(st:List Stmt)(t:TS):Prop:=
 ∀(pins:List (Addr×Obj))(s:Shared)(σ:St)(H:Hp)(D:gR),Inv X pins σ H s→t D σ H→wpAny (model X.prog X.w) X.A (execs st X.env) (SP X pins D) X.xe s
theorem thn{α:Type}{t:Sem α}{Q Q':α→Shared→Prop}{M:Model}{A:Around}{E:Value→Shared→Prop}{s:Shared}(h:wpAny M A t Q E s)(hQ:∀a s,Q a s→Q' a s):wpAny M A t Q' E s:=rF h hQ fun _ _ x=>x
section
variable{X:Cx}
def zBh(i:Nat):TE:=fun σ H Q=>∃v,σ[i]? =some (some v)∧Q v H
def tC(v:V):TE:=fun _ H Q=>Q v H
theorem yAu{i:Nat}{x:Str}{pos:Pos}(hN:X.N[i]? =some x)(hv:Vis X.env.scope x)(hd:(x==("__debug__" :Str))=false:=by decide)(hcd:(x==("__classdict__" :Str))=false:=by decide):PE X (.Name x pos) (zBh i):=by
 intro pins s σ H Q I h;obtain⟨v,e,h⟩:=h;obtain⟨m,hn,hl⟩:=I.loc;obtain⟨u,r,l⟩:=hl i x v hN e hv;have fin:EP X pins σ Q u s:=⟨v,H,I,r,h⟩;rcases l with⟨hk,hm⟩|⟨hk,c,hc,hcell⟩
 ·exact cS (cT I.ok.kind hk hn hm fin) hd
 ·rcases hk with hk | hk
  ·exact cS (dJ I.ok.kind hk hc hcell fin) hd
  ·exact cS (wpAny_loadName_free I.ok.kind hk hc hcell fin hcd) hd
theorem zD{i j pos}:PE X (.Constant (.int i) j pos) (tC (.int i)):=fun _ _ _ H _ I h=>wpAny_Constant_int ⟨.int i,H,I.tok _,⟨_,rfl⟩,h⟩
theorem wA{b j pos}:PE X (.Constant (.bool b) j pos) (tC (.bl b)):=fun _ _ _ H _ I h=>Constant_bool ⟨.bl b,H,I,rfl,h⟩
theorem zAj{j pos}:PE X (.Constant .none j pos) (tC .non):=fun _ _ _ H _ I h=>Constant_none ⟨.non,H,I,rfl,h⟩
theorem zV{x j pos}:PE X (.Constant (.str x) j pos) (tC (.str x)):=fun _ _ _ H _ I h=>bO ⟨.str x,H,I.tok _,⟨_,rfl⟩,h⟩
def Gl(X:Cx)(x:Str):Prop:=X.env.kindOf x=some .globalImplicit
theorem vT{E:Value→Shared→Prop}{pins:List (Addr×Obj)}{s:Shared}{σ:St}{H:Hp}{x:Str}{u:Value}{pos:Pos}{Q:Value→Shared→Prop}(I:Inv X pins σ H s)(hg:Gl X x)(hm:X.mg x=some u)(h:Q u s)
  (hd:(x==("__debug__" :Str))=false:=by decide):wpAny (model X.prog X.w) X.A (eval (.Name x pos) X.env) Q E s:=
 Calls.Name_function_global I.ok.kind hg (Calls.loadGlobal_global (by rw[I.ok.glob];exact I.mod.glob.keeps I.bk) hm h) hd
theorem gW{E:Value→Shared→Prop}{pins:List (Addr×Obj)}{s:Shared}{σ:St}{H:Hp}{x:Str}{u:Value}{pos:Pos}{Q:Value→Shared→Prop}(I:Inv X pins σ H s)(hg:Gl X x)(hm:X.mg x=none)(hv:bootBuiltins x=some u)(h:Q u s)
  (hn:x≠ "__name__":=by decide) (hd:(x==("__debug__" :Str))=false:=by decide):wpAny (model X.prog X.w) X.A (eval (.Name x pos) X.env) Q E s:=by
 obtain⟨mb,h1,h2⟩:=I.mod.blt;exact Calls.Name_function_global I.ok.kind hg (Calls.loadGlobal_builtin (by rw[I.ok.glob];exact I.mod.glob.keeps I.bk) hm (by rw[I.ok.blt];exact h1.keeps I.bk) ((h2 x hn).trans hv) h) hd
theorem zNh{x:Str}{v:V}{u:Value}{pos:Pos}(hg:Gl X x)(hm:X.mg x=some u)(r:RelV v u)(hd:(x==("__debug__" :Str))=false:=by decide):PE X (.Name x pos) (tC v):=
 fun _ _ _ H _ I h=>vT I hg hm ⟨v,H,I,r,h⟩ hd
theorem wJ{x:Str}{v:V}{u:Value}{pos:Pos}(hg:Gl X x)(hm:X.mg x=none)(hv:bootBuiltins x=some u)(r:RelV v u)(hn:x≠ "__name__":=by decide)(hd:(x==("__debug__" :Str))=false:=by decide):PE X (.Name x pos) (tC v):=
 fun _ _ _ H _ I h=>gW I hg hm hv ⟨v,H,I,r,h⟩ hn hd
variable{a b:Expr}{ta tb:TE}{pos:Pos}
def PC(X:Cx)(op:CmpOp)(a b:Expr)(t:TE):Prop:=
 ∀(pins:List (Addr×Obj))(s:Shared)(σ:St)(H:Hp)(Q:VK),Inv X pins σ H s→t σ H Q→
  wpAny (model X.prog X.w) X.A (eval a X.env) (fun v s₁=>wpAny (model X.prog X.w) X.A (eval b X.env) (fun u s₂=>wpAny (model X.prog X.w) X.A (compareOp op v u) (EP X pins σ Q) X.xe s₂) X.xe s₁) X.xe s
theorem zKg(b:Expr){op:CmpOp}(h:op≠ .In)(h2:op≠ .NotIn):behindInMarks op b=false:=by
 have e1:(op==CmpOp.In)=false:=by cases op<;>first | rfl | exact absurd rfl h
 have e2:(op==CmpOp.NotIn)=false:=by cases op<;>first | rfl | exact absurd rfl h2
 cases b<;>simp[behindInMarks,e1,e2]
def yCl(ta:TE):TE:=fun σ H Q=>ta σ H fun x H1=>Q (.bl (decide (x= .non))) H1
def zRl(ta:TE):TE:=fun σ H Q=>ta σ H fun x H1=>Q (.bl (!decide (x= .non))) H1
theorem RelV.none_iff{x:V}{v:Value}(r:RelV x v):(v==Value.none)=decide (x= .non):=by
 cases x with
 | non=>cases r;rfl
 | bl _=>cases r;rfl
 | int _=>obtain⟨t,rfl⟩:=r;rfl
 | str _=>obtain⟨t,rfl⟩:=r;rfl
 | byt _=>obtain⟨t,rfl⟩:=r;rfl
 | flt _=>obtain⟨t,rfl⟩:=r;rfl
 | ref _=>cases r;rfl
 | ty _=>cases r;rfl
theorem zKp{j pos'}(ha:PE X a ta):PC X .Is a (.Constant .none j pos') (yCl ta):=by
 intro pins s σ H Q I h;refine thn (ha pins s σ H _ I h) fun v s1 ⟨x,H1,I1,r1,q1⟩=>?_;exact Constant_none (is_none_gen ⟨.bl _,H1,I1,by rw[r1.none_iff];rfl,q1⟩)
theorem zXh{j pos'}(ha:PE X a ta):PC X .IsNot a (.Constant .none j pos') (zRl ta):=by
 intro pins s σ H Q I h;refine thn (ha pins s σ H _ I h) fun v s1 ⟨x,H1,I1,r1,q1⟩=>?_;exact Constant_none (isnot_none_gen ⟨.bl _,H1,I1,by rw[r1.none_iff];rfl,q1⟩)
def tB(t:TE):TT:=fun σ H Q=>t σ H fun x H1=>∃c,x= .bl c∧Q c H1
theorem zKy{op:CmpOp}{t:TE}(h:PC X op a b t)(h1:behindInMarks op b=false:=by first | exact zKg _ (by decide) (by decide)| rfl):PE X (.Compare a [op] [b] pos) t:=fun pins s σ H Q I hw=>wpAny_Compare1 (h pins s σ H Q I hw) h1
theorem zHq{op:CmpOp}{t:TE}(h:PC X op a b t)(h1:behindInMarks op b=false:=by first | exact zKg _ (by decide) (by decide)| rfl):PT X (.Compare a [op] [b] pos) (tB t):=by
 intro pins s σ H Q I hw;refine cL (thn (h pins s σ H _ I hw) fun v s1 h1=>thn h1 fun u s2 h2=>thn h2 fun c s3 ⟨x,H1,I1,r1,q1⟩=>?_) h1;obtain⟨d,rfl,q⟩:=q1;cases r1;exact pG ⟨H1,I1,q⟩
theorem zT{e:Expr}{t:TE}(h:PE X e t)(he:∀whole,isTrue e X.env whole=(do let v ←whole;standAt e.pos;holding [v] (truthy v)):=by intro _;rfl):PT X e (tB t):=by
 intro pins s σ H Q I hw;refine isTrue_plain (thn (h pins s σ H _ I hw) fun v s1 ⟨x,H1,I1,r1,q1⟩=>?_) (he _);obtain⟨d,rfl,q⟩:=q1;cases r1;exact pG ⟨H1,I1,q⟩
variable{tA tB':TT}{rest:List Expr}
def yAs(t u:TT):TT:=fun σ H Q=>t σ H fun c H1=>if c=true then u σ H1 Q else Q false H1
def tOr(t u:TT):TT:=fun σ H Q=>t σ H fun c H1=>if c=true then Q true H1 else u σ H1 Q
def zZx(t:TT):TT:=fun σ H Q=>t σ H fun c H1=>Q (!c) H1
theorem zGv(ha:PT X a tA):PW X (.BoolOp .And [a] pos) tA:=by
 intro wh pins s σ H Q I h;refine isTrue_and (thn (ha pins s σ H Q I h) fun c s1 e=>?_)
 cases c with
 | true=>exact isTrue_and_nil e
 | false=>exact e
theorem qJ(ha:PT X a tA):PW X (.BoolOp .Or [a] pos) tA:=by
 intro wh pins s σ H Q I h;refine isTrue_or (thn (ha pins s σ H Q I h) fun c s1 e=>?_)
 cases c with
 | false=>exact isTrue_or_nil e
 | true=>exact e
theorem zKv(ha:PT X a tA)(hb:PW X (.BoolOp .And (b::rest) pos) tB'):PW X (.BoolOp .And (a::b::rest) pos) (yAs tA tB'):=by
 intro wh pins s σ H Q I h;refine isTrue_and (thn (ha pins s σ H _ I h) fun c s1 ⟨H1,I1,q1⟩=>?_)
 cases c with
 | true=>exact hb wh pins s1 σ H1 Q I1 q1
 | false=>exact⟨H1,I1,q1⟩
theorem kL(ha:PT X a tA)(hb:PW X (.BoolOp .Or (b::rest) pos) tB'):PW X (.BoolOp .Or (a::b::rest) pos) (tOr tA tB'):=by
 intro wh pins s σ H Q I h;refine isTrue_or (thn (ha pins s σ H _ I h) fun c s1 ⟨H1,I1,q1⟩=>?_)
 cases c with
 | true=>exact⟨H1,I1,q1⟩
 | false=>exact hb wh pins s1 σ H1 Q I1 q1
theorem xC(ha:PT X a tA):PT X (.UnaryOp .Not a pos) (zZx tA):=by
 intro pins s σ H Q I h;exact isTrue_not (ha pins s σ H (fun c H1=>Q (!c) H1) I h)
def zVe(ta tb:TE):TE:=fun σ H Q=>ta σ H fun x H1=>∃c,x= .bl c∧if c=true then tb σ H1 Q else Q (.bl false) H1
def yCi(ta tb:TE):TE:=fun σ H Q=>ta σ H fun x H1=>∃c,x= .bl c∧if c=true then Q (.bl true) H1 else tb σ H1 Q
def zUm(ta:TE):TE:=fun σ H Q=>ta σ H fun x H1=>∃c,x= .bl c∧Q (.bl (!c)) H1
theorem xJ{op}{t:TE}(h:PE X a t):PE X (.BoolOp op [a] pos) t:=fun pins s σ H Q I hw=>BoolOp_one (h pins s σ H Q I hw)
theorem xN(ha:PE X a ta)(hb:PE X (.BoolOp .And (b::rest) pos) tb):PE X (.BoolOp .And (a::b::rest) pos) (zVe ta tb):=by
 intro pins s σ H Q I h;refine BoolOp_and (thn (ha pins s σ H _ I h) fun v s1 ⟨x,H1,I1,r1,q1⟩=>?_);obtain⟨c,rfl,q1⟩:=q1;cases r1;refine pG ?_
 cases c with
 | true=>exact hb pins s1 σ H1 Q I1 q1
 | false=>exact⟨.bl false,H1,I1,rfl,q1⟩
theorem zEs(ha:PE X a ta)(hb:PE X (.BoolOp .Or (b::rest) pos) tb):PE X (.BoolOp .Or (a::b::rest) pos) (yCi ta tb):=by
 intro pins s σ H Q I h;refine BoolOp_or (thn (ha pins s σ H _ I h) fun v s1 ⟨x,H1,I1,r1,q1⟩=>?_);obtain⟨c,rfl,q1⟩:=q1;cases r1;refine pG ?_
 cases c with
 | false=>exact hb pins s1 σ H1 Q I1 q1
 | true=>exact⟨.bl true,H1,I1,rfl,q1⟩
theorem yCg(ha:PE X a ta):PE X (.UnaryOp .Not a pos) (zUm ta):=by
 intro pins s σ H Q I h;refine UnaryOp_ (thn (ha pins s σ H _ I h) fun v s1 ⟨x,H1,I1,r1,q1⟩=>?_);obtain⟨c,rfl,q1⟩:=q1;cases r1;exact not_of (pG ⟨.bl (!c),H1,I1,rfl,q1⟩)
def tIf(t:TT)(ta tb:TE):TE:=fun σ H Q=>t σ H fun c H1=>if c=true then ta σ H1 Q else tb σ H1 Q
theorem zCh{c:Expr}(hc:PT X c tA)(ha:PE X a ta)(hb:PE X b tb):PE X (.IfExp c a b pos) (tIf tA ta tb):=by
 intro pins s σ H Q I h;refine wpAny_IfExp (thn (hc pins s σ H _ I h) fun d s1 ⟨H1,I1,q1⟩=>?_)
 cases d with
 | true=>exact ha pins s1 σ H1 Q I1 q1
 | false=>exact hb pins s1 σ H1 Q I1 q1
end
def SqL(K:W.Frag)(H:Hp)(a:Addr)(xs:List V):Prop:=
 Rd H a (.lst xs)∨
  ∃(o:Obj)(its:Array Value)(n:Nat),K.lookup a=some o∧o.cls= .type "list"∧o.dict=none∧o.data= .seq its n∧its.size≤sizeLine∧Vals xs its.toList
def SqT(K:W.Frag)(H:Hp)(a:Addr)(xs:List V):Prop:=
 Rd H a (.tup xs)∨
  ∃(o:Obj)(its:Array Value)(n:Nat),K.lookup a=some o∧o.cls= .type "tuple"∧o.data= .seq its n∧its.size≤sizeLine∧Vals xs its.toList
def absV:Value→Option V
 | .none=>some .non
 | .bool b=>some (.bl b)
 | .int i _=>some (.int i)
 | .str x _=>some (.str x)
 | .bytes b _=>some (.byt b)
 | .float b _=>some (.flt b)
 | .ref a=>some (.ref a)
 | .type n=>some (.ty n)
 | _=>none
theorem RelV.abs{x:V}{u:Value}(r:RelV x u):absV u=some x:=by
 cases x with
 | non=>cases r;rfl
 | bl _=>cases r;rfl
 | int _=>obtain⟨t,rfl⟩:=r;rfl
 | str _=>obtain⟨t,rfl⟩:=r;rfl
 | byt _=>obtain⟨t,rfl⟩:=r;rfl
 | flt _=>obtain⟨t,rfl⟩:=r;rfl
 | ref _=>cases r;rfl
 | ty _=>cases r;rfl
theorem RelV.inj{x y:V}{u:Value}(r:RelV x u)(q:RelV y u):x=y:=mV (r.abs.symm.trans q.abs)
theorem Vals.inj:∀{xs ys:List V}{us:List Value},Vals xs us→Vals ys us→xs=ys
 | _,_,_, .nil, .nil=>rfl
 | _,_,_, .cons r t, .cons r' t'=>by rw[r.inj r',Vals.inj t t']
section
variable{X:Cx}{pins:List (Addr×Obj)}{σ:St}{H:Hp}{s:Shared}{a:Addr}{xs ys:List V}
theorem SqL.of{K:W.Frag}(h:H a=some (.lst xs)):SqL K H a xs:=.inl (.inl h)
theorem SqT.of{K:W.Frag}(h:H a=some (.tup xs)):SqT K H a xs:=.inl (.inl h)
theorem Inv.list(I:Inv X pins σ H s)(h:SqL X.K H a xs):∃its:List Value,Vals xs its∧PlainL s.heap a its.toArray∧xs.length≤sizeLine:=by
 rcases h with h |⟨o,its,n,hk,hc,hd,hs,hz,r⟩
 ·obtain⟨z,its,n,r,e⟩:=h.ok I.hok
  exact⟨its,r,⟨_,n,e,rfl,rfl,rfl⟩,z⟩
 ·refine⟨its.toList,r,⟨o,n,I.kIn a o hk,hc,hd,by simpa using hs⟩, ?_⟩
  have e:=r.length;simp only[aI] at e
  lia
theorem Inv.tuple(I:Inv X pins σ H s)(h:SqT X.K H a xs):∃its:List Value,Vals xs its∧IsTup s.heap a its.toArray∧xs.length≤sizeLine:=by
 rcases h with h |⟨o,its,n,hk,hc,hs,hz,r⟩
 ·obtain⟨z,its,r,p⟩:=h.ok I.hok
  exact⟨its,r,p,z⟩
 ·refine⟨its.toList,r,⟨o,I.kIn a o hk,hc,n,by simpa using hs⟩, ?_⟩
  have e:=r.length;simp only[aI] at e
  lia
theorem Inv.list_inj(I:Inv X pins σ H s)(h:SqL X.K H a xs)(h':SqL X.K H a ys):xs=ys:=by
 obtain⟨its,r,⟨o,n,e,_,_,d⟩,_⟩:=I.list h;obtain⟨its',r',⟨o',n',e',_,_,d'⟩,_⟩:=I.list h';rw[e] at e';cases e';rw[d] at d';injection d' with d1 _;have:its=its':=by simpa using congrArg Array.toList d1
 subst this;exact r.inj r'
theorem Inv.tuple_inj(I:Inv X pins σ H s)(h:SqT X.K H a xs)(h':SqT X.K H a ys):xs=ys:=by
 obtain⟨its,r,⟨o,e,_,n,d⟩,_⟩:=I.tuple h;obtain⟨its',r',⟨o',e',_,n',d'⟩,_⟩:=I.tuple h';rw[e] at e';cases e';rw[d] at d';injection d' with d1 _;have:its=its':=by simpa using congrArg Array.toList d1
 subst this;exact r.inj r'
end
abbrev Cx.wish(X:Cx)(E:Value→Shared→Prop):Cx:={X with xe:=E}
abbrev Cx.nox(X:Cx):Cx:=X.wish fun _ _=>False
theorem Cx.Ok.wish{X:Cx}(ok:X.Ok)(E:Value→Shared→Prop):(X.wish E).Ok:=
 ⟨ok.mod,ok.kind,ok.glob,ok.blt,ok.above,ok.inj,ok.has,ok.cab,ok.hd,ok.frames,ok.stk,ok.exf,ok.bs,ok.bsz,ok.noex,ok.exfs,ok.funs,ok.frf⟩
theorem Cx.Ok.unwish{X:Cx}{E:Value→Shared→Prop}(ok:(X.wish E).Ok):X.Ok:=
 ⟨ok.mod,ok.kind,ok.glob,ok.blt,ok.above,ok.inj,ok.has,ok.cab,ok.hd,ok.frames,ok.stk,ok.exf,ok.bs,ok.bsz,ok.noex,ok.exfs,ok.funs,ok.frf⟩
section
variable{X:Cx}{pins:List (Addr×Obj)}{σ:St}{H:Hp}{s:Shared}{E:Value→Shared→Prop}
theorem Inv.wish(I:Inv X pins σ H s)(E:Value→Shared→Prop):Inv (X.wish E) pins σ H s:=⟨I.ok.wish E,I.os,I.bare,I.base,I.loc,I.cell,I.free,I.freeC,I.pin,I.hok,I.len⟩
theorem Inv.unwish(I:Inv (X.wish E) pins σ H s):Inv X pins σ H s:=⟨I.ok.unwish,I.os,I.bare,I.base,I.loc,I.cell,I.free,I.freeC,I.pin,I.hok,I.len⟩
theorem SP.unwish{D:gR}{f:Flow}{s':Shared}(h:SP (X.wish E) pins D f s'):SP X pins D f s':=by
 cases f with
 | next=>obtain⟨σ',H',I,q⟩:=h;exact⟨σ',H',I.unwish,q⟩
 | brk=>obtain⟨σ',H',I,q⟩:=h;exact⟨σ',H',I.unwish,q⟩
 | cont=>obtain⟨σ',H',I,q⟩:=h;exact⟨σ',H',I.unwish,q⟩
 | ret u=>obtain⟨v,σ',H',I,r,q⟩:=h;exact⟨v,σ',H',I.unwish,r,q⟩
theorem PSs.nox{st:List Stmt}{t:TS}(h:PSs X.nox st t):PSs X st t:=fun pins s σ H D I hw=>
 rF (h pins s σ H D (I.wish _) hw) (fun _ _ q=>q.unwish) fun _ _ z=>False.elim z
end
section
variable{X:Cx}{st:Stmt}{rest:List Stmt}{t u:TS}{e:Expr}{te:TE}{pos:Pos}
def zRs:TS:=fun D σ H=>D.nx σ H
def zQr(t u:TS):TS:=fun D σ H=>t {D with nx:=u D} σ H
theorem zL:PSs X [] zRs:=fun _ _ σ H _ I h=>tQ ⟨σ,H,I,h⟩
theorem zC(h1:PS X st t)(h2:PSs X rest u):PSs X (st::rest) (zQr t u):=by
 intro pins s σ H D I h;refine bE (thn (h1 pins s σ H {D with nx:=u D} I h) fun f s1 q=>?_)
 cases f with
 | next=>
  obtain⟨σ',H',I',q⟩:=q;exact h2 pins s1 σ' H' D I' q
 | ret v=>exact q
 | brk=>exact q
 | cont=>exact q
theorem zF(h1:PS X st t):PSs X [st] t:=by
 intro pins s σ H D I h;refine bE (thn (h1 pins s σ H D I h) fun f s1 q=>?_)
 cases f with
 | next=>exact tQ q
 | ret v=>exact q
 | brk=>exact q
 | cont=>exact q
theorem Inv.quiet{pins:List (Addr×Obj)}{σ:St}{H:Hp}{s:Shared}(I:Inv X pins σ H s):interactive X.env=false:=by simp[interactive,I.ok.kind]
def zSt(te:TE):TS:=fun D σ H=>te σ H fun _ H1=>D.nx σ H1
theorem kZ(he:PE X e te)(hs:swapsWith e none pos.line X.env=pure false:=by rfl):PS X (.Expr e pos) (zSt te):=by
 intro pins s σ H D I h;exact wpAny_Expr_any (thn (he pins s σ H _ I h) fun v s1 ⟨x,H1,I1,r1,q1⟩=>⟨σ,H1,I1,q1⟩) I.quiet hs
def zXy(te:TE):TS:=fun D σ H=>te σ H D.rt
theorem zJ(he:PE X e te):PS X (.Return (some e) pos) (zXy te):=by
 intro pins s σ H D I h;exact wpAny_Return_some (thn (he pins s σ H _ I h) fun v s1 ⟨x,H1,I1,r1,q1⟩=>⟨x,σ,H1,I1,r1,q1⟩)
def zZb:TS:=fun D _ H=>D.rt .non H
def yBe(c:TT)(t u:TS):TS:=fun D σ H=>c σ H fun b H1=>if b=true then t D σ H1 else u D σ H1
theorem zR{c:Expr}{a b:List Stmt}{tc:TT}(hc:PT X c tc)(ha:PSs X a t)(hb:PSs X b u):PS X (.If c a b pos) (yBe tc t u):=by
 intro pins s σ H D I h;refine wpAny_If (thn (hc pins s σ H _ I h) fun d s1 ⟨H1,I1,q1⟩=>?_)
 cases d with
 | true=>exact ha pins s1 σ H1 D I1 q1
 | false=>exact hb pins s1 σ H1 D I1 q1
def zLm:TS:=fun _ _ _=>False
theorem gE{sts:List Stmt}:PSs X sts zLm:=fun _ _ _ _ _ _ h=>h.elim
end
abbrev TG:=V→St→Hp→(St→Hp→Prop)→Prop
abbrev TGs:=List V→St→Hp→(St→Hp→Prop)→Prop
def PG(X:Cx)(target:Expr)(t:TG):Prop:=
 ∀(pins:List (Addr×Obj))(s:Shared)(σ:St)(H:Hp)(v:V)(u:Value)(Q:St→Hp→Prop),Inv X pins σ H s→RelV v u→t v σ H Q→
  wpAny (model X.prog X.w) X.A (assign target X.env u) (fun _ s'=>∃σ' H',Inv X pins σ' H' s'∧Q σ' H') X.xe s
def PGs(X:Cx)(ts:List Expr)(t:TGs):Prop:=
 ∀(pins:List (Addr×Obj))(s:Shared)(σ:St)(H:Hp)(vs:List V)(us:List Value)(Q:St→Hp→Prop),Inv X pins σ H s→Vals vs us→t vs σ H Q→
  wpAny (model X.prog X.w) X.A (assignInOrder ((assignEach ts X.env).map (·.2)) us) (fun _ s'=>∃σ' H',Inv X pins σ' H' s'∧Q σ' H') X.xe s
abbrev TIp:=V→V→Hp→VK→Prop
def PIp(X:Cx)(op:Operator)(t:TIp):Prop:=
 ∀(pins:List (Addr×Obj))(s:Shared)(σ:St)(H:Hp)(x y:V)(v u:Value)(Q:VK),Inv X pins σ H s→RelV x v→RelV y u→t x y H Q→
  wpAny (model X.prog X.w) X.A (inplaceOp op v u) (EP X pins σ Q) X.xe s
section
variable{X:Cx}{pos:Pos}
def wY(i:Nat):TG:=fun v σ H Q=>Q (σ.set i (some v)) H
theorem zW{i:Nat}{x:Str}(hN:X.N.Nodup)(hi:X.N[i]? =some x)(hx:Loc X.env.scope x)(hf:X.fn x=true∨X.env.scope.names.lookup x=some .local:=by first | exact .inl rfl | exact .inr rfl | assumption):PG X (.Name x pos) (wY i):=by
 intro pins s σ H v u Q I r h;exact wpAny_assign_Name (kH I hN hi hx r (fun s' I'=>⟨_,H,I',h⟩) hf)
def zWe:TGs:=fun vs σ H Q=>vs= []∧Q σ H
def zJt(t:TG)(u:TGs):TGs:=fun vs σ H Q=>∃v r,vs=v::r∧t v σ H fun σ' H'=>u r σ' H' Q
theorem zNb:PGs X [] zWe:=by
 intro pins s σ H vs us Q I r h;obtain⟨e,h⟩:=h;subst e;cases r;exact assignInOrder_nil ⟨σ,H,I,h⟩
theorem uQ{e:Expr}{es:List Expr}{t:TG}{u:TGs}(h1:PG X e t)(h2:PGs X es u)
  (hs:(assignEach (e::es) X.env).map (·.2)=assign e X.env::(assignEach es X.env).map (·.2):=by rfl):PGs X (e::es) (zJt t u):=by
 intro pins s σ H vs us Q I r h;obtain⟨v,vr,e1,h⟩:=h;subst e1
 cases r with
 | cons r rr=>
  rw[hs];refine assignInOrder_cons (thn (h1 pins s σ H _ _ _ I r h) fun _ s1 ⟨σ1,H1,I1,q1⟩=>?_);exact h2 pins s1 σ1 H1 _ _ Q I1 rr q1
def zSs(K:W.Frag)(n:Nat)(t:TGs):TG:=fun v σ H Q=>∃a xs,v= .ref a∧SqT K H a xs∧xs.length=n∧t xs σ H Q
theorem zRg{es:List Expr}{k:Nat}{t:TGs}{n:Nat}(hc:X.cool=true)(h:PGs X es t)
  (hn:(assignEach es X.env).length=n:=by rfl) (hst:(assignEach es X.env).findIdx? (·.1)=none:=by rfl):PG X (.Tuple es k pos) (zSs X.K n t):=by
 intro pins s σ H v u Q I r hw;obtain⟨a,xs,e1,hq,hl,hw⟩:=hw;subst e1;cases r;obtain⟨its,rv,ht,hz⟩:=I.tuple hq;refine zDg (I.hn hc) ht (by simp[hn,←hl,rv.length]) hst fun h' hx=>?_;have I1:Inv X pins σ H {s with heap:=h'}:=I.kept (t':=s.toks) fun b o e=>hx b o (nL (mR e)) e;exact h pins _ σ H xs _ Q I1 (by simpa using rv) hw
def zIj(te:TE)(g:TG):TS:=fun D σ H=>te σ H fun x H1=>g x σ H1 D.nx
theorem yAi{tg e:Expr}{te:TE}{g:TG}(he:PE X e te)(hg:PG X tg g)(hs:swapsWithSole [tg] e pos.line X.env=pure false:=by rfl)(hw:swappedStores [tg] e X.env=pure none:=by rfl)
  (h1:(assignEach [tg] X.env).map (·.2)= [assign tg X.env]:=by rfl):PS X (.Assign [tg] e pos) (zIj te g):=by
 intro pins s σ H D I h;refine wpAny_Assign_stores (thn (he pins s σ H _ I h) fun v s1 ⟨x,H1,I1,r1,q1⟩=>?_) hs hw;rw[h1];exact thn (hg pins s1 σ H1 x v _ I1 r1 q1) fun _ s2 q=>q
theorem zHv{i:Nat}{x:Str}{e:Expr}{te:TE}{pos':Pos}(hN:X.N.Nodup)(hi:X.N[i]? =some x)(hx:Loc X.env.scope x)(he:PE X e te)(hs:swapsWith e (some (.Name x pos')) pos.line X.env=pure false:=by rfl)(hf:X.fn x=true∨X.env.scope.names.lookup x=some .local:=by first | exact .inl rfl | exact .inr rfl | assumption):
  PS X (.Assign [.Name x pos'] e pos) (zIj te (wY i)):=by
 intro pins s σ H D I h;refine dZ (thn (he pins s σ H _ I h) fun v s1 ⟨y,H1,I1,r1,q1⟩=>?_) hs;exact kH I1 hN hi hx r1 (fun s2 I2=>⟨_,H1,I2,q1⟩) hf
def tAug(i:Nat)(te:TE)(ti:TIp):TS:=fun D σ H=>∃x,σ[i]? =some (some x)∧te σ H fun y H1=>ti x y H1 fun z H2=>D.nx (σ.set i (some z)) H2
theorem zTv{i:Nat}{x:Str}{e:Expr}{te:TE}{op:Operator}{ti:TIp}{pos':Pos}(hN:X.N.Nodup)(hi:X.N[i]? =some x)(hx:Loc X.env.scope x)(he:PE X e te)(ho:PIp X op ti)(hf:X.fn x=true∨X.env.scope.names.lookup x=some .local:=by first | exact .inl rfl | exact .inr rfl | assumption):
  PS X (.AugAssign (.Name x pos') op e pos) (tAug i te ti):=by
 intro pins s σ H D I h;obtain⟨v,e1,h⟩:=h;obtain⟨m,hn,hl⟩:=I.loc;have vis:Vis X.env.scope x:=by rcases hx with k | k;exact .inl k;exact .inr (.inl k)
 obtain⟨u,r,l⟩:=hl i x v hi e1 vis;refine wpAny_AugAssign_Name ?_;have go:wpAny (model X.prog X.w) X.A (eval e X.env) (fun w s₂=>wpAny (model X.prog X.w) X.A (inplaceOp op u w) (fun r s₃=>wpAny (model X.prog X.w) X.A (storeName X.env x r) (fun _=>SP X pins D .next) X.xe s₃) X.xe s₂) X.xe s:=by
  refine thn (he pins s σ H _ I h) fun w s1 ⟨y,H1,I1,r1,q1⟩=>?_;refine thn (ho pins s1 σ H1 v y u w _ I1 r r1 q1) fun z s2 ⟨zv,H2,I2,r2,q2⟩=>?_;exact kH I2 hN hi hx r2 (fun s3 I3=>⟨_,H2,I3,q2⟩) hf
 rcases l with⟨hk,hm⟩|⟨hk,c,hc,hcell⟩
 ·exact cT I.ok.kind hk hn hm go
 ·rcases hk with hk | hk
  ·exact dJ I.ok.kind hk hc hcell go
  ·rcases hx with k | k
   ·have:X.env.scope.names.lookup x=some .free:=hk
    rw[k] at this;cases this
   ·have:X.env.scope.names.lookup x=some .free:=hk
    rw[k] at this;cases this
def ipI(f:Int→Int→Int):TIp:=fun x y H Q=>∃i j,x= .int i∧y= .int j∧Q (.int (f i j)) H
theorem zSq:PIp X .Add (ipI fun i j=>i+j):=by
 intro pins s σ H x y v u Q I r1 r2 h;obtain⟨i,j,e1,e2,q⟩:=h;subst e1;subst e2;obtain⟨t,rfl⟩:=r1;obtain⟨t',rfl⟩:=r2;exact iadd_int ⟨.int _,H,I.tok _,⟨_,rfl⟩,q⟩
def zZw(c:TT)(tb:TS):TS:=fun D σ H=>∃W:Nat→St→Hp→Prop,(∃m,W m σ H)∧∀m σ H,W m σ H→
 c σ H fun b H1=>if b=true then∃N:St→Hp→Prop,(∀σ' H',N σ' H'→∃m',m'<m∧W m' σ' H')∧tb {D with nx:=N,ct:=N,bk:=D.nx} σ H1 else D.nx σ H1
theorem zSj{c:Expr}{body:List Stmt}{tc:TT}{tb:TS}(hp:PassesOwn (model X.prog X.w) X.A X.env X.xe)(hc:PT X c tc)(hb:PSs X body tb):PS X (.While c body [] pos) (zZw tc tb):=by
 intro pins s σ H D I h;obtain⟨W,⟨m0,w0⟩,turn⟩:=h;refine wpAny_While (codeAny_whileLoop (fun n s'=>∃σ' H',Inv X pins σ' H' s'∧W n σ' H') ?_ m0 ⟨σ,H,I,w0⟩);rintro n s1 ⟨σ1,H1,I1,w1⟩;refine tR hp (thn (hc pins s1 σ1 H1 _ I1 (turn n σ1 H1 w1)) fun b s2 ⟨H2,I2,q2⟩=>?_)
 cases b with
 | true=>
  obtain⟨N,hN,q2⟩:=q2;rw[mK rfl];refine tR hp (thn (hb pins s2 σ1 H2 _ I2 q2) fun f s3 q3=>?_)
  cases f with
  | next=>
   obtain⟨σ3,H3,I3,n3⟩:=q3;obtain⟨m',hm,w3⟩:=hN σ3 H3 n3;exact⟨m',hm,σ3,H3,I3,w3⟩
  | cont=>
   obtain⟨σ3,H3,I3,n3⟩:=q3;obtain⟨m',hm,w3⟩:=hN σ3 H3 n3;exact⟨m',hm,σ3,H3,I3,w3⟩
  | brk=>exact q3
  | ret v=>exact q3
 | false=>
  rw[mI mW];exact tQ ⟨σ1,H2,I2,q2⟩
end
structure It where
 go:Nat→Hp→Prop
 yld:Nat→Hp→V→Hp→Prop
 stop:Nat→Hp→Prop
def zBx(X:Cx)(pins:List (Addr×Obj))(H:Hp)(b:Addr):Prop:=
 H b=none∧b≠X.env.locals∧b∉X.fs∧(b∈X.ex∨X.s₀.heap.objs.size≤b)∧(∀x c,X.env.cells.lookup x=some c→c≠b)∧∀p∈X.pn++pins,p.1≠b
theorem Inv.fpOk{X:Cx}{pins:List (Addr×Obj)}{σ:St}{H H':Hp}{s:Shared}{b:Addr}(I:Inv X pins σ H s)(hb:s.heap.objs.size≤b)(hn:H' b=none):zBx X pins H' b:=by
 refine⟨hn,pK (nH I.lt hb),I.nofs hb, .inr (nN I.sz hb),fun x c e z=>?_,fun p hp z=>?_⟩
 ·obtain⟨v,q⟩:=I.cell x c e
  exact absurd (nH q.lt (by rw[z];exact hb)) (rO _)
 ·exact absurd (nH (mR (I.pin p hp).1) (by rw[z];exact hb)) (rO _)
structure zCn(fl:Bool)(P:Program)(w:World)(K:W.Frag)(tg:Expr)(J:It)(fp:List Addr)(it:Addr)(tn:Nat→Heap→Prop):Prop where
 mem:it∈fp
 obj:∀i h,tn i h→∀b∈fp,∃o,h.get? b=some o∧∀v,o.data≠ .cell v
 keep:∀i h h',tn i h→(∀b∈fp,∀o,h.get? b=some o→h'.get? b=some o)→tn i h'
 item:∀(X:Cx),X.prog=P→X.w=w→X.K=K→X.heat fl=true→∀(i:Nat)(pins:List (Addr×Obj))(s:Shared)(σ:St)(H:Hp)(E:Value→Shared→Prop),Inv X pins σ H s→(∀b∈fp,zBx X pins H b)→tn i s.heap→J.go i H→
  wpAny (model P w) X.A (pyNext (.ref it)) (fun r s1=>∃u,r=some u∧
   wpAny (model P w) X.A (letOwnedTupleGo tg (.ref it) u) (fun _ s2=>∃x H',Inv X pins σ H' s2∧RelV x u∧J.yld i H x H'∧tn (i+1) s2.heap∧∀b∈fp,H' b=none) E s1) E s
 done:∀(X:Cx),X.prog=P→X.w=w→X.K=K→X.heat fl=true→∀(i:Nat)(pins:List (Addr×Obj))(s:Shared)(σ:St)(H:Hp)(E:Value→Shared→Prop),Inv X pins σ H s→(∀b∈fp,zBx X pins H b)→tn i s.heap→J.stop i H→
  wpAny (model P w) X.A (pyNext (.ref it)) (fun r s1=>r=none∧Inv X pins σ H s1) E s
 self:∀(A:Around)(i:Nat)(s:Shared)(Q:Value→Shared→Prop)(E:Value→Shared→Prop),tn i s.heap→Q (.ref it) s→wpAny (model P w) A (pyIter (.ref it)) Q E s
abbrev yCn(P:Program)(w:World)(K:W.Frag)(tg:Expr)(J:It)(fp:List Addr)(it:Addr)(tn:Nat→Heap→Prop):Prop:=zCn false P w K tg J fp it tn
abbrev TI:=St→Hp→(It→Hp→Prop)→Prop
def PIE(X:Cx)(pins:List (Addr×Obj))(σ:St)(tg:Expr)(R:It→Hp→Prop)(itv:Value)(s2:Shared):Prop:=
 ∃(it:Addr)(fp:List Addr)(tn:Nat→Heap→Prop)(J:It)(H':Hp),itv= .ref it∧Inv X pins σ H' s2∧(∃fl,X.heat fl=true∧zCn fl X.prog X.w X.K tg J fp it tn)∧tn 0 s2.heap∧(∀b∈fp,zBx X pins H' b)∧R J H'
def PI(X:Cx)(tg iter:Expr)(wi:TI):Prop:=
 ∀(pins:List (Addr×Obj))(s:Shared)(σ:St)(H:Hp)(R:It→Hp→Prop),Inv X pins σ H s→wi σ H R→
  wpAny (model X.prog X.w) X.A (eval iter X.env) (fun v s1=>wpAny (model X.prog X.w) X.A (pyIter v) (PIE X pins σ tg R) X.xe s1) X.xe s
theorem zEl{M:Model}{A:Around}{E:Value→Shared→Prop}{s:Shared}{tg:Expr}{it:Addr}{u:Value}{o:Obj}{n:String}{vs:Array Value}{Q:Unit→Shared→Prop}(ho:s.heap.get? it=some o)(hc:o.cls= .type n)(hd:o.data= .fields vs)
    (hn: ["enumerate","zip","dict_itemiterator","dict_reverseitemiterator","odict_iterator","itertools.zip_longest","itertools.pairwise"].contains n=false) (hQ:Q () s):wpAny M A (letOwnedTupleGo tg (.ref it) u) Q E s:=by
  unfold letOwnedTupleGo;cases tg<;>first
    | exact mM hQ
    |(cases u<;>first
        | exact mM hQ
        | (refine mC (wpAny_load ho ?_)
           rw[hc,hd];show wpAny M A (if(["enumerate","zip","dict_itemiterator","dict_reverseitemiterator","odict_iterator","itertools.zip_longest","itertools.pairwise"].contains n && vs[0]? ==some (rawInt _))=true then _ else _) Q E s;rw[mI (by intro h;rw[hn,Bool.false_and] at h;cases h)];exact mM hQ))
def Itl(K:W.Frag)(a:Addr):It:=
 ⟨fun i H=>∃xs x,SqL K H a xs∧xs[i]? =some x,fun i H x H'=>H'=H∧∀xs,SqL K H a xs→xs[i]? =some x,fun i H=>∃xs,SqL K H a xs∧xs.length≤i⟩
def Itt(K:W.Frag)(a:Addr):It:=
 ⟨fun i H=>∃xs x,SqT K H a xs∧xs[i]? =some x,fun i H x H'=>H'=H∧∀xs,SqT K H a xs→xs[i]? =some x,fun i H=>∃xs,SqT K H a xs∧xs.length≤i⟩
def Itr(lo:Int)(n:Nat):It:=⟨fun i _=>i<n,fun i H x H'=>H'=H∧x= .int (lo+i),fun i _=>n≤i⟩
theorem zQh{P:Program}{w:World}{K:W.Frag}{tg:Expr}(a it:Addr):zCn true P w K tg (Itl K a) [it] it (fun i h=>h.IsListIter it a i) where
 mem:=by simp
 obj:=fun i h st b hb=>by
  have e:b=it:=by simpa using hb
  subst e;obtain⟨o,e,c,d⟩:=st;exact⟨o,e,fun v z=>by rw[d] at z;cases z⟩
 keep:=fun i h h' st k=>st.at fun o e=>k it (by simp) o e
 item:=by
  intro X hP hw hK hc i pins s σ H E I hf st hg;subst hP hw hK;obtain⟨xs,x,hq,hx⟩:=hg;obtain⟨its,rv,p,hz⟩:=I.list hq;obtain⟨u,hu,ru⟩:=rv.get hx;obtain⟨f0,f1,f2,f3,f4,f5⟩:=hf it (by simp);refine tI st p.isList (x:=u) (by simpa using hu) fun h' st' sb=>?_;have I1:Inv X pins σ H {s with heap:=h'}:=I.turned (t':=s.toks) (fun b o hb e=>(sb.2 b hb).trans e) f0 f1 f3 f4 f5;obtain⟨o,e,c,d⟩:=id st';exact⟨u,rfl,zEl (s:={s with heap:=h'}) e c d (by decide) ⟨x,H,I1,ru,⟨rfl,fun ys hy=>by rw[I.list_inj hy hq];exact hx⟩,st',fun b hb=>(hf b hb).1⟩⟩
 done:=by
  intro X hP hw hK hc i pins s σ H E I hf st hg;subst hP hw hK;obtain⟨xs,hq,hx⟩:=hg;obtain⟨its,rv,p,hz⟩:=I.list hq;obtain⟨f0,f1,f2,f3,f4,f5⟩:=hf it (by simp);have hl:=rv.length;exact vY (I.hn hc) st p.isList (by simp;lia) fun h' eb=>⟨rfl,I.turned (t':=s.toks) (fun b o hb e=>eb b o hb e) f0 f1 f3 f4 f5⟩
 self:=fun _ _ _ _ _ st h=>wpAny_pyIter_listiter st h
theorem zKm{P:Program}{w:World}{K:W.Frag}{tg:Expr}(a it:Addr):zCn true P w K tg (Itt K a) [it] it (fun i h=>h.IsTupleIter it a i) where
 mem:=by simp
 obj:=fun i h st b hb=>by
  have e:b=it:=by simpa using hb
  subst e;obtain⟨o,e,c,d⟩:=st;exact⟨o,e,fun v z=>by rw[d] at z;cases z⟩
 keep:=fun i h h' st k=>st.at fun o e=>k it (by simp) o e
 item:=by
  intro X hP hw hK hc i pins s σ H E I hf st hg;subst hP hw hK;obtain⟨xs,x,hq,hx⟩:=hg;obtain⟨its,rv,p,hz⟩:=I.tuple hq;obtain⟨u,hu,ru⟩:=rv.get hx;obtain⟨f0,f1,f2,f3,f4,f5⟩:=hf it (by simp);refine wpAny_pyNext_tuple_item st (show s.heap.IsTuple a its.toArray from p) (x:=u) (by simpa using hu) fun h' st' sb=>?_;have I1:Inv X pins σ H {s with heap:=h'}:=I.turned (t':=s.toks) (fun b o hb e=>(sb.2 b hb).trans e) f0 f1 f3 f4 f5;obtain⟨o,e,c,d⟩:=id st';exact⟨u,rfl,zEl (s:={s with heap:=h'}) e c d (by decide) ⟨x,H,I1,ru,⟨rfl,fun ys hy=>by rw[I.tuple_inj hy hq];exact hx⟩,st',fun b hb=>(hf b hb).1⟩⟩
 done:=by
  intro X hP hw hK hc i pins s σ H E I hf st hg;subst hP hw hK;obtain⟨xs,hq,hx⟩:=hg;obtain⟨its,rv,p,hz⟩:=I.tuple hq;obtain⟨f0,f1,f2,f3,f4,f5⟩:=hf it (by simp);have hl:=rv.length;exact zBd (I.hn hc) st p (by simp;lia) fun h' eb=>⟨rfl,I.turned (t':=s.toks) (fun b o hb e=>eb b o hb e) f0 f1 f3 f4 f5⟩
 self:=fun _ _ _ _ _ st h=>wpAny_pyIter_tupleiter st h
theorem zMa{P:Program}{w:World}{K:PySem.W.Frag}{tg:Expr}(it:Addr)(lo:Int)(n:Nat):yCn P w K tg (Itr lo n) [it] it (fun i h=>IsRangeIter h it (lo+(i:Nat)*1) ((n:Int)- (i:Nat)) 1) where
 mem:=by simp
 obj:=fun i h st b hb=>by
  have e:b=it:=by simpa using hb
  subst e;exact⟨_,st,fun v z=>by
   have z':Data.fields _=Data.cell v:=z;cases z'⟩
 keep:=fun i h h' st k=>k it (by simp) _ st
 item:=by
  intro X hP hw hK hc i pins s σ H E I hf st hg;subst hP hw hK;obtain⟨f0,f1,f2,f3,f4,f5⟩:=hf it (by simp);have W:=Walks.range (prog:=X.prog) (w:=X.w) (I.ok.hd.1 hc) it lo 1 n;refine W.item i s _ _ hg st fun v h' tk hv st' kk=>?_;obtain⟨t,rfl⟩:=hv;have I1:Inv X pins σ H {s with heap:=h',toks:=tk}:=I.turned (fun b o hb e=>kk b o (by simpa using hb) e) f0 f1 f3 f4 f5;refine⟨_,rfl,zEl (s:={s with heap:=h',toks:=tk}) (n:="range_iterator") st' rfl rfl (by decide) ⟨.int (lo+i),H,I1,⟨t, ?_⟩,⟨rfl,rfl⟩,st',fun b hb=>(hf b hb).1⟩⟩;rw[Int.mul_one]
 done:=by
  intro X hP hw hK hc i pins s σ H E I hf st hg;subst hP hw hK;obtain⟨f0,f1,f2,f3,f4,f5⟩:=hf it (by simp);exact wpAny_pyNext_range_end (I.ok.hd.1 hc) st (by have:n≤i:=hg;lia) fun h' eb=>⟨rfl,I.turned (t':=s.toks) (fun b o hb e=>eb b o hb e) f0 f1 f3 f4 f5⟩
 self:=fun _ _ _ _ _ st h=>wpAny_pyIter_rangeiter st h
section
variable{X:Cx}{tg:Expr}
def zUa(K:W.Frag)(tl:TE):TI:=fun σ H R=>tl σ H fun x H1=>∃a,x= .ref a∧(∃xs,SqL K H1 a xs)∧R (Itl K a) H1
def iTup(K:W.Frag)(tl:TE):TI:=fun σ H R=>tl σ H fun x H1=>∃a,x= .ref a∧(∃xs,SqT K H1 a xs)∧R (Itt K a) H1
theorem xU{l:Expr}{tl:TE}(hl:PE X l tl)(hcl:X.cool=true:=by rfl):PI X tg l (zUa X.K tl):=by
 intro pins s σ H R I h;refine thn (hl pins s σ H _ I h) fun v s1 ⟨x,H1,I1,r1,q1⟩=>?_;obtain⟨a,e,⟨xs,hq⟩,q⟩:=q1;subst e;cases r1;obtain⟨its,rv,p,hz⟩:=I1.list hq;refine cB p.isList ?_;refine⟨s1.heap.objs.size,[s1.heap.objs.size],_,_,H1,rfl,I1.kept (t':=s1.toks) fun b o e=>mE _ e,⟨true,hcl,zQh a _⟩,⟨_,mX _ rfl,rfl,rfl⟩,fun b hb=>?_,q⟩;have e:b=s1.heap.objs.size:=by simpa using hb
 subst e;exact I1.fpOk (mD _) (I1.hok.fresh (mD _))
theorem yAv{l:Expr}{tl:TE}(hl:PE X l tl)(hcl:X.cool=true:=by rfl):PI X tg l (iTup X.K tl):=by
 intro pins s σ H R I h;refine thn (hl pins s σ H _ I h) fun v s1 ⟨x,H1,I1,r1,q1⟩=>?_;obtain⟨a,e,⟨xs,hq⟩,q⟩:=q1;subst e;cases r1;obtain⟨its,rv,p,hz⟩:=I1.tuple hq;refine wpAny_pyIter_tuple (show s1.heap.IsTuple a its.toArray from p) ?_;refine⟨s1.heap.objs.size,[s1.heap.objs.size],_,_,H1,rfl,I1.kept (t':=s1.toks) fun b o e=>mE _ e,⟨true,hcl,zKm a _⟩,⟨_,mX _ rfl,rfl,rfl⟩,fun b hb=>?_,q⟩;have e:b=s1.heap.objs.size:=by simpa using hb
 subst e;exact I1.fpOk (mD _) (I1.hok.fresh (mD _))
theorem zJd{pins:List (Addr×Obj)}{σ:St}{H:Hp}{s:Shared}{R:It→Hp→Prop}{E:Value→Shared→Prop}{lo hi:Int}{t u v:Tok}{tk:Nat}(I:Inv X pins σ H s)(h1: -(2 ^ 62)≤lo)(h2:lo<2 ^ 62)(h3: -(2 ^ 62)≤hi)(h4:hi<2 ^ 62)
  (q:R (Itr lo (hi - lo).toNat) H) (hcl:X.calm=true):wpAny (model X.prog X.w) X.A (pyIter (.ref s.heap.objs.size)) (PIE X pins σ tg R) E {s with heap:=s.heap.push {cls:=.type "range",data:=.fields #[.int lo t, .int hi u, .int 1 v]},toks:=tk}:=by
 refine wpAny_pyIter_range (IsRange.new ..) (small_one h1 h2 h3 h4) ?_;have I1:Inv X pins σ H {s with heap:=s.heap.push {cls:=.type "range",data:=.fields #[.int lo t, .int hi u, .int 1 v]},toks:=tk}:=I.kept fun b o e=>mE _ e;refine⟨(s.heap.push {cls:=.type "range",data:=.fields #[.int lo t, .int hi u, .int 1 v]}).objs.size,[(s.heap.push {cls:=.type "range",data:=.fields #[.int lo t, .int hi u, .int 1 v]}).objs.size],_,_,H,rfl,
  I1.kept (t':=tk) fun b o e=>mE _ e,⟨false,hcl,zMa _ lo (hi - lo).toNat⟩, ?_,fun b hb=>?_,q⟩
 ·have e1:lo+((0:Nat):Int)*1=lo:=by simp
  have e2:(((hi - lo).toNat:Nat):Int)- ((0:Nat):Int)=Builtin.Range.rangeSize lo hi 1:=by rw[rangeSize_one];split<;>lia
  show IsRangeIter _ _ (lo+((0:Nat):Int)*1) ((((hi - lo).toNat:Nat):Int)- ((0:Nat):Int)) 1;rw[e1,e2];exact mX _ rfl
 ·have e:b=(s.heap.push {cls:=.type "range",data:=.fields #[.int lo t, .int hi u, .int 1 v]}).objs.size:=by simpa using hb
  subst e;exact I1.fpOk (mD _) (I1.hok.fresh (mD _))
def zUj(ta:TA):TI:=fun σ H R=>ta σ H fun vs H1=>∃j:Int,vs= [.int j]∧-(2 ^ 62)≤j∧j<2 ^ 62∧R (Itr 0 j.toNat) H1
def zYo(ta:TA):TI:=fun σ H R=>ta σ H fun vs H1=>∃i j:Int,vs= [.int i, .int j]∧(-(2 ^ 62)≤i∧i<2 ^ 62∧-(2 ^ 62)≤j∧j<2 ^ 62)∧R (Itr i (j - i).toNat) H1
theorem xY{a:Expr}{ta:TA}{p pos:Pos}(hg:Gl X "range")(hm:X.mg "range" =none)(ha:PA X [a] ta)(hs:starEach [a] X.env= [(false,eval a X.env)]:=by rfl)(hcl:X.calm=true:=by rfl):PI X tg (.Call (.Name "range" p) [a] [] pos) (zUj ta):=by
 intro pins s σ H R I h;refine Call_ (gW I hg hm boot_range (tM (thn (ha pos pins s σ H _ I h) fun us s1 ⟨vs,H1,I1,r1,q1⟩=>?_) hs rfl));obtain⟨j,e,q1,q2,q⟩:=q1;subst e
 cases r1 with
 | cons r rr=>
  cases rr;obtain⟨t,rfl⟩:=r;exact call_range_1 (zJd I1 (by lia) (by lia) q1 q2 (by simpa using q) hcl)
theorem zPr{a b:Expr}{ta:TA}{p pos:Pos}(hg:Gl X "range")(hm:X.mg "range" =none)(ha:PA X [a,b] ta)(hs:starEach [a,b] X.env= [(false,eval a X.env),(false,eval b X.env)]:=by rfl)(hs2:starEach [b] X.env= [(false,eval b X.env)]:=by rfl)(hcl:X.calm=true:=by rfl):
  PI X tg (.Call (.Name "range" p) [a,b] [] pos) (zYo ta):=by
 intro pins s σ H R I h;refine Call_ (gW I hg hm boot_range (tM (thn (ha pos pins s σ H _ I h) fun us s1 ⟨vs,H1,I1,r1,q1⟩=>?_) (by rw[hs,hs2]) (by rw[hs2];rfl)));obtain⟨i,j,e,⟨q1,q2,q3,q4⟩,q⟩:=q1;subst e
 cases r1 with
 | cons r rr=>
  cases rr with
  | cons r' rr=>
   cases rr;obtain⟨t,rfl⟩:=r;obtain⟨t',rfl⟩:=r';exact call_range_2 (zJd I1 q1 q2 q3 q4 q hcl)
def tFor(wi:TI)(g:TG)(tb:TS):TS:=fun D σ H=>wi σ H fun J H1=>∃W:Nat→Nat→St→Hp→Prop,(∃m,W 0 m σ H1)∧∀i m σ H,W i m σ H→
 (J.stop i H∧D.nx σ H)∨(J.go i H∧∃N:St→Hp→Prop,(∀σ' H',N σ' H'→∃m',m'<m∧W (i+1) m' σ' H')∧∀x H',J.yld i H x H'→g x σ H' fun σ2 H2=>tb {D with nx:=N,ct:=N,bk:=D.nx} σ2 H2)
def zCg(fp:List Addr)(h:Heap):List (Addr×Obj):=fp.filterMap fun b=>(h.get? b).map fun o=>(b,o)
theorem jQ{fp:List Addr}{h:Heap}{b:Addr}{o:Obj}(hb:b∈fp)(e:h.get? b=some o):(b,o)∈zCg fp h:=List.mem_filterMap.mpr ⟨b,hb,by rw[e];rfl⟩
theorem zOl{fp:List Addr}{h:Heap}{p:Addr×Obj}(hp:p∈zCg fp h):p.1∈fp∧h.get? p.1=some p.2:=by
 obtain⟨b,hb,e⟩:=List.mem_filterMap.mp hp
 cases q:h.get? b with
 | none=>rw[q] at e;cases e
 | some o=>
  rw[q] at e;have e':(b,o)=p:=mV e;subst e';exact⟨hb,q⟩
theorem Inv.pinned{pins:List (Addr×Obj)}{σ:St}{H:Hp}{s:Shared}{fp:List Addr}(I:Inv X pins σ H s)(hf:∀b∈fp,zBx X pins H b)(ho:∀b∈fp,∃o,s.heap.get? b=some o∧∀v,o.data≠ .cell v):Inv X (pins++zCg fp s.heap) σ H s:=
 I.pins_of fun p hp=>(nD.mp hp).elim (fun z=>I.pin p (nP _ z)) fun z=>by
  obtain⟨hb,e⟩:=zOl z;obtain⟨f0,f1,f2,_⟩:=hf p.1 hb;obtain⟨o,e',d⟩:=ho p.1 hb;rw[e] at e';cases e';exact⟨e,f0,f1,f2,d⟩
theorem Inv.unpinned{pins pl:List (Addr×Obj)}{σ:St}{H:Hp}{s:Shared}(I:Inv X (pins++pl) σ H s):Inv X pins σ H s:=I.pins_of fun p hp=>I.pin p (nP _ (pT _ hp))
theorem qD{iter:Expr}{body:List Stmt}{wi:TI}{g:TG}{tb:TS}{pos:Pos}(hp:PassesOwn (model X.prog X.w) X.A X.env X.xe)(hc:X.cool=true)(hi:PI X tg iter wi)(hg:PG X tg g)(hb:PSs X body tb)
  (hs:∀x,foldedSetIterable iter X.env x=pure x:=by intro _;rfl):PS X (.For tg iter body [] pos) (tFor wi g tb):=by
 intro pins s σ H D I h;refine wpAny_For (thn (hi pins s σ H _ I h) fun v s1 h1=>thn h1 fun itv s2 h2=>?_) hs;obtain⟨it,fp,tn,J,H2,e,I2,⟨fl,hfl,T⟩,st2,f2,W,⟨m0,w0⟩,turn⟩:=h2;subst e
 -- what stays true of the iterator's objects through the loop
 have stat:∀{H':Hp},(∀b∈fp,H' b=none)→∀b∈fp,zBx X pins H' b:=fun hn b hb=>⟨hn b hb,(f2 b hb).2⟩;refine codeAny_forLoop_any (fun n s'=>∃i σ' H',Inv X pins σ' H' s'∧tn i s'.heap∧(∀b∈fp,H' b=none)∧W i n σ' H') ?_ m0 ⟨0,σ,H2,I2,st2,fun b hb=>(f2 b hb).1,w0⟩;rintro n s3 ⟨i,σ3,H3,I3,st3,fr3,w3⟩;rcases turn i n σ3 H3 w3 with⟨stop,qn⟩|⟨go,N,hN,step⟩
 ·refine tR hp (thn (T.done X rfl rfl rfl hfl i pins s3 σ3 H3 X.xe I3 (stat fr3) st3 stop) fun r s4 ⟨hr,I4⟩=>?_)
  subst hr;exact tQ ⟨σ3,H3,I4,qn⟩
 ·refine tR hp (thn (T.item X rfl rfl rfl hfl i pins s3 σ3 H3 X.xe I3 (stat fr3) st3 go) fun r s4 ⟨u,hr,h4⟩=>?_)
  subst hr;refine tR hp (thn h4 fun _ s5 ⟨x,H5,I5,r5,y5,st5,fr5⟩=>?_);have I5':=I5.pinned (stat fr5) (T.obj _ _ st5);refine tR hp (thn (hg _ s5 σ3 H5 x u _ I5' r5 (step x H5 y5)) fun _ s6 ⟨σ6,H6,I6,q6⟩=>?_);refine tR hp (thn (hb _ s6 σ6 H6 _ I6 q6) fun f s7 q7=>?_);have again:∀{σ7:St}{H7:Hp},Inv X (pins++zCg fp s5.heap) σ7 H7 s7→N σ7 H7→∃m,m<n∧∃i σ' H',Inv X pins σ' H' s7∧tn i s7.heap∧(∀b∈fp,H' b=none)∧W i m σ' H':=fun {σ7 H7} I7 n7=>by
   obtain⟨m',hm,w7⟩:=hN σ7 H7 n7;refine⟨m',hm,i+1,σ7,H7,I7.unpinned,T.keep _ _ _ st5 fun b hb o e=>(I7.pin (b,o) (nP _ (nP _ (jQ hb e)))).1,fun b hb=>?_,w7⟩;obtain⟨o,e,d⟩:=T.obj _ _ st5 b hb;exact(I7.pin (b,o) (nP _ (nP _ (jQ hb e)))).2.1
  cases f with
  | next=>obtain⟨σ7,H7,I7,n7⟩:=q7;exact again I7 n7
  | cont=>obtain⟨σ7,H7,I7,n7⟩:=q7;exact again I7 n7
  | brk=>obtain⟨σ7,H7,I7,q7⟩:=q7;exact⟨σ7,H7,I7.unpinned,q7⟩
  | ret v=>obtain⟨x7,σ7,H7,I7,r7,q7⟩:=q7;exact⟨x7,σ7,H7,I7.unpinned,r7,q7⟩
end
theorem zVn{K:PySem.W.Frag}{a:Addr}{xs:List V}{g:TG}{tb:TS}{D:gR}{σ:St}{H:Hp}(Pv:Nat→St→Hp→Prop)(h0:Pv 0 σ H)(hl:∀i σ H,i≤xs.length→Pv i σ H→SqL K H a xs)
  (hs:∀i x σ H,xs[i]? =some x→Pv i σ H→g x σ H fun σ2 H2=>tb {D with nx:=Pv (i+1),ct:=Pv (i+1),bk:=D.nx} σ2 H2) (hd:∀σ H,Pv xs.length σ H→D.nx σ H):
  ∃W:Nat→Nat→St→Hp→Prop,(∃m,W 0 m σ H)∧∀i m σ H,W i m σ H→
   ((Itl K a).stop i H∧D.nx σ H)∨((Itl K a).go i H∧∃N:St→Hp→Prop,(∀σ' H',N σ' H'→∃m',m'<m∧W (i+1) m' σ' H')∧∀x H',(Itl K a).yld i H x H'→g x σ H' fun σ2 H2=>tb {D with nx:=N,ct:=N,bk:=D.nx} σ2 H2):=by
 refine⟨fun i m σ H=>m=xs.length - i∧i≤xs.length∧Pv i σ H,⟨xs.length,by simp,pB _,h0⟩, ?_⟩;rintro i m σ H ⟨rfl,hi,p⟩;have q:=hl i σ H hi p
 by_cases hlt:i<xs.length
 ·refine .inr ⟨⟨xs,xs[i],q,by simp[hlt]⟩,Pv (i+1),fun σ' H' p'=>⟨xs.length - (i+1),by lia,rfl,hlt,p'⟩,fun x H' y=>?_⟩
  obtain⟨e,y⟩:=y;subst e;exact hs i x σ _ (y xs q) p
 ·have e:i=xs.length:=by lia
  subst e;exact .inl ⟨⟨xs,q,mD _⟩,hd σ H p⟩
theorem zPu{lo:Int}{n:Nat}{g:TG}{tb:TS}{D:gR}{σ:St}{H:Hp}(Pv:Nat→St→Hp→Prop)(h0:Pv 0 σ H)
  (hs:∀i σ H,i<n→Pv i σ H→g (.int (lo+i)) σ H fun σ2 H2=>tb {D with nx:=Pv (i+1),ct:=Pv (i+1),bk:=D.nx} σ2 H2) (hd:∀σ H,Pv n σ H→D.nx σ H):
  ∃W:Nat→Nat→St→Hp→Prop,(∃m,W 0 m σ H)∧∀i m σ H,W i m σ H→
   ((Itr lo n).stop i H∧D.nx σ H)∨((Itr lo n).go i H∧∃N:St→Hp→Prop,(∀σ' H',N σ' H'→∃m',m'<m∧W (i+1) m' σ' H')∧∀x H',(Itr lo n).yld i H x H'→g x σ H' fun σ2 H2=>tb {D with nx:=N,ct:=N,bk:=D.nx} σ2 H2):=by
 refine⟨fun i m σ H=>m=n - i∧i≤n∧Pv i σ H,⟨n,by simp,pB _,h0⟩, ?_⟩;rintro i m σ H ⟨rfl,hi,p⟩
 by_cases hlt:i<n
 ·refine .inr ⟨hlt,Pv (i+1),fun σ' H' p'=>⟨n - (i+1),by lia,rfl,hlt,p'⟩,fun x H' y=>?_⟩
  obtain⟨e,y⟩:=y;subst e y;exact hs i σ _ hlt p
 ·have e:i=n:=by lia
  subst e;exact .inl ⟨mD _,hd σ H p⟩
abbrev R2:=V→V→Hp→VK→Prop
def OpR(X:Cx)(f:Value→Value→Sem Value)(r:R2):Prop:=
 ∀(pins:List (Addr×Obj))(s:Shared)(σ:St)(H:Hp)(x y:V)(v u:Value)(Q:VK),Inv X pins σ H s→RelV x v→RelV y u→r x y H Q→
  wpAny (model X.prog X.w) X.A (f v u) (EP X pins σ Q) X.xe s
def UnR(X:Cx)(f:Value→Sem Value)(r:V→Hp→VK→Prop):Prop:=
 ∀(pins:List (Addr×Obj))(s:Shared)(σ:St)(H:Hp)(x:V)(v:Value)(Q:VK),Inv X pins σ H s→RelV x v→r x H Q→
  wpAny (model X.prog X.w) X.A (f v) (EP X pins σ Q) X.xe s
def xS(X:Cx)(f:Value)(r:List V→Hp→VK→Prop):Prop:=
 ∀(pins:List (Addr×Obj))(s:Shared)(σ:St)(H:Hp)(xs:List V)(us:List Value)(Q:VK),Inv X pins σ H s→Vals xs us→r xs H Q→
  wpAny (model X.prog X.w) X.A (call f us) (EP X pins σ Q) X.xe s
def TruR(X:Cx)(r:V→Hp→(Bool→Hp→Prop)→Prop):Prop:=
 ∀(pins:List (Addr×Obj))(s:Shared)(σ:St)(H:Hp)(x:V)(v:Value)(Q:Bool→Hp→Prop),Inv X pins σ H s→RelV x v→r x H Q→
  wpAny (model X.prog X.w) X.A (truthy v) (TP X pins σ Q) X.xe s
def tOp(r:R2)(ta tb:TE):TE:=fun σ H Q=>ta σ H fun x H1=>tb σ H1 fun y H2=>r x y H2 Q
def tUn(r:V→Hp→VK→Prop)(ta:TE):TE:=fun σ H Q=>ta σ H fun x H1=>r x H1 Q
def rI(C:Int→Int→Prop)(g:Int→Int→V):R2:=fun x y H Q=>∃i j,x= .int i∧y= .int j∧C i j∧Q (g i j) H
def rI0(g:Int→Int→V):R2:=fun x y H Q=>∃i j,x= .int i∧y= .int j∧Q (g i j) H
def rU(g:Int→V):V→Hp→VK→Prop:=fun x H Q=>∃i,x= .int i∧Q (g i) H
section
variable{X:Cx}{a b c:Expr}{ta tb tc:TE}{pos:Pos}
theorem yBv(ha:PE X a ta)(hb:PE X b tb){pins:List (Addr×Obj)}{s:Shared}{σ:St}{H:Hp}{R:V→V→Hp→Prop}(I:Inv X pins σ H s)
  (h:ta σ H fun x H1=>tb σ H1 fun y H2=>R x y H2) {Q:Value→Shared→Prop} {f:Value→Value→Sem Value}
  (hf:∀v u s2 x y H2,Inv X pins σ H2 s2→RelV x v→RelV y u→R x y H2→wpAny (model X.prog X.w) X.A (f v u) Q X.xe s2):
  wpAny (model X.prog X.w) X.A (eval a X.env) (fun v s₁=>wpAny (model X.prog X.w) X.A (eval b X.env) (fun u s₂=>wpAny (model X.prog X.w) X.A (f v u) Q X.xe s₂) X.xe s₁) X.xe s:=by
 refine thn (ha pins s σ H _ I h) fun v s1 ⟨x,H1,I1,r1,q1⟩=>?_;refine thn (hb pins s1 σ H1 _ I1 q1) fun u s2 ⟨y,H2,I2,r2,q2⟩=>?_;exact hf v u s2 x y H2 I2 r1 r2 q2
theorem zK{op:Operator}{r:R2}(ho:OpR X (binaryOp op) r)(ha:PE X a ta)(hb:PE X b tb):PE X (.BinOp a op b pos) (tOp r ta tb):=by
 intro pins s σ H Q I h;exact wpAny_BinOp (yBv ha hb I h fun v u s2 x y H2 I2 rx ry q=>ho pins s2 σ H2 x y v u Q I2 rx ry q)
theorem wT{op:UnaryOp}{r:V→Hp→VK→Prop}(ho:UnR X (unaryOp op) r)(ha:PE X a ta):PE X (.UnaryOp op a pos) (tUn r ta):=by
 intro pins s σ H Q I h;exact UnaryOp_ (thn (ha pins s σ H _ I h) fun v s1 ⟨x,H1,I1,r1,q1⟩=>ho pins s1 σ H1 x v Q I1 r1 q1)
theorem opI{f:Value→Value→Sem Value}{C:Int→Int→Prop}{g:Int→Int→Int}
  (rule:∀(i j:Int)(t u:Tok)(s:Shared)(Q:Value→Shared→Prop)(E:Value→Shared→Prop),C i j→Q (.int (g i j) s.toks) {s with toks:=s.toks+1}→wpAny (model X.prog X.w) X.A (f (.int i t) (.int j u)) Q E s):
  OpR X f (rI C fun i j=>.int (g i j)):=by
 intro pins s σ H x y v u Q I rx ry h;obtain⟨i,j,rfl,rfl,hc,q⟩:=h;obtain⟨t,rfl⟩:=rx;obtain⟨t',rfl⟩:=ry;exact rule i j t t' s _ _ hc ⟨.int (g i j),H,I.tok _,⟨_,rfl⟩,q⟩
theorem opI0{f:Value→Value→Sem Value}{g:Int→Int→Int}
  (rule:∀(i j:Int)(t u:Tok)(s:Shared)(Q:Value→Shared→Prop)(E:Value→Shared→Prop),Q (.int (g i j) s.toks) {s with toks:=s.toks+1}→wpAny (model X.prog X.w) X.A (f (.int i t) (.int j u)) Q E s):
  OpR X f (rI0 fun i j=>.int (g i j)):=by
 intro pins s σ H x y v u Q I rx ry h;obtain⟨i,j,rfl,rfl,q⟩:=h;obtain⟨t,rfl⟩:=rx;obtain⟨t',rfl⟩:=ry;exact rule i j t t' s _ _ ⟨.int (g i j),H,I.tok _,⟨_,rfl⟩,q⟩
theorem yCo{f:Value→Value→Sem Value}{g:Int→Int→Bool}
  (rule:∀(i j:Int)(t u:Tok)(s:Shared)(Q:Value→Shared→Prop)(E:Value→Shared→Prop),Q (.bool (g i j)) s→wpAny (model X.prog X.w) X.A (f (.int i t) (.int j u)) Q E s):
  OpR X f (rI0 fun i j=>.bl (g i j)):=by
 intro pins s σ H x y v u Q I rx ry h;obtain⟨i,j,rfl,rfl,q⟩:=h;obtain⟨t,rfl⟩:=rx;obtain⟨t',rfl⟩:=ry;exact rule i j t t' s _ _ ⟨.bl (g i j),H,I,rfl,q⟩
def yAa(i j:Int):Prop:=0<j∧j<1073741824
def yCe(i j:Int):Prop:=0≤j∧j≤1000000∧i.natAbs<2 ^ 64
def CMul(i j:Int):Prop:=(-(2 ^ 64)<i∧i<2 ^ 64)∨(-(2 ^ 64)<j∧j<2 ^ 64)
theorem CMul.ok{i j:Int}(h:CMul i j):IntMulOk i j:=by
 rcases h with⟨h1,h2⟩|⟨h1,h2⟩
 ·exact .of_left (intBits_le_64 h1 h2)
 ·exact .of_right (intBits_le_64 h1 h2)
theorem yP:OpR X (binaryOp .Add) (rI0 fun i j=>.int (i+j)):=opI0 fun _ _ _ _ _ _ _ q=>add_int q
theorem vC:OpR X (binaryOp .Sub) (rI0 fun i j=>.int (i - j)):=opI0 fun _ _ _ _ _ _ _ q=>sub_int q
theorem vV:OpR X (binaryOp .Mult) (rI CMul fun i j=>.int (i*j)):=opI fun _ _ _ _ _ _ _ hc q=>mul_int q hc.ok
theorem yA:OpR X (binaryOp .FloorDiv) (rI yAa fun i j=>.int (i / j)):=opI fun i j _ _ _ _ _ hc q=>by
 have h1:(0:Int)<j:=hc.1;have h2:j<1073741824:=hc.2;exact floordiv_int (by lia) (by rw[Int.fdiv_eq_ediv_of_nonneg i (by lia)];exact q) (.inl (PyProof.noPylong_small (by lia)))
theorem yC:OpR X (binaryOp .Mod) (rI (fun _ j=>0<j) fun i j=>.int (i % j)):=opI fun i j _ _ _ _ _ hc q=>by
 have h1:(0:Int)<j:=hc;exact mod_int' (by lia) (by rw[Int.fmod_eq_emod_of_nonneg i (by lia)];exact q)
theorem kS:OpR X (binaryOp .Pow) (rI yCe fun i j=>.int (i ^ j.toNat)):=opI fun _ _ _ _ _ _ _ hc q=>pow_int_small hc.1 hc.2.1 hc.2.2 q
theorem unI{f:Value→Sem Value}{g:Int→Int}
  (rule:∀(i:Int)(t:Tok)(s:Shared)(Q:Value→Shared→Prop)(E:Value→Shared→Prop),Q (.int (g i) s.toks) {s with toks:=s.toks+1}→wpAny (model X.prog X.w) X.A (f (.int i t)) Q E s):
  UnR X f (rU fun i=>.int (g i)):=by
 intro pins s σ H x v Q I rx h;obtain⟨i,rfl,q⟩:=h;obtain⟨t,rfl⟩:=rx;exact rule i t s _ _ ⟨.int (g i),H,I.tok _,⟨_,rfl⟩,q⟩
theorem xW:UnR X (unaryOp .USub) (rU fun i=>.int (-i)):=unI fun _ _ _ _ _ q=>neg_int q
def zWx:V→V→Bool
 | .non, .non=>true | .non, .int _=>true | .int _, .non=>true | .non, .bl _=>true | .bl _, .non=>true | .non, .str _=>true | .str _, .non=>true
 | .int _, .int _=>true | .bl _, .bl _=>true | .str _, .str _=>true | .byt _, .byt _=>true
 | .int _, .str _=>true | .str _, .int _=>true | .bl _, .str _=>true | .str _, .bl _=>true
 | _,_=>false
def rEq:R2:=fun x y H Q=>zWx x y=true∧Q (.bl (decide (x=y))) H
def rNe:R2:=fun x y H Q=>zWx x y=true∧Q (.bl (!decide (x=y))) H
theorem zNk{i j:Int}:decide (V.int i=V.int j)=(i==j):=by
 rw[rD];simp
theorem zUt{i j:Bool}:decide (V.bl i=V.bl j)=(i==j):=by
 rw[rD];simp
theorem zNm{i j:Str}:decide (V.str i=V.str j)=(i==j):=by
 rw[rD];simp
theorem zMs{i j:Array UInt8}:decide (V.byt i=V.byt j)=(i.toList==j.toList):=by
 rw[rD];cases i;cases j;simp
theorem yS{pins:List (Addr×Obj)}{σ:St}{H:Hp}{s:Shared}{Q:VK}{k k':Bool}(I:Inv X pins σ H s)(q:Q (.bl k) H)(e:k=k'):EP X pins σ Q (.bool k') s:=by
 subst e;exact⟨.bl k,H,I,rfl,q⟩
theorem xM:OpR X (compareOp .Eq) rEq:=by
 intro pins s σ H x y v u Q I rx ry h;obtain⟨hs,q⟩:=h
 cases x with
 | non=>
  cases rx
  cases y with
  | non=>cases ry;exact PySem.EqNone.eq_none_none (yS I q (by simp))
  | bl j=>cases ry;exact PySem.EqNone.eq_none_bool (yS I q (by simp))
  | int j=>obtain⟨t',rfl⟩:=ry;exact PySem.EqNone.eq_none_int (yS I q (by simp))
  | str j=>obtain⟨t',rfl⟩:=ry;exact PySem.EqNone.eq_none_str (yS I q (by simp))
  | _=>exact absurd (show false=true from hs) mW
 | bl i=>
  cases rx
  cases y with
  | non=>cases ry;exact PySem.EqNone.eq_bool_none (yS I q (by simp))
  | bl j=>cases ry;exact eq_bool (yS I q zUt)
  | str j=>obtain⟨t',rfl⟩:=ry;exact PySem.EqMixed.eq_bool_str (yS I q (by simp))
  | _=>exact absurd (show false=true from hs) mW
 | int i=>
  obtain⟨t,rfl⟩:=rx
  cases y with
  | non=>cases ry;exact PySem.EqNone.eq_int_none (yS I q (by simp))
  | int j=>obtain⟨t',rfl⟩:=ry;exact eq_int (yS I q zNk)
  | str j=>obtain⟨t',rfl⟩:=ry;exact PySem.EqMixed.eq_int_str (yS I q (by simp))
  | _=>exact absurd (show false=true from hs) mW
 | str i=>
  obtain⟨t,rfl⟩:=rx
  cases y with
  | non=>cases ry;exact PySem.EqNone.eq_str_none (yS I q (by simp))
  | bl j=>cases ry;exact PySem.EqMixed.eq_str_bool (yS I q (by simp))
  | int j=>obtain⟨t',rfl⟩:=ry;exact PySem.EqMixed.eq_str_int (yS I q (by simp))
  | str j=>obtain⟨t',rfl⟩:=ry;exact eq_str (yS I q zNm)
  | _=>exact absurd (show false=true from hs) mW
 | byt i=>
  obtain⟨t,rfl⟩:=rx
  cases y with
  | byt j=>obtain⟨t',rfl⟩:=ry;exact W.eq_bytes (yS I q zMs)
  | _=>exact absurd (show false=true from hs) mW
 | _=>cases y<;>exact absurd (show false=true from hs) mW
theorem zEk:OpR X (compareOp .NotEq) rNe:=by
 intro pins s σ H x y v u Q I rx ry h;obtain⟨hs,q⟩:=h
 cases x with
 | non=>
  cases rx
  cases y with
  | non=>cases ry;exact PySem.EqNone.ne_none_none (yS I q (by simp))
  | bl j=>cases ry;exact PySem.EqNone.ne_none_bool (yS I q (by simp))
  | int j=>obtain⟨t',rfl⟩:=ry;exact PySem.EqNone.ne_none_int (yS I q (by simp))
  | str j=>obtain⟨t',rfl⟩:=ry;exact PySem.EqNone.ne_none_str (yS I q (by simp))
  | _=>exact absurd (show false=true from hs) mW
 | bl i=>
  cases rx
  cases y with
  | non=>cases ry;exact PySem.EqNone.ne_bool_none (yS I q (by simp))
  | bl j=>cases ry;exact ne_bool (yS I q (congrArg not zUt))
  | str j=>obtain⟨t',rfl⟩:=ry;exact PySem.EqMixed.ne_bool_str (yS I q (by simp))
  | _=>exact absurd (show false=true from hs) mW
 | int i=>
  obtain⟨t,rfl⟩:=rx
  cases y with
  | non=>cases ry;exact PySem.EqNone.ne_int_none (yS I q (by simp))
  | int j=>obtain⟨t',rfl⟩:=ry;exact ne_int (yS I q (congrArg not zNk))
  | str j=>obtain⟨t',rfl⟩:=ry;exact PySem.EqMixed.ne_int_str (yS I q (by simp))
  | _=>exact absurd (show false=true from hs) mW
 | str i=>
  obtain⟨t,rfl⟩:=rx
  cases y with
  | non=>cases ry;exact PySem.EqNone.ne_str_none (yS I q (by simp))
  | bl j=>cases ry;exact PySem.EqMixed.ne_str_bool (yS I q (by simp))
  | int j=>obtain⟨t',rfl⟩:=ry;exact PySem.EqMixed.ne_str_int (yS I q (by simp))
  | str j=>obtain⟨t',rfl⟩:=ry;exact ne_str (yS I q (congrArg not zNm))
  | _=>exact absurd (show false=true from hs) mW
 | byt i=>
  obtain⟨t,rfl⟩:=rx
  cases y with
  | byt j=>obtain⟨t',rfl⟩:=ry;exact W.ne_bytes (yS I q (congrArg not zMs))
  | _=>exact absurd (show false=true from hs) mW
 | _=>cases y<;>exact absurd (show false=true from hs) mW
theorem zBb:OpR X (compareOp .Lt) (rI0 fun i j=>.bl (decide (i<j))):=yCo fun _ _ _ _ _ _ _ q=>lt_int q
theorem vN:OpR X (compareOp .LtE) (rI0 fun i j=>.bl (decide (i≤j))):=yCo fun _ _ _ _ _ _ _ q=>le_int q
theorem jW:OpR X (compareOp .Gt) (rI0 fun i j=>.bl (decide (j<i))):=yCo fun _ _ _ _ _ _ _ q=>gt_int q
theorem zOu:OpR X (compareOp .In) (fun x y H Q=>∃i j,x= .str i∧y= .str j∧Q (.bl (!(Builtin.Str.occurrences j i 0 j.length 1).isEmpty)) H):=by
 intro pins s σ H x y v u Q I rx ry h;obtain⟨i,j,rfl,rfl,q⟩:=h;obtain⟨t,rfl⟩:=rx;obtain⟨t',rfl⟩:=ry;exact in_str (yS I q rfl)
theorem zQ(b:Expr){op:CmpOp}(h:op≠ .In:=by decide)(h2:op≠ .NotIn:=by decide):behindInMarks op b=false:=by
 have e1:(op==CmpOp.In)=false:=by cases op<;>first | rfl | exact absurd rfl h
 have e2:(op==CmpOp.NotIn)=false:=by cases op<;>first | rfl | exact absurd rfl h2
 cases b<;>simp[behindInMarks,e1,e2]
theorem yG{op:CmpOp}{r:R2}(ho:OpR X (compareOp op) r)(ha:PE X a ta)(hb:PE X b tb)(hm:behindInMarks op b=false):PE X (.Compare a [op] [b] pos) (tOp r ta tb):=by
 intro pins s σ H Q I h;exact wpAny_Compare1 (yBv ha hb I h fun v u s2 x y H2 I2 rx ry q=>ho pins s2 σ H2 x y v u Q I2 rx ry q) hm
def zNj(t:TE):TT:=fun σ H Q=>t σ H fun x H'=>∃k,x= .bl k∧Q k H'
theorem zU{op:CmpOp}{r:R2}(ho:OpR X (compareOp op) r)(ha:PE X a ta)(hb:PE X b tb)(hm:behindInMarks op b=false):PT X (.Compare a [op] [b] pos) (zNj (tOp r ta tb)):=by
 intro pins s σ H Q I h;refine cL (thn (ha pins s σ H _ I h) fun v s1 ⟨x,H1,I1,r1,q1⟩=>thn (hb pins s1 σ H1 _ I1 q1) fun u s2 ⟨y,H2,I2,r2,q2⟩=>
  thn (ho pins s2 σ H2 x y v u _ I2 r1 r2 q2) fun c s3 ⟨z,H3,I3,r3,k,e,q3⟩=>?_) hm
 subst e;cases r3;exact pG ⟨H3,I3,q3⟩
def zGe(r r':R2)(ta tb tc:TE):TE:=fun σ H Q=>ta σ H fun x H1=>tb σ H1 fun y H2=>r x y H2 fun z H3=>∃k,z= .bl k∧
 (if k=true then tc σ H3 fun w' H4=>r' y w' H4 Q else Q (.bl false) H3)
theorem zJq{op op':CmpOp}{r r':R2}(ho:OpR X (compareOp op) r)(ho':OpR X (compareOp op') r')(ha:PE X a ta)(hb:PE X b tb)(hc:PE X c tc)
  (hm:lastMarks [op,op'] [b,c]=false:=by with_unfolding_all rfl):PE X (.Compare a [op,op'] [b,c] pos) (zGe r r' ta tb tc):=by
 intro pins s σ H Q I h;refine Compare_chain (thn (ha pins s σ H _ I h) fun v s1 ⟨x,H1,I1,r1,q1⟩=>chain_link (thn (hb pins s1 σ H1 _ I1 q1) fun u s2 ⟨y,H2,I2,r2,q2⟩=>
  thn (ho pins s2 σ H2 x y v u _ I2 r1 r2 q2) fun d s3 ⟨z,H3,I3,r3,k,e,q3⟩=>?_)) hm
 subst e;cases r3;refine pG ?_
 cases k with
 | false=>exact ite_ff ⟨.bl false,H3,I3,rfl,q3⟩
 | true=>exact ite_tt (chain_last (thn (hc pins s3 σ H3 _ I3 q3) fun w' s4 ⟨z',H4,I4,r4,q4⟩=>ho' pins s4 σ H4 y z' u w' Q I4 r2 r4 q4))
theorem zIg{op op':CmpOp}{r r':R2}(ho:OpR X (compareOp op) r)(ho':OpR X (compareOp op') r')(ha:PE X a ta)(hb:PE X b tb)(hc:PE X c tc)
  (hm:lastMarks [op,op'] [b,c]=false:=by with_unfolding_all rfl):PT X (.Compare a [op,op'] [b,c] pos) (zNj (zGe r r' ta tb tc)):=by
 intro pins s σ H Q I h;refine isTrue_chain (thn (ha pins s σ H _ I h) fun v s1 ⟨x,H1,I1,r1,q1⟩=>test_link (thn (hb pins s1 σ H1 _ I1 q1) fun u s2 ⟨y,H2,I2,r2,q2⟩=>
  thn (ho pins s2 σ H2 x y v u _ I2 r1 r2 q2) fun d s3 ⟨z,H3,I3,r3,k,e,q3⟩=>?_)) hm
 subst e;cases r3;refine pG ?_
 cases k with
 | false=>
  obtain⟨k',e',q'⟩:=q3;cases e';exact ite_ff ⟨H3,I3,q'⟩
 | true=>
  refine ite_tt (test_last (thn (hc pins s3 σ H3 _ I3 q3) fun w' s4 ⟨z',H4,I4,r4,q4⟩=>thn (ho' pins s4 σ H4 y z' u w' _ I4 r2 r4 q4) fun d' s5 ⟨z2,H5,I5,r5,k2,e2,q5⟩=>?_));subst e2;cases r5;exact pG ⟨H5,I5,q5⟩
def TruV(K:W.Frag)(x:V)(H:Hp)(k:Bool):Prop:=
 match x with
 | .non=>k=false
 | .bl b=>k=b
 | .int i=>k=(i !=0)
 | .str y=>y.length≤sizeLine∧k=((y.length:Int) !=0)
 | .byt y=>y.size≤sizeLine∧k=((y.size:Int) !=0)
 | .ref p=>(∃xs,SqL K H p xs∧k= !xs.isEmpty)∨(∃xs,SqT K H p xs∧k= !xs.isEmpty)∨∃kvs,H p=some (.dK kvs)∧k= !kvs.isEmpty
 | _=>False
theorem zLu{κ:Type}{kvs:List (κ×V)}{vs:List (κ×Value)}(r:KV kvs vs):(!vs.isEmpty)= !kvs.isEmpty:=by
 cases r<;>rfl
theorem zCy{xs:List V}{its:List Value}(r:Vals xs its):(!its.toArray.isEmpty)= !xs.isEmpty:=by
 cases r<;>simp
theorem zAq:(sizeLine:Nat)<2 ^ 63:=by rw[mU];decide
theorem yCp:TruR X (fun x H Q=>∃k,TruV X.K x H k∧Q k H):=by
 intro pins s σ H x v Q I rx h;obtain⟨k,e,q⟩:=h;have hl:=zAq;have hs:sizeLine=16777216:=mU
 cases x with
 | non=>
  cases rx;have e':k=false:=e;subst e';exact truthy_none ⟨H,I,q⟩
 | bl b=>
  cases rx;have e':k=b:=e;subst e';exact pG ⟨H,I,q⟩
 | int i=>
  obtain⟨t,rfl⟩:=rx;have e':k=(i !=0):=e;subst e';exact PySem.P.truthy_int ⟨H,I,q⟩
 | str y=>
  obtain⟨t,rfl⟩:=rx;obtain⟨hy,e'⟩:y.length≤sizeLine∧k=((y.length:Int) !=0):=e;subst e';exact PySem.P.truthy_str (by lia) ⟨H,I.tok _,q⟩
 | byt y=>
  obtain⟨t,rfl⟩:=rx;obtain⟨hy,e'⟩:y.size≤sizeLine∧k=((y.size:Int) !=0):=e;subst e';exact W.truthy_bytes (by lia) ⟨H,I.tok _,q⟩
 | ref p=>
  cases rx;have e':(∃xs,SqL X.K H p xs∧k= !xs.isEmpty)∨(∃xs,SqT X.K H p xs∧k= !xs.isEmpty)∨∃kvs,H p=some (.dK kvs)∧k= !kvs.isEmpty:=e;rcases e' with⟨xs,hx,e'⟩|⟨xs,hx,e'⟩|⟨kvs,hx,e'⟩
  ·subst e'
   obtain⟨its,r,pl,hz⟩:=I.list hx;have hlen:=r.length;exact wpAny_truthy_list pl.isList (by simp only[nG];lia) ⟨H,I.tok _,by rw[zCy r];exact q⟩
  ·subst e'
   obtain⟨its,r,pl,hz⟩:=I.tuple hx;have hlen:=r.length;exact truthy_tuple pl (by simp only[nG];lia) ⟨H,I.tok _,by rw[zCy r];exact q⟩
  ·subst e'
   obtain⟨hz,hS,vs,r,m⟩:kvs.length≤sizeLine∧(p==sysModules)=false∧∃vs,KV kvs vs∧s.heap.DictOf (yL X.prog X.w) p vs:=I.hok p _ hx;have hlen:kvs.length=vs.length:=Paired.length r;exact wpAny_truthy_dict hS m (by lia) ⟨H,I.tok _,by rw[zLu r];exact q⟩
 | _=>exact(show False from e).elim
theorem zCo(ha:PE X a ta)(he:∀whole,isTrue a X.env whole=(do let v ←whole;standAt a.pos;holding [v] (truthy v))):
  PT X a (fun σ H Q=>ta σ H fun x H'=>∃k,TruV X.K x H' k∧Q k H'):=by
 intro pins s σ H Q I h;exact isTrue_plain (thn (ha pins s σ H _ I h) fun v s1 ⟨x,H1,I1,r1,q1⟩=>yCp pins s1 σ H1 x v Q I1 r1 q1) (he _)
theorem xI:OpR X (binaryOp .Add) (fun x y H Q=>∃i j,x= .str i∧y= .str j∧i.length+j.length≤sizeLine∧Q (.str (i++j)) H):=by
 intro pins s σ H x y v u Q I rx ry h;obtain⟨i,j,rfl,rfl,hz,q⟩:=h;obtain⟨t,rfl⟩:=rx;obtain⟨t',rfl⟩:=ry;exact add_str (fun t' tk=>⟨.str (i++j),H,I.tok _,⟨_,rfl⟩,q⟩) hz
theorem wR{x:V}{us:List Value}(r:Vals [x] us):∃u,us= [u]∧RelV x u:=by
 cases r with
 | cons r1 r2=>cases r2;exact⟨_,rfl,r1⟩
theorem zDc{x y:V}{us:List Value}(r:Vals [x,y] us):∃u w',us= [u,w']∧RelV x u∧RelV y w':=by
 cases r with
 | cons r1 r2=>
  cases r2 with
  | cons r3 r4=>cases r4;exact⟨_,_,rfl,r1,r3⟩
theorem zSe:xS X (.builtin "abs") (fun xs H Q=>∃i,xs= [.int i]∧Q (.int (if i<0 then -i else i)) H):=by
 intro pins s σ H xs us Q I r h;obtain⟨i,rfl,q⟩:=h;obtain⟨u,rfl,t,rfl⟩:=wR r;exact call_abs_int fun u tk=>⟨.int (if i<0 then -i else i),H,I.tok _,⟨_,rfl⟩,q⟩
theorem zOq:xS X (.type "int") (fun xs H Q=>(∃i,xs= [.int i]∧Q (.int i) H)∨∃k,xs= [.bl k]∧Q (.int (if k then 1 else 0)) H):=by
 intro pins s σ H xs us Q I r h;rcases h with⟨i,rfl,q⟩|⟨k,rfl,q⟩
 ·obtain⟨u,rfl,t,rfl⟩:=wR r
  exact call_int_int ⟨.int i,H,I,⟨_,rfl⟩,q⟩
 ·obtain⟨u,rfl,r1⟩:=wR r
  cases r1;exact call_int_bool ⟨.int (if k then 1 else 0),H,I.tok _,⟨_,rfl⟩,q⟩
theorem jJ:xS X (.type "str") (fun xs H Q=>∃i,xs= [.int i]∧i.natAbs.log2<1920∧Q (.str (toString i)) H):=by
 intro pins s σ H xs us Q I r h;obtain⟨i,rfl,hz,q⟩:=h;obtain⟨u,rfl,t,rfl⟩:=wR r;exact PySem.P.str_of_int hz ⟨.str _,H,I.tok _,⟨_,rfl⟩,q⟩
theorem zRi:xS X (.builtin "ord") (fun xs H Q=>∃x,xs= [.str x]∧x.length=1∧Q (.int (x.cps.getD 0 0:Nat)) H):=by
 intro pins s σ H xs us Q I r h;obtain⟨x,rfl,hz,q⟩:=h;obtain⟨u,rfl,t,rfl⟩:=wR r;exact ord_of_one hz ⟨.int _,H,I.tok _,⟨_,rfl⟩,q⟩
end
structure ObjM(h:Heap)(x dx C:Addr)(mA:Str→Option Value):Prop where
 obj:h.get? x=some (W.instObj C dx)
 ns:h.Ns1 dx mA
 ne:dx≠x
theorem zQk{h:Heap}{dx:Addr}{mA:Str→Option Value}(n:h.Ns1 dx mA):∃od,h.get? dx=some od∧∀name,W.lookIn name od=some (mA name):=by
 obtain⟨o,es,ep,ho,hd,hk,_,hm⟩:=n;refine⟨o,ho,fun name=>?_⟩;have e:=hm name;unfold nsFind findBy at e;rw[←Array.find?_toList] at e;unfold W.lookIn;rw[hd];dsimp only;split
 ·rename_i y q
  rw[q] at e;exact congrArg some e
 ·rename_i q
  rw[q] at e;have a:es.toList.any (·.refKey)=false:=by
   rw[List.any_eq_false];intro y hy;obtain⟨z,t,hkey⟩:=hk y (Array.mem_toList_iff.mp hy);simp[DictEntry.refKey,hkey]
  have a':¬es.toList.any (·.refKey)=true:=by rw[a];exact mW
  rw[mI a'];exact congrArg some e
theorem ObjM.look{h:Heap}{x dx C:Addr}{mA:Str→Option Value}(I:ObjM h x dx C mA):∃od,W.InstAt h x (W.instObj C dx) C (some od)∧∀name,W.lookIn name od=some (mA name):=
 let ⟨od,ho,hl⟩:=zQk I.ns
 ⟨od,⟨I.obj,rfl,rfl,ho⟩,hl⟩
section
variable{prog:Program}{w:World}{A:Around}{E:Value→Shared→Prop}{s:Shared}{K:W.Frag}{x dx C f:Addr}{mA:Str→Option Value}{name:Str}{v:Value}
end
theorem RelO.some_of{v:V}{o:Option Value}(r:RelO (some v) o):∃u,o=some u∧RelV v u:=by
 cases o with
 | none=>exact(show False from r).elim
 | some u=>exact⟨u,rfl,r⟩
section
variable{P:Program}{w:World}{H H':Hp}{h h':Heap}{a C dx:Addr}{fs fs':List (Str×V)}
theorem zYg(hok:HOk P w H h)(e:H a=some (.ins C dx fs)):∃mA,ObjM h a dx C mA∧(∀f,RelO (fs.lookup f) (mA f))∧PySem.Within mA (fs.map (·.1))∧fs.length≤1000∧H dx=some (.own a):=by
 obtain⟨d,z,ne,ob,mA,n,r,q⟩:=(show ObjOk P w H h a (.ins C dx fs) from hok a _ e);exact⟨mA,⟨ob,n,ne⟩,r,q,z,d⟩
end
structure Cls(K:W.Frag)(C:Addr):Prop where
 pg:W.plainGet K C Str.empty=true
 hd:W.hasDictIn K C=true
 po:W.plainOver K C=true
 sa:W.findIn K (.ref C) "__setattr__" =some (some (.builtin "object.__setattr__"))
theorem Cls.get{K:W.Frag}{C:Addr}(c:Cls K C)(f:Str):W.plainGet K C f=true:=c.pg
structure Con(K:W.Frag)(C:Addr)(f:Str)(v:V)(u:Value):Prop where
 at_:W.findIn K (.ref C) f=some (some u)
 rel:RelV v u
 get:W.specialIn K u "__get__" =some none
 cp:W.copiedNames.contains f=false
structure Meth(K:W.Frag)(C:Addr)(m:Str)(f:Addr):Prop where
 at_:W.findIn K (.ref C) m=some (some (.ref f))
 fn:W.isFn K (.ref f)=true
 kp:W.keepIn K (.ref f)=true
section
variable{X:Cx}{pins:List (Addr×Obj)}{σ:St}{H:Hp}{s:Shared}{a C dx:Addr}{fs:List (Str×V)}{f:Str}{v:V}{A:Around}{E:Value→Shared→Prop}
end
section
variable{X:Cx}{o e value:Expr}{f:Str}{pos pos' tpos:Pos}{ta tv:TE}
end
section
variable{X:Cx}{pins:List (Addr×Obj)}{σ:St}{H:Hp}{s:Shared}{A:Around}{E:Value→Shared→Prop}{Q:Value→Shared→Prop}{c:Value}{b:Bool}
inductive zAg (K:W.Frag) (H:Hp):V→Value→Prop where
 | non:zAg K H .non (.type "NoneType")
 | bl (x:Bool):zAg K H (.bl x) (.type "bool")
 | int (i:Int):zAg K H (.int i) (.type "int")
 | str (x:Str):zAg K H (.str x) (.type "str")
 | flt (x:UInt64):zAg K H (.flt x) (.type "float")
 | lst {a:Addr} {xs:List V} (e:H a=some (.lst xs)):zAg K H (.ref a) (.type "list")
 | frz {a:Addr} {o:Obj} {xs:List V} (e:H a=some (.frz o (.lst xs))):zAg K H (.ref a) (.type "list")
 | tup {a:Addr} {xs:List V} (e:H a=some (.tup xs)):zAg K H (.ref a) (.type "tuple")
 | dK {a:Addr} {kvs:List (Key×V)} (e:H a=some (.dK kvs)):zAg K H (.ref a) (.type "dict")
 | dT {a:Addr} {kvs:List (List Key×V)} (e:H a=some (.dT kvs)):zAg K H (.ref a) (.type "dict")
 | ins {a C dx:Addr} {fs:List (Str×V)} (e:H a=some (.ins C dx fs)) (cl:Cls K C) (ha:W.findIn K (.ref C) "__class__" =some (some (.builtin "object.__class__")))
   (hn:W.specialIn K (.builtin "object.__class__") "__get__" =some (some (.builtin "getset_descriptor.__get__"))) (htk:W.takesIn K (.builtin "object.__class__")=some true)
   (hm:W.mroIn K C (.type "object")=some true):zAg K H (.ref a) (.ref C)
theorem zPv{x:V}{u t:Value}(I:Inv X pins σ H s)(rx:RelV x u)(ty:zAg X.K H x t)(e:W.kitOne X.K t c=some b)(h:∀tk,Q (.bool b) {s with toks:=tk}):
  wpAny (model X.prog X.w) A (call (.builtin "isinstance") [u,c]) Q E s:=by
 cases ty with
 | non=>cases (show u=Value.none from rx);exact tO W.kitx_none I.kIn mN e (fun z=>nomatch z) h
 | bl y=>cases (show u=Value.bool y from rx);exact tO W.kitx_bool I.kIn mN e (fun z=>nomatch z) h
 | int i=>obtain⟨t,q⟩:=(show∃t,u=Value.int i t from rx);cases q;exact tO W.kitx_int I.kIn mN e (fun z=>nomatch z) h
 | str y=>obtain⟨t,q⟩:=(show∃t,u=Value.str y t from rx);cases q;exact tO W.kitx_str I.kIn mN e (fun z=>nomatch z) h
 | flt y=>obtain⟨t,q⟩:=(show∃t,u=Value.float y t from rx);cases q;exact tO W.kitx_float I.kIn mN e (fun z=>nomatch z) h
 | @lst a xs ea=>
  cases (show u=Value.ref a from rx);obtain⟨_,_,n,_,h1⟩:=(show ObjOk X.prog X.w H s.heap a (.lst xs) from I.hok a _ ea);exact tO eR I.kIn ⟨_,h1,rfl⟩ e (fun z=>nomatch z) h
 | @frz a ob xs ea=>
  cases (show u=Value.ref a from rx);obtain⟨_,_,_,n,_,h1⟩:=(show ObjOk X.prog X.w H s.heap a (.frz ob (.lst xs)) from I.hok a _ ea);exact tO eR I.kIn ⟨_,h1,rfl⟩ e (fun z=>nomatch z) h
 | @tup a xs ea=>
  cases (show u=Value.ref a from rx);obtain⟨_,_,_,p⟩:=(show ObjOk X.prog X.w H s.heap a (.tup xs) from I.hok a _ ea);obtain⟨o,h1,h2,_⟩:=p;exact tO W.kitx_tuple I.kIn ⟨o,h1,h2⟩ e (fun z=>nomatch z) h
 | @dK a kvs ea=>
  cases (show u=Value.ref a from rx);obtain⟨_,_,vs,_,p⟩:=(show ObjOk X.prog X.w H s.heap a (.dK kvs) from I.hok a _ ea);obtain⟨o,es,ep,h1,h2,_⟩:=p;exact tO dO I.kIn ⟨o,h1,h2.1⟩ e (fun z=>nomatch z) h
 | @dT a kvs ea=>
  cases (show u=Value.ref a from rx);obtain⟨_,_,xs,_,o,es,ep,h1,h2,_⟩:=(show ObjOk X.prog X.w H s.heap a (.dT kvs) from I.hok a _ ea);exact tO dO I.kIn ⟨o,h1,h2.1⟩ e (fun z=>nomatch z) h
 | @ins a C dx fs ea cl ha hn htk hm=>
  cases (show u=Value.ref a from rx);obtain⟨mA,O,_⟩:=zYg I.hok ea;obtain⟨od,J,_⟩:=O.look;exact tO (W.kitx_own (cl.get _) cl.hd ha hn htk hm) I.kIn J e (fun z=>nomatch z) h
end
structure Room(k:Nat)(A:Around):Prop where
 hd:A.handled=none
 dp:A.depth+3*k+5<recursionLimit
 un:A.units+16*k+200<cLine
theorem Room.mono{j k:Nat}{A:Around}(r:Room k A)(h:j≤k):Room j A:=⟨r.hd,by have:=r.dp;lia,by have:=r.un;lia⟩
theorem Room.deeper{k:Nat}{A:Around}(r:Room (k+1) A)(env:Env):Room k (A.deeper env):=
 ⟨r.hd,by have:=r.dp;show A.depth+1+3*k+5<_;lia,by have:=r.un;show A.units+3+16*k+200<_;lia⟩
theorem zLc{A:Around}{C:Addr}{us:List Value}{kw:List (Str×Value)}:(A.under (.builtin "type.__call__" ⟨.ref C::us,kw⟩)).depth=A.depth+1:=by
 first | rfl | simp[Around.under,Code.weight,Code.isCreation,Code.isGuard,Code.isCaller,Code.frames,Code.isFrame,guardIds]
theorem zLw{A:Around}{C:Addr}{us:List Value}{kw:List (Str×Value)}:(A.under (.builtin "type.__call__" ⟨.ref C::us,kw⟩)).units=A.units+1:=by
 first | rfl | simp[Around.under,Code.cUnits,Code.frames,Code.isFrame]
theorem Room.make{k:Nat}{A:Around}(r:Room (k+1) A)(C:Addr)(us:List Value)(kw:List (Str×Value)):Room k (A.under (.builtin "type.__call__" ⟨.ref C::us,kw⟩)):=
 ⟨r.hd,by have:=r.dp;rw[zLc];lia,by have:=r.un;rw[zLw];lia⟩
theorem Room.depth{k:Nat}{A:Around}(r:Room k A):A.depth<recursionLimit:=by have:=r.dp;lia
theorem Room.units{k:Nat}{A:Around}(r:Room k A):A.units+64<cLine:=by have:=r.un;lia
theorem Room.units0{k:Nat}{A:Around}(r:Room k A):A.units<cLine:=by have:=r.un;lia
def zHx:TA:=fun _ H Q=>Q [] H
def zAy(ta:TE)(tr:TA):TA:=fun σ H Q=>ta σ H fun x H1=>tr σ H1 fun xs H2=>Q (x::xs) H2
section
variable{X:Cx}{e:Expr}{es:List Expr}{te:TE}{t:TA}{pos:Pos}
theorem zB:PA X [] zHx:=fun _ _ _ _ H Q I h=>eA ⟨[],H,I, .nil,h⟩
theorem zA(ha:PE X e te)(hr:PA X es t)(hs:starEach (e::es) X.env=(false,eval e X.env)::starEach es X.env:=by rfl):PA X (e::es) (zAy te t):=by
 intro pos pins s σ H Q I h;rw[hs];show wpAny _ _ (spliced ((false,eval e X.env)::backTo pos (starEach es X.env))) _ _ s;refine bP (thn (ha pins s σ H _ I h) fun u s1 ⟨x,H1,I1,r1,q1⟩=>?_);exact thn (hr pos pins s1 σ H1 _ I1 q1) fun us s2 ⟨xs,H2,I2,r2,q2⟩=>⟨x::xs,H2,I2, .cons r1 r2,q2⟩
def yCq(t:TA):TE:=fun σ H Q=>t σ H fun xs H1=>xs.length≤sizeLine∧∀p,H1 p=none→Q (.ref p) (upd H1 p (.tup xs))
def zZj(t:TA):TE:=fun σ H Q=>t σ H fun xs H1=>xs.length≤sizeLine∧∀p,H1 p=none→Q (.ref p) (upd H1 p (.lst xs))
theorem gT{x1}(h:PA X es t):PE X (.Tuple es x1 pos) (yCq t):=by
 intro pins s σ H Q I hq;refine wpAny_Tuple_spliced (thn (h pos pins s σ H _ I hq) fun us s1 ⟨xs,H1,I1,r,z,q⟩=>⟨by rw[←r.length];exact z, ?_⟩);have hf:H1 s1.heap.objs.size=none:=I1.hok.fresh (mD _);refine⟨.ref s1.heap.objs.size,upd H1 s1.heap.objs.size (.tup xs),I1.laid (t':=s1.toks) (fun b u e=>mE _ e) (mD _) ?_,rfl,q _ hf⟩;exact⟨z,us,r,⟨_,mX _ rfl,rfl,_,rfl⟩⟩
theorem yT(h:PA X es t):PE X (.List es pos) (zZj t):=by
 intro pins s σ H Q I hq;refine wpAny_List_spliced (thn (h pos pins s σ H _ I hq) fun us s1 ⟨xs,H1,I1,r,z,q⟩=>⟨by rw[←r.length];exact z, ?_⟩);have hf:H1 s1.heap.objs.size=none:=I1.hok.fresh (mD _);refine⟨.ref s1.heap.objs.size,upd H1 s1.heap.objs.size (.lst xs),I1.laid (t':=s1.toks) (fun b u e=>mE _ e) (mD _) ?_,rfl,q _ hf⟩;exact⟨z,us,0,r,mX _ rfl⟩
end
abbrev Sp:=List V→Hp→VK→XK→Prop
abbrev CXT:=List Env→Hp→Shared→XK→Value→Shared→Prop
structure Env0(P:Program)(w:World)(K:W.Frag)(mg:Str→Option Value)(base:Heap)(A:Around)(outer:List Env)(s:Shared)(H:Hp):Prop where
 frames:A.frames=some outer
 mod:Mod K mg base
 bs:∀b o,base.get? b=some o→s.heap.get? b=some o∧H b=none
 bsz:base.objs.size≤s.heap.objs.size
 funs:s.heap.FunFrames base outer
 frf:∀b∈frs outer,H b=none
 hok:HOk P w H s.heap
 bare:AllBare s.gens
def CE(outer:List Env)(P:Program)(w:World)(H:Hp)(s:Shared)(Q:VK)(u:Value)(s':Shared):Prop:=
 ∃v H',s'.os=s.os∧AllBare s'.gens∧Un (frs outer) [] H H' s.heap s'.heap∧HOk P w H' s'.heap∧RelV v u∧Q v H'
def CR(CX:CXT)(outer:List Env)(P:Program)(w:World)(H:Hp)(s:Shared)(Q:VK)(E:XK)(r:Result)(s':Shared):Prop:=
 match r with
 | .ok (.ret u)=>CE outer P w H s Q u s'
 | .ok _=>False
 | .error e=>CX outer H s E e s'
structure FnOk(P:Program)(w:World)(K:W.Frag)(mg:Str→Option Value)(base:Heap)(CX:CXT)(k:Nat)(f:Addr)(fd:FuncData)(ps:List Str)(sp:Sp):Prop where
 len:∀vs H Q E,sp vs H Q E→vs.length=ps.length
 run:∀(A:Around)(outer:List Env)(s:Shared)(H:Hp)(args:Args)(us:List Value)(vs:List V)(Q:VK)(E:XK),Room k A→Env0 P w K mg base A outer s H→BindsTo s fd args (ps.zip us)→Vals vs us→sp vs H Q E→
  codeAny (model P w) A (.call (.ref f) args) (CR CX outer P w H s Q E) s
theorem FnOk.mono{P:Program}{w:World}{K:W.Frag}{mg:Str→Option Value}{base:Heap}{CX:CXT}{j k:Nat}{f:Addr}{fd:FuncData}{ps:List Str}{sp:Sp}(F:FnOk P w K mg base CX j f fd ps sp)(h:j≤k):
  FnOk P w K mg base CX k f fd ps sp:=⟨F.len,fun A outer s H args us vs Q E hr=>F.run A outer s H args us vs Q E (hr.mono h)⟩
theorem FnOk.imp{P:Program}{w:World}{K:W.Frag}{mg:Str→Option Value}{base:Heap}{CX:CXT}{k:Nat}{f:Addr}{fd:FuncData}{ps:List Str}{sp sp':Sp}(F:FnOk P w K mg base CX k f fd ps sp)
  (h:∀vs H Q E,sp' vs H Q E→sp vs H Q E):FnOk P w K mg base CX k f fd ps sp':=
 ⟨fun vs H Q E q=>F.len vs H Q E (h _ _ _ _ q),fun A outer s H args us vs Q E hr he hb hv hs=>F.run A outer s H args us vs Q E hr he hb hv (h _ _ _ _ hs)⟩
theorem Env0.make{P:Program}{w:World}{K:W.Frag}{mg:Str→Option Value}{base:Heap}{A:Around}{outer:List Env}{s:Shared}{H:Hp}(e:Env0 P w K mg base A outer s H)(C:Addr)(us:List Value)(kw:List (Str×Value)):
  Env0 P w K mg base (A.under (.builtin "type.__call__" ⟨.ref C::us,kw⟩)) outer s H:=⟨by first | exact e.frames |(simpa [Around.under,Code.envs,Code.isFrame,pushEnvs] using e.frames),e.mod,e.bs,e.bsz,e.funs,e.frf,e.hok,e.bare⟩
section
variable{X:Cx}{pins:List (Addr×Obj)}{σ:St}{H:Hp}{s s':Shared}
theorem Inv.env0(I:Inv X pins σ H s):Env0 X.prog X.w X.K X.mg X.base X.A X.stack s H:=
 ⟨I.ok.frames,I.ok.mod,I.bs,nN I.ok.bsz I.sz,I.stack,I.stkFree,I.hok,I.bare⟩
theorem Inv.after{Q:VK}{u:Value}(I:Inv X pins σ H s)(h:CE X.stack X.prog X.w H s Q u s'):EP X pins σ Q u s':=by
 obtain⟨v,H',os,bare,un,hok,r,q⟩:=h;obtain⟨hh,g,d,t,os'⟩:=s';obtain rfl:os'=s.os:=os;exact⟨v,H',I.call (h':=hh) (g':=g) (d':=d) (t':=t) (ch:=[]) un hok bare (fun b z=>absurd z (by simp)),r,q⟩
end
def qV(sp:Sp)(dvs:List V)(E:XK)(t:TA):TE:=fun σ H Q=>t σ H fun vs H1=>sp (vs++dvs) H1 Q E
def Binds(K:W.Frag)(fd:FuncData)(ps:List Str)(ds:List Value):Prop:=
 ∀(s:Shared)(us:List Value),K.In s.heap→(us++ds).length=ps.length→BindsTo s fd ⟨us,[]⟩ (ps.zip (us++ds))
theorem Binds.all{K:W.Frag}{fd:FuncData}{ps:List Str}(h:∀us:List Value,us.length=ps.length→bindArgs fd ⟨us,[]⟩=pure (ps.zip us)):Binds K fd ps []:=fun s us _ hl=>by
 rw[pY] at hl⊢;exact .of_eq (h us hl)
def zAs(CX:CXT)(X:Cx)(E:XK):Prop:=∀(pins:List (Addr×Obj))(σ:St)(H:Hp)(s:Shared)(e:Value)(s':Shared),Inv X pins σ H s→CX X.stack H s E e s'→X.xe e s'
section
variable{X:Cx}{CX:CXT}{k:Nat}{f C:Addr}{fd:FuncData}{ps:List Str}{sp:Sp}{dvs:List V}{ds:List Value}{E:XK}{x m:Str}{p pos apos:Pos}{e o:Expr}{es:List Expr}{ta:TE}{t:TA}
theorem zUh{pins:List (Addr×Obj)}{σ:St}{H:Hp}{s:Shared}{Q:VK}{us:List Value}{vs:List V}(F:FnOk X.prog X.w X.K X.mg X.base CX k f fd ps sp)(hr:Room k X.A)(hb:Binds X.K fd ps ds)(hd:Vals dvs ds)(hx:zAs CX X E)
  (I:Inv X pins σ H s) (r:Vals vs us) (h:sp (vs++dvs) H Q E):wpAny (model X.prog X.w) X.A (call (.ref f) us) (EP X pins σ Q) X.xe s:=by
 have r2:Vals (vs++dvs) (us++ds):=r.append hd;have hl:(us++ds).length=ps.length:=by rw[←r2.length];exact F.len _ _ _ _ h
 refine bF (sH (F.run X.A X.stack s H ⟨us,[]⟩ (us++ds) (vs++dvs) Q E hr I.env0 (hb s us I.kIn hl) r2 h) fun r s' hq=>?_)
 cases r with
 | error e=>exact hx pins σ H s e s' I hq
 | ok fl=>
  cases fl with
  | ret u=>exact I.after hq
  | next=>exact False.elim hq
  | brk=>exact False.elim hq
  | cont=>exact False.elim hq
theorem zGk(F:FnOk X.prog X.w X.K X.mg X.base CX k f fd ps sp)(hr:Room k X.A)(hg:Gl X x)(hm:X.mg x=some (.ref f))(hk:W.keepIn X.K (.ref f)=true)(hb:Binds X.K fd ps ds)(hd:Vals dvs ds)(hx:zAs CX X E)
  (ha:PA X (e::es) t) (hdb:(x==("__debug__" :Str))=false:=by decide) (he:starEach (e::es) X.env=(false,eval e X.env)::starEach es X.env:=by rfl) (hpl:(backTo pos (starEach es X.env)).any (·.1)=false:=by rfl):
  PE X (.Call (.Name x p) (e::es) [] pos) (qV sp dvs E t):=by
 intro pins s σ H Q I h;refine rE (vT I hg hm ?_ hdb);refine W.callWith_K (h₀:=X.base) I.ok.mod.kin hk (thn (ha pos pins s σ H _ I h) fun us s1 ⟨vs,H1,I1,r,q⟩=>⟨I1.kIn, ?_⟩) he hpl;exact zUh F hr hb hd hx I1 r q
theorem zRo(F:FnOk X.prog X.w X.K X.mg X.base CX k f fd ps sp)(hr:Room k X.A)(hg:Gl X x)(hm:X.mg x=some (.ref f))(hk:W.keepIn X.K (.ref f)=true)(hb:Binds X.K fd ps ds)(hd:Vals dvs ds)(hx:zAs CX X E)
  (hdb:(x==("__debug__" :Str))=false:=by decide):PE X (.Call (.Name x p) [] [] pos) (qV sp dvs E zHx):=by
 intro pins s σ H Q I h;refine rE (vT I hg hm ?_ hdb);exact W.callWith_K0 I.kIn hk (zUh (us:=[]) F hr hb hd hx I .nil h)
structure Mk(K:W.Frag)(C f:Addr):Prop where
 makes:W.makesIn K C=true
 init:W.findIn K (.ref C) "__init__" =some (some (.ref f))
 fn:W.isFn K (.ref f)=true
 kp:W.keepIn K (.ref C)=true
end
section
variable{X:Cx}{CX:CXT}{k:Nat}{f C:Addr}{fd:FuncData}{ps ks:List Str}{sp:Sp}{E:XK}{x m:Str}{p pos apos kpos:Pos}{e o:Expr}{es:List Expr}{kws:List Keyword}{te ta:TE}{t tk:TA}{nm:Option Str}
structure KBinds(K:W.Frag)(fd:FuncData)(ps ks:List Str)(g:List Value→List Value→List Value)(gV:List V→List V→List V):Prop where
 to:∀(s:Shared)(us ws:List Value),K.In s.heap→(g us ws).length=ps.length→BindsTo s fd ⟨us,ks.zip ws⟩ (ps.zip (g us ws))
 rel:∀{vs:List V}{us:List Value}{zs:List V}{ws:List Value},Vals vs us→Vals zs ws→Vals (gV vs zs) (g us ws)
variable{g:List Value→List Value→List Value}{gV:List V→List V→List V}
end
structure zP(N P:List Str)(sc:Scope):Prop where
 kind:sc.kind= .function
 co:sc.isCoroutine=false
 gen:sc.isGenerator=false
 nd:N.Nodup
 pre:N.take P.length=P
 par:∀x∈P,sc.names.lookup x=some .local∨sc.names.lookup x=some .cell
 nofree:∀y∈sc.names,y.2≠ .free
theorem zFh{kindOf:Str→Option NameKind}{x:Str}:∀{binds:List (Str×Value)}{m:Str→Option Value},(∀v,(x,v)∉binds)→bindL kindOf binds m x=m x
 | [],_,_=>rfl
 |(n,v)::r,m,h=>by
  unfold bindL;rw[zFh fun w hw=>h w (mH _ hw)];split
  ·have:x≠n:=by rintro rfl;exact h v mF
   simp[this]
  ·rfl
theorem zFc{kindOf:Str→Option NameKind}{x:Str}:∀{binds:List (Str×Value)}{m:Str→Option Value},(∀v,(x,v)∉binds)→bindC kindOf binds m x=m x
 | [],_,_=>rfl
 |(n,v)::r,m,h=>by
  unfold bindC;rw[zFc fun w hw=>h w (mH _ hw)];split
  ·rfl
  ·have:x≠n:=by rintro rfl;exact h v mF
   simp[this]
theorem zFo{kindOf:Str→Option NameKind}{x:Str}{v:Value}:∀{P:List Str}{vs:List Value}{i:Nat}{m:Str→Option Value},P.Nodup→P[i]? =some x→vs[i]? =some v→kindOf x=some .local→
  bindL kindOf (P.zip vs) m x=some v
 | [],_,_,_,_,h,_,_=>by simp at h
 | _::_,[],_,_,_,_,h,_=>by simp at h
 | p::P,w::vs,0,m,nd,h1,h2,hk=>by
  simp at h1 h2;subst h1;subst h2;show bindL kindOf ((p,w)::P.zip vs) m p=_;unfold bindL;rw[zFh fun v hv=>(nW.mp nd).1 (cU hv).1,mK hk];simp
 | p::P,w::vs,i+1,m,nd,h1,h2,hk=>by
  show bindL kindOf ((p,w)::P.zip vs) m x=_;unfold bindL;exact zFo (i:=i) (nW.mp nd).2 (by simpa using h1) (by simpa using h2) hk
theorem zFl{kindOf:Str→Option NameKind}{x:Str}{v:Value}:∀{P:List Str}{vs:List Value}{i:Nat}{m:Str→Option Value},P.Nodup→P[i]? =some x→vs[i]? =some v→kindOf x≠some .local→
  bindC kindOf (P.zip vs) m x=some v
 | [],_,_,_,_,h,_,_=>by simp at h
 | _::_,[],_,_,_,_,h,_=>by simp at h
 | p::P,w::vs,0,m,nd,h1,h2,hk=>by
  simp at h1 h2;subst h1;subst h2;show bindC kindOf ((p,w)::P.zip vs) m p=_;unfold bindC;rw[zFc fun v hv=>(nW.mp nd).1 (cU hv).1,mI hk];simp
 | p::P,w::vs,i+1,m,nd,h1,h2,hk=>by
  show bindC kindOf ((p,w)::P.zip vs) m x=_;unfold bindC;exact zFl (i:=i) (nW.mp nd).2 (by simpa using h1) (by simpa using h2) hk
def qH(N:List Str)(vs:List V):St:=vs.map some++List.replicate (N.length - vs.length) none
def zBg(CX:CXT)(P:Program)(w:World)(K:W.Frag)(mg:Str→Option Value)(base:Heap)(N:List Str)(qual:Str)(scope:Scope)(f:Addr)(cd:Value)(A:Around)(outer:List Env)(s:Shared)(H:Hp)(E:XK):Cx where
 prog:=P
 w:=w
 K:=K
 mg:=mg
 base:=base
 A:=A.deeper (envOfC qual scope s.heap.objs.size f cd)
 N:=N
 s₀:=s
 H₀:=H
 env:=envOfC qual scope s.heap.objs.size f cd
 outer:=outer
 stack:=envOfC qual scope s.heap.objs.size f cd::outer
 ex:=[]
 calm:=true
 cool:=true
 fn:=fun _=>true
 pn:=[]
 xe:=fun e s'=>wpAny (model P w) (A.deeper (envOfC qual scope s.heap.objs.size f cd)) (leaving (envOfC qual scope s.heap.objs.size f cd) e) (fun _ s''=>CX outer H s E e s'') (fun e' s''=>CX outer H s E e' s'') s'
theorem zIx{sc:Scope}{n:Nat}{x:Str}(h:sc.names.lookup x=some .cell):∃c,(cellsFrom n sc.names []).lookup x=some c:=by
 have q:=W.cellsFrom_some sc.names n [] (.inl h);exact Option.isSome_iff_exists.mp q
theorem zEt{CX:CXT}{P:Program}{w:World}{K:W.Frag}{mg:Str→Option Value}{base:Heap}{N ps:List Str}{qual:Str}{scope:Scope}{f:Addr}{cd:Value}{A:Around}{outer:List Env}{s s1:Shared}{H:Hp}{E:XK}{us:List Value}{vs:List V}
  (S:zP N ps scope) (hd:A.handled=none) (e0:Env0 P w K mg base A outer s H) (hl:vs.length=ps.length) (r:Vals vs us)
  (x:InCallC s s.heap.objs.size (bindL (envOfC qual scope s.heap.objs.size f cd).kindOf (ps.zip us) fun _=>none) (cellsFrom (s.heap.objs.size+1) scope.names []) (bindC (envOfC qual scope s.heap.objs.size f cd).kindOf (ps.zip us) fun _=>none) s1):
  Inv (zBg CX P w K mg base N qual scope f cd A outer s H E) [] (qH N vs) H s1:=by
 have hpl:ps.length≤N.length:=by have:=congrArg List.length S.pre;rw[nU] at this;lia
 obtain⟨h1,tk,rfl,hk⟩:=x.done;have noA:∀b:Addr,b∉(zBg CX P w K mg base N qual scope f cd A outer s H E).ex:=fun b z=>absurd (show b∈([]:List Addr) from z) (by simp);refine⟨⟨e0.mod,S.kind,rfl,rfl,mD _,fun y z c h1 h2=>?_,fun y hy=>?_,fun y c _ h=>?_,⟨fun _=>hd,fun _=>HnAt.none hd⟩,Around.frames_deeper e0.frames, .inr ⟨rfl,rfl⟩,fun b z=>absurd z (noA b),e0.bs,e0.bsz,fun b _ _=>noA b,fun b z=>absurd z (noA b),e0.funs,e0.frf⟩,
  rfl,e0.bare,Un.kept hk,⟨_,x.toInCall.ns,fun i y v h1 h2 h3=>?_⟩,fun y c h=>⟨_,x.cell y c h⟩,e0.hok.fresh (mD _),fun y c h=>?_,fun p hp=>absurd (show p∈([]:List (Addr×Obj)) from hp) (by simp),e0.hok.kept hk, ?_⟩
 ·exact name_of_addr x.apart (rK h1) (rK h2)
 ·have hy:scope.names.lookup y=some .cell∨scope.names.lookup y=some .free:=hy
  rcases hy with hy | hy
  ·exact zIx hy
  ·exact absurd rfl (S.nofree _ (rK hy))
 ·exact cR (x.above y c (rK h))
 ·have hi:i<vs.length:=by
   unfold qH at h2
   by_cases hi:i<vs.length
   ·exact hi
   ·rw[nY (by simpa using hi)] at h2
    rw[List.getElem?_replicate] at h2;split at h2<;>cases h2
  have ha:vs[i]? =some v:=by
   unfold qH at h2;rw[pU (by simpa using hi),nI] at h2
   cases e:vs[i]? with
   | none=>rw[e] at h2;cases h2
   | some a=>rw[e] at h2;cases h2;rfl
  obtain⟨u,hu,rv⟩:=r.get ha;have hp:ps[i]? =some y:=by
   rw[←S.pre,List.getElem?_take_of_lt (by lia)];exact h1
  have ndP:ps.Nodup:=by rw[←S.pre];exact S.nd.sublist (List.take_sublist _ _)
  refine⟨u,rv, ?_⟩;rcases S.par y (mQ hp) with k | k
  ·exact .inl ⟨k,zFo ndP hp hu k⟩
  ·obtain⟨c,e⟩:=zIx (n:=s.heap.objs.size+1) k
   refine .inr ⟨.inl k,c,e, ?_⟩;have q:=x.cell y c e;rw[zFl ndP hp hu (by show scope.names.lookup y≠_;rw[k];decide)] at q;exact q
 ·exact e0.hok.fresh (cR (x.above y c (rK h)))
 ·unfold qH
  show _=N.length;rw[mL,mJ,sA]
  lia
theorem zMx{CX:CXT}{P:Program}{w:World}{K:W.Frag}{mg:Str→Option Value}{base:Heap}{k:Nat}{f:Addr}{name qual:Str}{params:Arguments}{body:List Stmt}{scope:Scope}{dV kV doc pm cdv ct oc:Value}{an od:Option Addr}
  {osl:Array (Option Value)} {N ps:List Str} {sp:Sp} (lk:K.lookup f=some ⟨oc,od, .func (W.fnOf name qual params body scope dV kV doc pm an cdv ct),osl⟩) (hcd:W.codeIn K cdv qual=true) (S:zP N ps scope)
  (len:∀vs H Q E,sp vs H Q E→vs.length=ps.length)
  (hbody:∀(A:Around)(outer:List Env)(s:Shared)(H:Hp)(vs:List V)(Q:VK)(E:XK),Room k (A.deeper (envOfC qual scope s.heap.objs.size f cdv))→sp vs H Q E→
   ∃t,PSs (zBg CX P w K mg base N qual scope f cdv A outer s H E) body t∧t {nx:=fun _ H'=>Q .non H',rt:=Q} (qH N vs) H):
  FnOk P w K mg base CX (k+1) f (W.fnOf name qual params body scope dV kV doc pm an cdv ct) ps sp:=by
 refine⟨len,fun A outer s H args us vs Q E hr e0 hb r hsp=>?_⟩;have hl:=len _ _ _ _ hsp;have KX:K.In s.heap:=e0.mod.kin.keeps fun b o e=>(e0.bs b o e).1;have lim:s.heap.NoLimit:=e0.mod.nolimit.keeps fun b o e=>(e0.bs b o e).1;have hkind:∀y∈ps.zip us,scope.names.lookup y.1=some .local∨(scope.names.lookup y.1=some .cell∧((cellsFrom (s.heap.objs.size+1) scope.names []).lookup y.1).isSome=true):=fun⟨n,v⟩ hy=>by
  rcases S.par n (cU hy).1 with q | q
  ·exact .inl q
  ·exact .inr ⟨q,W.cellsFrom_some _ _ _ (.inl q)⟩
 refine codeAny_call_function hr.depth (KX _ _ lk) rfl S.co S.gen rfl (W.codeRec_of KX hcd) (hb _ _ _ _ ?_);refine wpAny_newFunctionEnv_cells S.kind hkind fun env he s1 x=>?_;subst he;refine⟨lim.keeps x.toInCall.keep,codeAny_func ?_⟩;obtain⟨t,ht,hq⟩:=hbody A outer s H vs Q E (hr.deeper _) hsp;have I:Inv (zBg CX P w K mg base N qual scope f cdv A outer s H E) [] (qH N vs) H s1:=zEt S hr.hd e0 hl r x;refine rF (ht [] s1 (qH N vs) H _ I hq) (fun fl s' hs=>?_) fun e s' hs=>hs;have fin:∀{σ':St}{H':Hp}{v:V}{u:Value},Inv (zBg CX P w K mg base N qual scope f cdv A outer s H E) [] σ' H' s'→RelV v u→Q v H'→CE outer P w H s Q u s':=
  fun {σ' H' v u} J rv q=>⟨v,H',J.os,J.bare,J.base,J.hok,rv,q⟩
 cases fl with
 | ret u=>
  obtain⟨v,σ',H',J,rv,q⟩:=hs;exact fin J rv q
 | next=>
  obtain⟨σ',H',J,q⟩:=hs;exact fin (v:=V.non) (u:=Value.none) J rfl q
 | brk=>
  obtain⟨_,_,_,q⟩:=hs;exact False.elim q
 | cont=>
  obtain⟨_,_,_,q⟩:=hs;exact False.elim q
section
variable{X:Cx}{x:Str}{p pos:Pos}{e:Expr}{es:List Expr}{t:TA}{id T:String}{r:List V→Hp→VK→Prop}
def tCB(r:List V→Hp→VK→Prop)(t:TA):TE:=fun σ H Q=>t σ H fun vs H1=>r vs H1 Q
theorem zM(hc:xS X (.builtin id) r)(hg:Gl X x)(hm:X.mg x=none)(hv:bootBuiltins x=some (.builtin id))(ha:PA X (e::es) t)(hn:x≠ "__name__":=by decide)(hdb:(x==("__debug__" :Str))=false:=by decide)
  (he:starEach (e::es) X.env=(false,eval e X.env)::starEach es X.env:=by rfl) (hpl:(backTo pos (starEach es X.env)).any (·.1)=false:=by rfl):PE X (.Call (.Name x p) (e::es) [] pos) (tCB r t):=by
 intro pins s σ H Q I h;refine rE (gW I hg hm hv ?_ hn hdb);exact cV (thn (ha pos pins s σ H _ I h) fun us s1 ⟨vs,H1,I1,r1,q1⟩=>hc pins s1 σ H1 vs us Q I1 r1 q1) he hpl
theorem yU(hc:xS X (.type T) r)(hg:Gl X x)(hm:X.mg x=none)(hv:bootBuiltins x=some (.type T))(ha:PA X (e::es) t)(hn:x≠ "__name__":=by decide)(hdb:(x==("__debug__" :Str))=false:=by decide)
  (he:starEach (e::es) X.env=(false,eval e X.env)::starEach es X.env:=by rfl) (hpl:(backTo pos (starEach es X.env)).any (·.1)=false:=by rfl):PE X (.Call (.Name x p) (e::es) [] pos) (tCB r t):=by
 intro pins s σ H Q I h;refine rE (gW I hg hm hv ?_ hn hdb);exact tM (thn (ha pos pins s σ H _ I h) fun us s1 ⟨vs,H1,I1,r1,q1⟩=>hc pins s1 σ H1 vs us Q I1 r1 q1) he hpl
end
end L2
namespace HT
open PySem PyProof.Rows
section
open PySem.SeqAt
open PySem.AutoSeq1 (wpAny_loadPart')
open PySem.MeetsSeq PySem.MeetsSeq2 PySem.MeetsSeq3
end
section
variable{prog:Program}{w:World}{A:Around}{E:Value→Shared→Prop}{s:Shared}
def sIx(n d:Nat):Option Int→Nat
 | none=>d
 | some v=>if v<0 then(v+(n:Int)).toNat else min v.toNat n
theorem sIx_none(n d:Nat):sIx n d none=d:=rfl
theorem sIx_nat(n d k:Nat):sIx n d (some (k:Int))=min k n:=by
 show(if(k:Int)<0 then((k:Int)+(n:Int)).toNat else min (k:Int).toNat n)=min k n;rw[if_neg (by lia),Int.toNat_natCast]
end
end HT
namespace L2
open PySem PySem.Spec PyProof.Rows
abbrev TO:=St→Hp→(Option Int→Hp→Prop)→Prop
def PO(X:Cx)(e:Option Expr)(t:TO):Prop:=
 ∀(pins:List (Addr×Obj))(s:Shared)(σ:St)(H:Hp)(Q:Option Int→Hp→Prop),Inv X pins σ H s→t σ H Q→
  wpAny (model X.prog X.w) X.A (evalPart e X.env) (fun u s'=>∃o H',Inv X pins σ H' s'∧IsPart u o∧Q o H') X.xe s
def zHm:TO:=fun _ H Q=>Q none H
def zTu(t:TE):TO:=fun σ H Q=>t σ H fun x H1=>∃i,x= .int i∧Q (some i) H1
theorem zLb{ns:List Int}:∀{us:List Value},Vals (ns.map V.int) us→IntsAre us ns:=by
 induction ns with
 | nil=>intro us r;rw[rT] at r;cases r;exact .nil
 | cons n ns ih=>
  intro us r;rw[mY] at r
  cases r with
  | cons r1 r2=>
   obtain⟨t,e⟩:=r1;subst e;exact .cons n t (ih r2)
section
variable{X:Cx}{e:Expr}{te:TE}{lo hi:Option Expr}{tl th:TO}{pos p2:Pos}
theorem wG:PO X none zHm:=by
 intro pins s σ H Q I h;rw[evalPart_none];exact mM ⟨none,H,I, .none,h⟩
theorem wC(h:PE X e te):PO X (some e) (zTu te):=by
 intro pins s σ H Q I hw;rw[evalPart_some];refine thn (h pins s σ H _ I hw) fun u s1 ⟨x,H1,I1,r1,q1⟩=>?_;obtain⟨i,rfl,q⟩:=q1;obtain⟨t,rfl⟩:=r1;exact⟨some i,H1,I1, .int i t,q⟩
def SlR(X:Cx)(r:V→Option Int→Option Int→Hp→VK→Prop):Prop:=
 ∀(pins:List (Addr×Obj))(s:Shared)(σ:St)(H:Hp)(x:V)(v vl vu:Value)(lo hi:Option Int)(sl:Addr)(Q:VK),Inv X pins σ H s→RelV x v→s.heap.IsSliceOf sl vl vu .none→IsPart vl lo→IsPart vu hi→r x lo hi H Q→
  ∃T id,typeLookup (.type T) "__getitem__" =pure (some (.builtin id))∧s.TypeIs v T∧wpAny (model X.prog X.w) X.A (getItem v (.ref sl)) (EP X pins σ Q) X.xe s
def tSl(r:V→Option Int→Option Int→Hp→VK→Prop)(te:TE)(tl th:TO):TE:=fun σ H Q=>te σ H fun x H1=>tl σ H1 fun l H2=>th σ H2 fun u H3=>r x l u H3 Q
theorem xQ{r:V→Option Int→Option Int→Hp→VK→Prop}(hr:SlR X r)(he:PE X e te)(hl:PO X lo tl)(hu:PO X hi th):PE X (.Subscript e (.Slice lo hi none p2) pos) (tSl r te tl th):=by
 intro pins s σ H Q I h;refine Subscript_ (thn (he pins s σ H _ I h) fun v s1 ⟨x,H1,I1,r1,q1⟩=>?_);refine wpAny_Slice (thn (hl pins s1 σ H1 _ I1 q1) fun vl s2 ⟨l,H2,I2,pl,q2⟩=>thn (hu pins s2 σ H2 _ I2 q2) fun vu s3 ⟨u,H3,I3,pu,q3⟩=>?_);rw[evalPart_none];refine mM ?_;have I4:Inv X pins σ H3 {s3 with heap:=s3.heap.push {cls:=.type "slice",data:=.fields #[vl,vu, .none]}}:=I3.kept (t':=s3.toks) fun b ob q=>mE _ q;obtain⟨T,id,hT,ht,hg⟩:=hr pins {s3 with heap:=s3.heap.push {cls:=.type "slice",data:=.fields #[vl,vu, .none]}} σ H3 x v vl vu l u s3.heap.objs.size Q I4 r1 (Heap.IsSliceOf.new ..) pl pu q3;show wpAny (model X.prog X.w) X.A (subscriptTail e (.Slice lo hi none p2) v (.ref s3.heap.objs.size)) (EP X pins σ Q) X.xe {s3 with heap:=s3.heap.push {cls:=.type "slice",data:=.fields #[vl,vu, .none]}};exact tail_any (ops:=[.ref s3.heap.objs.size,v]) ht hT hg (by with_unfolding_all rfl)
def jU(xs:List V)(lo hi:Option Int):List V:=(xs.drop (HT.sIx xs.length 0 lo)).take (HT.sIx xs.length xs.length hi - HT.sIx xs.length 0 lo)
theorem zJu(xs:List V)(lo hi:Option Int):(jU xs lo hi).length≤xs.length:=by
 unfold jU;rw[nU,rG]
 lia
end
def ixN(n:Nat)(i:Int):Option Nat:=if 0≤i then(if i<n then some i.toNat else none) else if -(n:Int)≤i then some (i+n).toNat else none
def atI{α:Type}(xs:List α)(i:Int):Option α:=(ixN xs.length i).bind fun j=>xs[j]?
theorem zWm{n:Nat}{i:Int}{j:Nat}(h:ixN n i=some j):seqIndex? i n=some j∧j<n∧-(n:Int)≤i∧i<n:=by
 unfold ixN at h
 by_cases h0:0≤i
 ·rw[mK h0] at h
  by_cases h1:i<n
  ·rw[mK h1] at h
   have e:i.toNat=j:=mV h;exact⟨by rw[seqIndex_of h0 h1,e],by lia,by lia,h1⟩
  ·rw[mI h1] at h;cases h
 ·rw[mI h0] at h
  by_cases h1: -(n:Int)≤i
  ·rw[mK h1] at h
   have e:(i+n).toNat=j:=mV h;exact⟨by rw[seqIndex_neg (by lia) h1,e],by lia,h1,by lia⟩
  ·rw[mI h1] at h;cases h
theorem zGj{α:Type}{xs:List α}{i:Int}{v:α}(h:atI xs i=some v):∃j,seqIndex? i xs.length=some j∧xs[j]? =some v∧j<xs.length∧-(xs.length:Int)≤i∧i<xs.length:=by
 unfold atI at h
 cases e:ixN xs.length i with
 | none=>rw[e] at h;cases h
 | some j=>
  rw[e] at h;obtain⟨h1,h2,h3,h4⟩:=zWm e;exact⟨j,h1,h,h2,h3,h4⟩
theorem yM{α:Type}{xs:List α}{j:Nat}{v:α}(h:xs[j]? =some v):atI xs (j:Int)=some v:=by
 have hj:j<xs.length:=(nE.mp h).1;have e:ixN xs.length (j:Int)=some j:=by
  unfold ixN;rw[mK (by lia),mK (by lia)];simp
 unfold atI;rw[e];exact h
theorem qB{α:Type}(xs:List α)(v:α):atI (xs++ [v]) (-1)=some v:=by
 have hl:(xs++ [v]).length=xs.length+1:=by simp
 have e:ixN (xs++ [v]).length (-1)=some xs.length:=by
  unfold ixN;rw[hl,mI (by decide),mK (by lia)]
  congr 1
  lia
 unfold atI;rw[e];show(xs++ [v])[xs.length]? =some v;simp
def zWz(b:Expr):Prop:=∀o i,subscripted b false o i=operate [o,i] (getItem o i)
def IxR(X:Cx)(r:R2):Prop:=
 ∀(value slice:Expr)(pins:List (Addr×Obj))(s:Shared)(σ:St)(H:Hp)(x y:V)(v u:Value)(Q:VK),Inv X pins σ H s→RelV x v→RelV y u→r x y H Q→
  subscripted slice false v u=operate [v,u] (getItem v u)→wpAny (model X.prog X.w) X.A (subscriptTail value slice v u) (EP X pins σ Q) X.xe s
def MtR(X:Cx)(id:String)(r:V→List V→Hp→VK→Prop):Prop:=
 ∀(pins:List (Addr×Obj))(s:Shared)(σ:St)(H:Hp)(x:V)(xs:List V)(v:Value)(us:List Value)(Q:VK),Inv X pins σ H s→RelV x v→Vals xs us→r x xs H Q→
  wpAny (model X.prog X.w) X.A (call (.builtin id) (v::us)) (EP X pins σ Q) X.xe s
section
variable{X:Cx}{a b:Expr}{ta tb:TE}{pos:Pos}
theorem IxR.or{r r':R2}(h:IxR X r)(h':IxR X r'):IxR X (fun x y H Q=>r x y H Q∨r' x y H Q):=by
 intro value slice pins s σ H x y v u Q I rx ry q hs;rcases q with q | q
 ·exact h value slice pins s σ H x y v u Q I rx ry q hs
 ·exact h' value slice pins s σ H x y v u Q I rx ry q hs
theorem yE{r:R2}(hr:IxR X r)(ha:PE X a ta)(hb:PE X b tb)(hs:zWz b):PE X (.Subscript a b pos) (tOp r ta tb):=by
 intro pins s σ H Q I h;exact Subscript_ (yBv ha hb I h fun v u s2 x y H2 I2 rx ry q=>hr a b pins s2 σ H2 x y v u Q I2 rx ry q (hs _ _))
def zTq(K:W.Frag):R2:=fun x y H Q=>∃p xs i v,x= .ref p∧y= .int i∧SqL K H p xs∧atI xs i=some v∧Q v H
def zRm(K:W.Frag):R2:=fun x y H Q=>∃p xs i v,x= .ref p∧y= .int i∧SqT K H p xs∧atI xs i=some v∧Q v H
def zZk:R2:=fun x y H Q=>∃z i c,x= .str z∧y= .int i∧z.length≤sizeLine∧atI z.cps.toList i=some c∧Q (.str ⟨#[c]⟩) H
theorem ix_list:IxR X (zTq X.K):=by
 intro value slice pins s σ H x y v u Q I rx ry h hs;obtain⟨p,xs,i,z,rfl,rfl,hq,he,q⟩:=h;cases rx;obtain⟨t,rfl⟩:=ry;obtain⟨its,r,pl,hz⟩:=I.list hq;obtain⟨j,h1,h2,h3,h4,h5⟩:=zGj he;obtain⟨w,ew,rw'⟩:=r.get h2;have hl:=r.length;have hn:=zAq;have fin:EP X pins σ Q w s:=⟨z,H,I,rw',q⟩
 by_cases h0:0≤i
 ·have hj:i.toNat=j:=by
   rw[seqIndex_of h0 h5] at h1;exact mV h1
  exact item_listR pl.isList h0 (by lia) (by rw[hj];simpa using ew) fin hs
 ·have hj:(i+(its.toArray.size:Int)).toNat=j:=by
   rw[seqIndex_neg (by lia) h4] at h1;rw[nG,←hl];exact mV h1
  exact subscriptTail_builtinR (x:=w) pl.isList.typeIs slot_list_getitem.lookup
   (wpAny_getItem_list_neg (Q:=fun r s'=>r=w∧EP X pins σ Q r s') pl.isList (by lia) (by rw[nG]<;>lia) (by lia) (by rw[hj];simpa using ew) ⟨rfl,fin⟩) hs
theorem ix_tup:IxR X (zRm X.K):=by
 intro value slice pins s σ H x y v u Q I rx ry h hs;obtain⟨p,xs,i,z,rfl,rfl,hq,he,q⟩:=h;cases rx;obtain⟨t,rfl⟩:=ry;obtain⟨its,r,pl,hz⟩:=I.tuple hq;obtain⟨j,h1,h2,h3,h4,h5⟩:=zGj he;obtain⟨w,ew,rw'⟩:=r.get h2;have hl:=r.length;have hn:=zAq;have fin:EP X pins σ Q w s:=⟨z,H,I,rw',q⟩;exact subscriptTail_builtinR (x:=w) pl.typeIs slot_tuple_getitem.lookup
  (getItem_tuple (j:=j) (Q:=fun r s'=>r=w∧EP X pins σ Q r s') pl (by lia) (by lia) (by rw[nG,←hl];exact h1) (by simpa using ew) ⟨rfl,fin⟩) hs
theorem kF:IxR X zZk:=by
 intro value slice pins s σ H x y v u Q I rx ry h hs;obtain⟨z,i,c,rfl,rfl,hz,he,q⟩:=h;obtain⟨t,rfl⟩:=rx;obtain⟨t',rfl⟩:=ry;obtain⟨j,h1,h2,h3,h4,h5⟩:=zGj he;have hl:z.cps.toList.length=z.length:=by simp[Str.length]
 rw[hl] at h1 h4 h5;have hn:=zAq;exact tail_any (bW s z t) slot_str_getitem.lookup (getItem_str (c:=c) (by
  have e1:decide (i< -(2 ^ 63:Int))=false:=nJ (by lia);have e2:decide (i≥2 ^ 63)=false:=nJ (by lia);rw[e1,e2,Bool.or_false]) (by rw[h1];simpa using h2) ⟨.str ⟨#[c]⟩,H,I.tok _,⟨_,rfl⟩,q⟩) hs
def rIx(K:W.Frag):R2:=fun x y H Q=>zTq K x y H Q∨zRm K x y H Q∨zZk x y H Q
theorem yCc:IxR X (rIx X.K):=ix_list.or (ix_tup.or kF)
theorem zGx(lo hi:Option Int)(n:Nat):(sliceBounds lo hi none n).1=((HT.sIx n 0 lo:Nat):Int)∧(sliceBounds lo hi none n).2.1=((HT.sIx n n hi:Nat):Int)∧(sliceBounds lo hi none n).2.2=1:=by
 refine⟨?_, ?_,rfl⟩
 ·cases lo with
  | none=>simp[sliceBounds,HT.sIx]
  | some i=>
   simp only[sliceBounds,HT.sIx,Option.getD_none,show(1:Int)>0 by decide,dM]
   by_cases h:i<0
   ·simp only[h,dM]<;>lia
   ·simp only[h,tV]<;>lia
 ·cases hi with
  | none=>simp[sliceBounds,HT.sIx]
  | some i=>
   simp only[sliceBounds,HT.sIx,Option.getD_none,show(1:Int)>0 by decide,dM]
   by_cases h:i<0
   ·simp only[h,dM]<;>lia
   ·simp only[h,tV]<;>lia
theorem zEb(its:List Value)(lo hi:Option Int):slicePick its.toArray lo hi none=((its.drop (HT.sIx its.length 0 lo)).take (HT.sIx its.length its.length hi - HT.sIx its.length 0 lo)).toArray:=by
 obtain⟨h1,h2,h3⟩:=zGx lo hi its.toArray.size;unfold slicePick;rw[h1,h2,h3];simp only[sliceRange_one,pick_run,nG]<;>rfl
def rSlL(K:W.Frag):V→Option Int→Option Int→Hp→VK→Prop:=fun x lo hi H Q=>∃a xs,x= .ref a∧SqL K H a xs∧∀p,H p=none→Q (.ref p) (upd H p (.lst (jU xs lo hi)))
theorem vS:SlR X (rSlL X.K):=by
 intro pins s σ H x v vl vu lo hi sl Q I rx hs pl pu h;obtain⟨a,xs,rfl,hx,q⟩:=h;cases rx;obtain⟨its,r,ht,hz⟩:=I.list hx;have hlen:=r.length;refine⟨"list",_,slot_list_getitem.lookup,ht.isList.typeIs, ?_⟩;refine wpAny_getItem_list_slice ht.isList hs pl pu .none (by simp) ?_ (by rw[nG]<;>lia);rw[zEb,←hlen];refine⟨.ref s.heap.objs.size,_,I.laid (t':=s.toks) (o:=.lst (jU xs lo hi)) (fun b ob q=>mE _ q) (mD _) ?_,rfl,q _ (I.hok.fresh (mD _))⟩;exact⟨nN (zJu xs lo hi) hz,_,0,(r.drop (HT.sIx xs.length 0 lo)).take (HT.sIx xs.length xs.length hi - HT.sIx xs.length 0 lo),mX _ rfl⟩
def qR:V→Bool
 | .non=>true
 | .bl _=>true
 | .int _=>true
 | .str _=>true
 | _=>false
def eqV:V→V→Bool
 | .non, .non=>true
 | .bl a, .bl b=>a==b
 | .bl a, .int b=>(if a then 1 else 0)==b
 | .int a, .bl b=>a==(if b then 1 else 0)
 | .int a, .int b=>a==b
 | .str a, .str b=>a==b
 | _,_=>false
theorem yBl{A:Around}{s:Shared}{y x:V}{u v:Value}(ry:RelV y u)(rx:RelV x v)(fy:qR y=true)(fx:qR x=true):SeqAt.EqAt A s u v (eqV y x):=by
 cases y with
 | non=>
  cases ry
  cases x with
  | non=>cases rx;exact SeqAt.EqAt.same _
  | bl b=>cases rx;exact SeqAt.EqAt.none_bool b
  | int b=>obtain⟨t,rfl⟩:=rx;exact SeqAt.EqAt.none_int b t
  | str b=>obtain⟨t,rfl⟩:=rx;exact SeqAt.EqAt.none_str b t
  | _=>exact absurd (show false=true from fx) mW
 | bl a=>
  cases ry
  cases x with
  | non=>cases rx;exact SeqAt.EqAt.bool_none a
  | bl b=>cases rx;exact SeqAt.EqAt.bool_bool a b
  | int b=>obtain⟨t,rfl⟩:=rx;exact SeqAt.EqAt.bool_int a b t
  | str b=>obtain⟨t,rfl⟩:=rx;exact SeqAt.EqAt.bool_str a b t
  | _=>exact absurd (show false=true from fx) mW
 | int a=>
  obtain⟨t',rfl⟩:=ry
  cases x with
  | non=>cases rx;exact SeqAt.EqAt.int_none a t'
  | bl b=>cases rx;exact SeqAt.EqAt.int_bool a t' b
  | int b=>obtain⟨t,rfl⟩:=rx;exact SeqAt.EqAt.int_int a t' b t
  | str b=>obtain⟨t,rfl⟩:=rx;exact SeqAt.EqAt.int_str a t' b t
  | _=>exact absurd (show false=true from fx) mW
 | str a=>
  obtain⟨t',rfl⟩:=ry
  cases x with
  | non=>cases rx;exact SeqAt.EqAt.str_none a t'
  | bl b=>cases rx;exact SeqAt.EqAt.str_bool a t' b
  | int b=>obtain⟨t,rfl⟩:=rx;exact SeqAt.EqAt.str_int a t' b t
  | str b=>obtain⟨t,rfl⟩:=rx;exact SeqAt.EqAt.str_str a t' b t
  | _=>exact absurd (show false=true from fx) mW
 | _=>exact absurd (show false=true from fy) mW
theorem vR:xS X (.builtin "len") (fun xs H Q=>∃p ys,xs= [.ref p]∧(SqL X.K H p ys∨SqT X.K H p ys)∧Q (.int ys.length) H):=by
 intro pins s σ H xs us Q I r h;obtain⟨p,ys,rfl,hq,q⟩:=h;obtain⟨u,rfl,rx⟩:=wR r;cases rx;have hn:=zAq;rcases hq with hq | hq
 ·obtain⟨its,r',pl,hz⟩:=I.list hq
  have hlen:=r'.length;exact Calls.call_len_list pl.isList (by simp only[nG]<;>lia) ⟨.int ys.length,H,I.tok _,⟨s.toks+1,by rw[nG,hlen]⟩,q⟩
 ·obtain⟨its,r',pl,hz⟩:=I.tuple hq
  have hlen:=r'.length;exact len_tuple pl (by simp only[nG]<;>lia) ⟨.int ys.length,H,I.tok _,⟨s.toks+1,by rw[nG,hlen]⟩,q⟩
theorem jS:xS X (.builtin "len") (fun xs H Q=>∃z,xs= [.str z]∧z.length≤sizeLine∧Q (.int z.length) H):=by
 intro pins s σ H xs us Q I r h;obtain⟨z,rfl,hz,q⟩:=h;obtain⟨u,rfl,t,rfl⟩:=wR r;have hn:=zAq;exact len_str (by lia) ⟨.int z.length,H,I.tok _,⟨_,rfl⟩,q⟩
theorem zHh:xS X (.type "list") (fun xs H Q=>∃p ys,xs= [.ref p]∧(SqL X.K H p ys∨SqT X.K H p ys)∧∀l,H l=none→Q (.ref l) (upd H l (.lst ys))):=by
 intro pins s σ H xs us Q I r h;obtain⟨p,ys,rfl,hq,q⟩:=h;obtain⟨u,rfl,rx⟩:=wR r;cases rx;have fin:∀(its:List Value),Vals ys its→ys.length≤sizeLine→∀(h':Heap)(c':Nat),(∀b o',s.heap.get? b=some o'→h'.get? b=some o')→
   h'.get? s.heap.objs.size=some {cls:=.type "list",dict:=none,data:=.seq its.toArray c',slots:=#[]}→EP X pins σ Q (.ref s.heap.objs.size) {s with heap:=h'}:=fun its r' hz h' c' kp e=>
  ⟨.ref s.heap.objs.size,_,I.laid (t':=s.toks) kp (mD _) (show ObjOk X.prog X.w _ h' _ (.lst ys) from⟨hz,its,c',r',e⟩),rfl,q _ (I.hok.fresh (mD _))⟩
 rcases hq with hq | hq
 ·obtain⟨its,r',pl,hz⟩:=I.list hq
  have hlen:=r'.length;obtain⟨o,ho,hc,n,hd⟩:=pl.isList;exact call_list_seq p (.inl rfl) ho hc hd (fun h' c' kp e=>fin its r' hz h' c' kp e) (by simp only[nG]<;>lia)
 ·obtain⟨its,r',pl,hz⟩:=I.tuple hq
  have hlen:=r'.length;obtain⟨o,ho,hc,n,hd⟩:=pl;exact call_list_seq p (.inr rfl) ho hc hd (fun h' c' kp e=>fin its r' hz h' c' kp e) (by simp only[nG]<;>lia)
theorem zEd:xS X (.type "tuple") (fun xs H Q=>∃p ys,xs= [.ref p]∧((SqL X.K H p ys∧∀l,H l=none→Q (.ref l) (upd H l (.tup ys)))∨(SqT X.K H p ys∧Q (.ref p) H))):=by
 intro pins s σ H xs us Q I r h;obtain⟨p,ys,rfl,h⟩:=h;obtain⟨u,rfl,rx⟩:=wR r;cases rx;rcases h with⟨hq,q⟩|⟨hq,q⟩
 ·obtain⟨its,r',pl,hz⟩:=I.list hq
  have hlen:=r'.length;refine call_tuple_list pl.isList (fun h' kp=>?_) (by simp only[nG]<;>lia);have I1:Inv X pins σ H {s with heap:=h'}:=I.kept (t':=s.toks) kp;have I2:Inv X pins σ (upd H h'.objs.size (.tup ys)) {s with heap:=h'.push {cls:=.type "tuple",data:=.seq its.toArray}}:=
   I1.laid (t':=s.toks) (fun b o e=>mE _ e) (mD _) (show ObjOk X.prog X.w _ _ _ (.tup ys) from⟨hz,its,r',IsTup.new _ _⟩)
  exact⟨.ref h'.objs.size,_,I2,rfl,q _ (I1.hok.fresh (mD _))⟩
 ·obtain⟨its,r',pl,hz⟩:=I.tuple hq
  exact call_tuple_same pl ⟨.ref p,H,I,rfl,q⟩
def tyV(K:W.Frag)(T:String)(x:V)(H:Hp):Prop:=match x with
 | .str _=>T= "str"
 | .int _=>T= "int"
 | .ref p=>(T= "list"∧∃xs,SqL K H p xs)∨(T= "tuple"∧∃o,K.lookup p=some o∧o.cls= .type "tuple"∧o.dict=none)∨
   (T= "dict"∧((∃kvs,H p=some (.dK kvs))∨∃kvs,H p=some (.dT kvs)))∨(T= "set"∧∃S n,H p=some (.set S n))
 | _=>False
theorem zSg{pins:List (Addr×Obj)}{σ:St}{H:Hp}{s:Shared}{T:String}{x:V}{v:Value}(I:Inv X pins σ H s)(r:RelV x v)(ty:tyV X.K T x H):
  s.TypeIs v T∧∀a,v= .ref a→∃ob,s.heap.get? a=some ob∧ob.dict=none:=by
 cases x with
 | str z=>
  obtain⟨t,rfl⟩:=r;cases (show T= "str" from ty);exact⟨bW s z t,fun _ e=>nomatch e⟩
 | int i=>
  obtain⟨t,rfl⟩:=r;cases (show T= "int" from ty);exact⟨typeIs_int s i t,fun _ e=>nomatch e⟩
 | ref p=>
  cases r;rcases ty with⟨rfl,xs,hq⟩|⟨rfl,o,hk,hc,hd⟩|⟨rfl,hk⟩|⟨rfl,S,n,hk⟩
  ·obtain⟨its,_,pl,_⟩:=I.list hq
   refine⟨pl.isList.typeIs,fun a e=>?_⟩;cases e;obtain⟨o,n,e,c,hd,_⟩:=pl;exact⟨o,e,hd⟩
  ·refine⟨⟨o,I.kIn p o hk,hc⟩,fun a e=>?_⟩
   cases e;exact⟨o,I.kIn _ o hk,hd⟩
  ·have z:∃o,s.heap.get? p=some o∧o.ExactDict:=by
    rcases hk with⟨kvs,hk⟩|⟨kvs,hk⟩
    ·obtain⟨_,_,_,_,o,_,_,e,ex,_⟩:=I.hok p _ hk
     exact⟨o,e,ex⟩
    ·obtain⟨_,_,_,_,o,_,_,e,ex,_⟩:=I.hok p _ hk
     exact⟨o,e,ex⟩
   obtain⟨o,e,ex⟩:=z;refine⟨⟨o,e,ex.1⟩,fun a e2=>?_⟩;cases e2;exact⟨o,e,ex.2.1⟩
  ·obtain⟨o,_,_,_,e,ex,_⟩:=I.hok p _ hk
   refine⟨⟨o,e,ex.1⟩,fun a e2=>?_⟩;cases e2;exact⟨o,e,ex.2.1⟩
 | _=>exact False.elim ty
def yAm(K:W.Frag)(T:String)(r:V→List V→Hp→VK→Prop)(to:TE):TE:=fun σ H Q=>to σ H fun x H1=>tyV K T x H1∧r x [] H1 Q
def tBM(K:W.Frag)(T:String)(r:V→List V→Hp→VK→Prop)(to:TE)(t:TA):TE:=fun σ H Q=>to σ H fun x H1=>tyV K T x H1∧t σ H1 fun xs H2=>r x xs H2 Q
variable{o e:Expr}{es:List Expr}{to:TE}{t:TA}{name:Str}{apos cpos:Pos}{T id:String}{r:V→List V→Hp→VK→Prop}
theorem zVb(pa:PlainAttrs T)(slot:Slot T name id)(hty:typeOf (.builtin id)=pure (.type "method_descriptor"))(hm:MtR X id r)(ho:PE X o to)
  (hbase:attributeBase o name X.env (eval o X.env)=eval o X.env:=by rfl) (hline:(apos.endLine==cpos.line)=true:=by rfl):PE X (.Call (.Attribute o name apos) [] [] cpos) (yAm X.K T r to):=by
 intro pins s σ H Q I h;refine wpAny_Call_method0_late hbase hline (thn (ho pins s σ H _ I h) fun v s1 ⟨x,H1,I1,r1,ty,q1⟩=>?_);obtain⟨h1,h2⟩:=zSg I1 r1 ty;exact⟨T,id,pa,slot,hty,h1,h2,tK rfl (PySem.evalArgs_none (hm pins s1 σ H1 x [] v [] Q I1 r1 .nil q1))⟩
theorem uU(pa:PlainAttrs T)(slot:Slot T name id)(hty:typeOf (.builtin id)=pure (.type "method_descriptor"))(hm:MtR X id r)(ho:PE X o to)(ha:PA X (e::es) t)
  (hbase:attributeBase o name X.env (eval o X.env)=eval o X.env:=by rfl)
  (hfew:((backTo cpos (starEach (e::es) X.env)).all (fun x=>!x.1)&& (backToKw cpos (keywordEach [] X.env)).all (fun x=>x.1.isSome)
   && decide ((e::es).length+([]:List Keyword).length+(if([]:List Keyword).isEmpty then 0 else 1)<30))=true:=by rfl)
  (hline:(apos.endLine==cpos.line)=true:=by rfl) (hs:starEach (e::es) X.env=(false,eval e X.env)::starEach es X.env:=by rfl) (hplain:(backTo cpos (starEach es X.env)).any (·.1)=false:=by rfl):
  PE X (.Call (.Attribute o name apos) (e::es) [] cpos) (tBM X.K T r to t):=by
 intro pins s σ H Q I h;refine wpAny_Call_method_late hbase hfew hline rfl (thn (ho pins s σ H _ I h) fun v s1 ⟨x,H1,I1,r1,ty,q1⟩=>?_);obtain⟨h1,h2⟩:=zSg I1 r1 ty;refine⟨T,id,pa,slot,hty,h1,h2, ?_⟩;have hA:=ha cpos pins s1 σ H1 _ I1 q1;rw[hs] at hA⊢;refine tK (by show(false ||(backTo cpos (starEach es X.env)).any (·.1))=false;rw[hplain]<;>rfl) (cW ?_)
 exact thn hA fun us s2 ⟨vs,H2,I2,r2,q2⟩=>hm pins s2 σ H2 x vs v us Q I2 r1 r2 q2
/- xs.append(e),list.index on a module's tuple .. are MtR facts of 06m -/
end
def MtM(X:Cx)(id:String)(r:V→List V→Hp→VK→Prop):Prop:=
 ∀(pins:List (Addr×Obj))(s:Shared)(σ:St)(H:Hp)(x:V)(xs:List V)(v:Value)(us:List Value)(Q:VK),Inv X pins σ H s→RelV x v→Vals xs us→r x xs H Q→
  wpAny (model X.prog X.w) X.A (call (.builtin id) (v::us)) (EP X pins σ Q) X.xe s
theorem Vals.one:∀{x:V}{us:List Value},Vals [x] us→∃u,us= [u]∧RelV x u
 | _,_, .cons r .nil=>⟨_,rfl,r⟩
theorem Vals.rep{xs:List V}{us:List Value}(h:Vals xs us):∀k:Nat,Vals (List.replicate k xs).flatten (List.replicate k us).flatten
 | 0=>.nil
 | k+1=>by
  rw[pA,pA,pP,pP];exact Vals.append h (Vals.rep h k)
theorem zFq(its:List Value):∀(k:Nat)(acc:List Value),
  List.foldl (fun x1 x2=>x1++x2) acc.toArray (List.replicate k its.toArray)=(acc++(List.replicate k its).flatten).toArray
 | 0,acc=>by simp
 | k+1,acc=>by
  have e:acc.toArray++its.toArray=(acc++its).toArray:=by simp
  have e2:(acc++its)++(List.replicate k its).flatten=acc++(List.replicate (k+1) its).flatten:=by
   rw[pA,pP,rR]
  rw[←e2,←zFq its k (acc++its),←e,pA,aS]
section
variable{X:Cx}{pins:List (Addr×Obj)}{σ:St}{H:Hp}{s:Shared}{l b:Addr}{xs ys zs:List V}
theorem Inv.lset{its its':List Value}{n:Nat}{f:Array Value→Array Value}{t':Nat}(I:Inv X pins σ H s)(hH:H l=some (.lst xs))
  (e:s.heap.get? l=some {cls:=.type "list",data:=.seq its.toArray n}) (hf:f its.toArray=its'.toArray) (hv:Vals ys its') (hz:ys.length≤sizeLine):
  Inv X pins σ (upd H l (.lst ys)) {s with heap:=s.heap.update l (Obj.mapSeq f),toks:=t'}:=by
 have q:=PySem.IsL.update e f;rw[hf] at q;refine I.write (x:=l) (e:=l) (by rw[hH];exact trivial) (.inl rfl) (fun b' u hb hu=>(mO s.heap (Obj.mapSeq f) (Ne.symm hb)).trans hu) ⟨_,q⟩ ?_;exact⟨hz,its',_,hv,q⟩
theorem Inv.lnew{its:List Value}{t':Nat}(I:Inv X pins σ H s)(hv:Vals ys its)(hz:ys.length≤sizeLine):
  Inv X pins σ (upd H s.heap.objs.size (.lst ys)) {s with heap:=s.heap.push {cls:=.type "list",data:=.seq its.toArray},toks:=t'}:=
 I.laid (fun _ _ q=>mE _ q) (mD _) ⟨hz,its,0,hv,mX _ rfl⟩
theorem Inv.fresh(I:Inv X pins σ H s):H s.heap.objs.size=none:=I.hok.fresh (mD _)
theorem Inv.lstM(I:Inv X pins σ H s)(hH:H l=some (.lst xs)):xs.length≤sizeLine∧∃(its:List Value)(n:Nat),Vals xs its∧xs.length=its.length∧s.heap.get? l=some {cls:=.type "list",data:=.seq its.toArray n}:=by
 obtain⟨z,its,n,r,e⟩:=I.hok l _ hH;exact⟨z,its,n,r,r.length,e⟩
theorem zId{n:Nat}(h:n≤sizeLine):Builtin.List.listTooLong n=false:=by
 unfold Builtin.List.listTooLong;exact nJ (by lia)
end
section
variable{X:Cx}
def zHo:V→List V→Hp→VK→Prop:=fun x vs H Q=>∃l xs y,x= .ref l∧vs= [y]∧H l=some (.lst xs)∧xs.length<sizeLine∧Q .non (upd H l (.lst (xs++ [y])))
theorem zEx:MtM X "list.append" zHo:=by
 intro pins s σ H x vs v us Q I rx rv h;obtain⟨l,xs,y,rfl,rfl,hH,hz,q⟩:=h;cases rx;obtain⟨u,rfl,ru⟩:=rv.one;obtain⟨z,its,n,r,hl,e⟩:=I.lstM hH;refine aQ F.slot_list_append ⟨_,e,rfl⟩ F.entry_list_append (F.args_list_append_2 _ _) (PySem.list_append l its.toArray n u (by rw[nG];lia)) ⟨e, ?_⟩;refine⟨.non,_,I.lset (its':=its++ [u]) hH e (by simp) (r.append (.cons ru .nil)) ?_,rfl,q⟩;rw[mL,nB]
 lia
def zYe:V→List V→Hp→VK→Prop:=fun x vs H Q=>∃l b xs zs,x= .ref l∧vs= [.ref b]∧H l=some (.lst xs)∧H b=some (.lst zs)∧xs.length+zs.length≤sizeLine∧Q .non (upd H l (.lst (xs++zs)))
theorem zEr:MtM X "list.extend" zYe:=by
 intro pins s σ H x vs v us Q I rx rv h;obtain⟨l,b,xs,zs,rfl,rfl,hH,hB,hz,q⟩:=h;cases rx;obtain⟨u,rfl,ru⟩:=rv.one;cases ru;obtain⟨z,its,n,r,hl,e⟩:=I.lstM hH;obtain⟨z2,its2,n2,r2,hl2,e2⟩:=I.lstM hB;have hsz:its.toArray.size+its2.toArray.size≤sizeLine:=by rw[nG,nG];lia
 have hlong:¬(!its.toArray.isEmpty && Builtin.List.listTooLong (its.toArray.size+its2.toArray.size))=true:=by
  rw[zId hsz,Bool.and_false];exact mW
 refine aQ F.slot_list_extend ⟨_,e,rfl⟩ F.entry_list_extend (F.args_list_extend_2 _ _)
  (AutoSeq1.list_extend_list_list_0 l its.toArray n b its2.toArray n2 hlong (by rw[nG];lia) (by lia)) ⟨e,e2, ?_⟩
 refine⟨.non,_,I.lset (its':=its++its2) hH e (by simp) (r.append r2) ?_,rfl,q⟩;rw[mL]
 lia
def zVs:R2:=fun x y H Q=>∃l b xs zs,x= .ref l∧y= .ref b∧H l=some (.lst xs)∧H b=some (.lst zs)∧xs.length+zs.length≤sizeLine∧∀p,H p=none→Q (.ref p) (upd H p (.lst (xs++zs)))
theorem jN:OpR X (binaryOp .Add) zVs:=by
 intro pins s σ H x y v u Q I rx ry h;obtain⟨l,b,xs,zs,rfl,rfl,hH,hB,hz,q⟩:=h;cases rx;cases ry;obtain⟨z,its,n,r,hl,e⟩:=I.lstM hH;obtain⟨z2,its2,n2,r2,hl2,e2⟩:=I.lstM hB;refine PySem.P.add_list e e2 ?_ (by rw[nG,nG];lia);have ea:its.toArray++its2.toArray=(its++its2).toArray:=by simp
 rw[ea];exact⟨.ref _,_,I.lnew (t':=s.toks) (r.append r2) (by rw[mL];lia),rfl,q _ I.fresh⟩
def rRep:R2:=fun x y H Q=>∃l k xs,x= .ref l∧y= .int k∧H l=some (.lst xs)∧-(2 ^ 63)≤k∧k<2 ^ 63∧xs.length*k.toNat≤sizeLine∧
 ∀p,H p=none→Q (.ref p) (upd H p (.lst (List.replicate k.toNat xs).flatten))
theorem zWo{α:Type}(xs:List α)(k:Nat):(List.replicate k xs).flatten.length=k*xs.length:=by
 induction k with
 | zero=>simp
 | succ k ih=>rw[pA,pP,mL,ih,Nat.succ_mul,Nat.add_comm]
theorem yDh:OpR X (binaryOp .Mult) rRep:=by
 intro pins s σ H x y v u Q I rx ry h;obtain⟨l,k,xs,rfl,rfl,hH,h1,h2,hz,q⟩:=h;cases rx;obtain⟨t,rfl⟩:=ry;obtain⟨z,its,n,r,hl,e⟩:=I.lstM hH;have hlen:its.toArray.size*k.toNat≤sizeLine:=by rw[nG,←hl];exact hz
 have hcap:¬its.toArray.size*k.toNat>(2 ^ 63 - 1)/ 8:=by
  have:(sizeLine:Nat)≤(2 ^ 63 - 1)/ 8:=by decide
  lia
 have hfit:¬(!Builtin.List.listFitsIndex k)=true:=by
  rw[fitsIndex_both h1 h2];exact mW
 have hlong:¬Builtin.List.listTooLong (its.toArray.size*k.toNat)=true:=by
  rw[zId hlen];exact mW
 have hnew:List.foldl (fun x1 x2=>x1++x2) #[] (List.replicate (if its.toArray.isEmpty=true then 0 else k.toNat) its.toArray)=(List.replicate k.toNat its).flatten.toArray:=by
  have f0:∀m:Nat,List.foldl (fun x1 x2=>x1++x2) #[] (List.replicate m its.toArray)=(List.replicate m its).flatten.toArray:=fun m=>by
   have:=zFq its m [];rw[aT] at this;exact this
  rw[f0]
  cases its with
  | nil=>simp
  | cons a r'=>rw[mI (by simp)]
 refine wpAny_binaryOp_repeat_ref (T:="list") (U:="int") (by decide) ⟨_,e,rfl⟩ (fun s'=>typeIs_int s' k t) noFill_list_mul F.fills_int_mul F.slot_int_rmul repeat_list F.slot_int_index.lookup
  (aQ F.slot_int_rmul (typeIs_int s k t) F.entry_int_rmul (F.args_int_rmul_2 _ _) (int___rmul___int_list k t l its.toArray n)
   ⟨e,rfl,⟨_,e,rfl⟩,aQ F.slot_list_mul ⟨_,e,rfl⟩ F.entry_list_mul (F.args_list_mul_2 _ _) (AutoListH.list___mul___list_int_3 l its.toArray n k t hfit hcap hlong) ⟨e, ?_⟩⟩)
 rw[hnew];exact⟨.ref _,_,I.lnew (t':=s.toks) (r.rep k.toNat) (by rw[zWo,Nat.mul_comm];exact hz),rfl,q _ I.fresh⟩
end
section
variable{prog:Program}{w:World}{A:Around}{E:Value→Shared→Prop}{s:Shared}
set_option maxRecDepth 100000 in
end
section
variable{X:Cx}
end
section
variable{κ:Type} [DecidableEq κ]
def qL(kvs:List (κ×V))(k:κ):Option V:=(kvs.find? fun kv=>decide (kv.1=k)).map (·.2)
def vP(kvs:List (κ×V))(k:κ)(v:V):List (κ×V):=
 if(kvs.any fun kv=>decide (kv.1=k))=true then kvs.map (fun kv=>if kv.1=k then(kv.1,v) else kv) else kvs++ [(k,v)]
def dropK(kvs:List (κ×V))(k:κ):List (κ×V):=kvs.filter fun kv=>decide (kv.1≠k)
theorem zAa{p:κ×V}{r:List (κ×V)}{k:κ}(e:p.1=k):qL (p::r) k=some p.2:=by simp[qL,aU,e]
theorem kM{p:κ×V}{r:List (κ×V)}{k:κ}(e:¬p.1=k):qL (p::r) k=qL r k:=by simp[qL,aU,e]
theorem uK(k:κ):∀kvs:List (κ×V),(kvs.any fun kv=>decide (kv.1=k))=(qL kvs k).isSome
 | []=>rfl
 | p::r=>by
  rw[bH]
  by_cases e:p.1=k
  ·simp only[zAa e,mZ e,Bool.true_or,Option.isSome_some]
  ·rw[kM e,nJ e,Bool.false_or];exact uK k r
theorem jZ(kvs:List (κ×V))(k:κ)(v:V):(vP kvs k v).length≤kvs.length+1:=by
 unfold vP;split
 ·rw[mJ];lia
 ·rw[mL,mS,nX];lia
theorem zSi{kvs:List (κ×V)}{k:κ}(v:V)(h:qL kvs k=none):vP kvs k v=kvs++ [(k,v)]:=by
 unfold vP;rw[uK,h];exact mI (by decide)
theorem RelO.isSome_eq{o:Option V}{u:Option Value}(r:RelO o u):o.isSome=u.isSome:=by
 cases o with
 | none=>cases u with
  | none=>rfl
  | some _=>exact(show False from r).elim
 | some _=>cases u with
  | none=>exact(show False from r).elim
  | some _=>rfl
theorem KV.val{kvs:List (κ×V)}{vs:List (κ×Value)}(r:KV kvs vs)(k:κ):RelO (qL kvs k) (valueAt vs k):=by
 unfold KV at r
 induction r with
 | nil=>exact mN
 | @cons p q ps qs h t ih=>
  obtain⟨h1,h2⟩:=h
  by_cases e:p.1=k
  ·have e':q.1=k:=h1.symm.trans e
   have b:valueAt (q::qs) k=some q.2:=by simp[valueAt,aU,e']
   rw[zAa e,b];exact h2
  ·have e':¬q.1=k:=fun z=>e (h1.trans z)
   have b:valueAt (q::qs) k=valueAt qs k:=by simp[valueAt,aU,e']
   rw[kM e,b];exact ih
theorem KV.any{kvs:List (κ×V)}{vs:List (κ×Value)}(r:KV kvs vs)(k:κ):(kvs.any fun kv=>decide (kv.1=k))=vs.any fun kv=>decide (kv.1=k):=by
 unfold KV at r
 induction r with
 | nil=>rfl
 | cons h t ih=>rw[bH,bH,ih,h.1]
theorem KV.repl{kvs:List (κ×V)}{vs:List (κ×Value)}(r:KV kvs vs)(k:κ){y:V}{u:Value}(ry:RelV y u):
  KV (kvs.map fun kv=>if kv.1=k then(kv.1,y) else kv) (vs.map fun kv=>if kv.1=k then(kv.1,u) else kv):=by
 unfold KV at r⊢
 induction r with
 | nil=>exact .nil
 | @cons p q ps qs h t ih=>
  rw[mY,mY];refine .cons ?_ ih;obtain⟨h1,h2⟩:=h
  by_cases e:p.1=k
  ·rw[mK e,mK (h1.symm.trans e)];exact⟨h1,ry⟩
  ·rw[mI e,mI (fun z=>e (h1.trans z))];exact⟨h1,h2⟩
theorem KV.put{kvs:List (κ×V)}{vs:List (κ×Value)}(r:KV kvs vs)(k:κ){y:V}{u:Value}(ry:RelV y u):KV (vP kvs k y) (stored vs k u):=by
 unfold vP stored;rw[r.any k]
 by_cases e:(vs.any fun kv=>decide (kv.1=k))=true
 ·rw[mK e,mK e];exact r.repl k ry
 ·rw[mI e,mI e];exact Paired.snoc r ⟨rfl,ry⟩
theorem KV.drop{kvs:List (κ×V)}{vs:List (κ×Value)}(r:KV kvs vs)(k:κ):KV (dropK kvs k) (without vs k):=by
 unfold KV at r⊢;unfold dropK without
 induction r with
 | nil=>exact .nil
 | @cons p q ps qs h t ih=>
  obtain⟨h1,h2⟩:=h;rw[eG,eG]
  by_cases e:p.1=k
  ·have a:¬decide (p.1≠k)=true:=by simp[e]
   have b:¬decide (q.1≠k)=true:=by simp[h1.symm.trans e]
   rw[mI a,mI b];exact ih
  ·have e':¬q.1=k:=fun z=>e (h1.trans z)
   have a:decide (p.1≠k)=true:=by simp[e]
   have b:decide (q.1≠k)=true:=by simp[e']
   rw[mK a,mK b];exact .cons ⟨h1,h2⟩ ih
theorem KV.keys{kvs:List (κ×V)}{vs:List (κ×Value)}(r:KV kvs vs):kvs.map (·.1)=vs.map (·.1):=by
 unfold KV at r
 induction r with
 | nil=>rfl
 | cons h t ih=>rw[mY,mY,ih,h.1]
theorem KV.length{kvs:List (κ×V)}{vs:List (κ×Value)}(r:KV kvs vs):kvs.length=vs.length:=Paired.length r
theorem zVa(kvs:List (κ×V))(k:κ):(dropK kvs k).length≤kvs.length:=List.length_filter_le _ _
end
theorem zDi{P:Program}{w:World}{k:Key}{u:Value}(r:RelV (kV k) u):(yL P w).is k u=true:=by
 cases k with
 | inl i=>obtain⟨t,e⟩:=(show∃t,u=Value.int i t from r);subst e;exact zJl P w i t
 | inr x=>obtain⟨t,e⟩:=(show∃t,u=Value.str x t from r);subst e;exact zIi P w x t
theorem zEu{P:Program}{w:World}:∀{ks:List Key}{us:List Value},Vals (ks.map kV) us→ItemsAre (yL P w) ks us
 | [],_,r=>by rw[rT] at r;cases r;exact .nil
 | k::ks,_,r=>by
  rw[mY] at r
  cases r with
  | cons h t=>exact .cons (zDi h) (zEu t)
abbrev KT(H:Hp):List (List Key×V)→List (List Key×Addr×Value)→Prop:=Paired fun p q=>p.1=q.1∧H q.2.1=some (.tup (p.1.map kV))∧RelV p.2 q.2.2
theorem KT.val{H:Hp}{kvs:List (List Key×V)}{xs:List (List Key×Addr×Value)}(r:KT H kvs xs)(k:List Key):RelO (qL kvs k) ((atKey xs k).map (·.2)):=by
 induction r with
 | nil=>exact mN
 | @cons p q ps qs h t ih=>
  obtain⟨h1,_,h2⟩:=h
  by_cases e:p.1=k
  ·have e':q.1=k:=h1.symm.trans e
   have b:atKey (q::qs) k=some q.2:=by simp[atKey,aU,e']
   rw[zAa e,b];exact h2
  ·have e':¬q.1=k:=fun z=>e (h1.trans z)
   have b:atKey (q::qs) k=atKey qs k:=by simp[atKey,aU,e']
   rw[kM e,b];exact ih
theorem KT.repl{H:Hp}{kvs:List (List Key×V)}{xs:List (List Key×Addr×Value)}(r:KT H kvs xs)(k:List Key){y:V}{u:Value}(ry:RelV y u):
  KT H (kvs.map fun kv=>if kv.1=k then(kv.1,y) else kv) (xs.map (putAt k u)):=by
 induction r with
 | nil=>exact .nil
 | @cons p q ps qs h t ih=>
  rw[mY,mY];refine .cons ?_ ih;obtain⟨h1,h2,h3⟩:=h;unfold putAt
  by_cases e:p.1=k
  ·rw[mK e,mK (h1.symm.trans e)];exact⟨h1,h2,ry⟩
  ·rw[mI e,mI (fun z=>e (h1.trans z))];exact⟨h1,h2,h3⟩
theorem KT.put{H:Hp}{kvs:List (List Key×V)}{xs:List (List Key×Addr×Value)}(r:KT H kvs xs)(k:List Key){b:Addr}{y:V}{u:Value}(hb:H b=some (.tup (k.map kV)))(ry:RelV y u):
  KT H (vP kvs k y) (storedH xs k b u):=by
 have e:(kvs.any fun kv=>decide (kv.1=k))=(atKey xs k).isSome:=by
  rw[uK,(r.val k).isSome_eq,Option.isSome_map]
 unfold vP storedH;rw[e]
 by_cases q:(atKey xs k).isSome=true
 ·rw[mK q,mK q];exact r.repl k ry
 ·rw[mI q,mI q];exact Paired.snoc r ⟨rfl,hb,ry⟩
theorem KT.keeps{H H':Hp}{kvs:List (List Key×V)}{xs:List (List Key×Addr×Value)}(r:KT H kvs xs)(ht:∀b ys,H b=some (.tup ys)→H' b=some (.tup ys)):KT H' kvs xs:=
 Paired.mapP r fun _ _ z=>⟨z.1,ht _ _ z.2.1,z.2.2⟩
section
variable{P:Program}{w:World}{H:Hp}{h:Heap}{a:Addr}
theorem zYp{u:HO}(ok:HOk P w H h)(e:Rd H a u):ObjOk P w H h a u:=e.ok ok
theorem qU{kvs:List (Key×V)}(ok:HOk P w H h)(e:Rd H a (.dK kvs)):kvs.length≤sizeLine∧(a==sysModules)=false∧∃vs,KV kvs vs∧h.DictOf (yL P w) a vs:=
 show ObjOk P w H h a (.dK kvs) from zYp ok e
theorem zUz{kvs:List (Key×V)}(ok:HOk P w H h)(e:H a=some (.dK kvs)):kvs.length≤sizeLine∧(a==sysModules)=false∧∃vs,KV kvs vs∧h.DictOf (yL P w) a vs:=qU ok (.inl e)
theorem zHl{ks:List Key}(ok:HOk P w H h)(e:H a=some (.tup (ks.map kV))):(tupleKind (yL P w)).is h ks a:=by
 obtain⟨_,its,r,o,h1,h2,n,h3⟩:=(show ObjOk P w H h a (.tup (ks.map kV)) from ok a _ e);exact⟨o,its.toArray,n,h1,h2,h3,by simpa using zEu r⟩
theorem zJk{kvs:List (List Key×V)}(ok:HOk P w H h)(e:Rd H a (.dT kvs)):kvs.length≤sizeLine∧(a==sysModules)=false∧
  ∃xs,KT H kvs xs∧h.DictOfH (tupleKind (yL P w)) a xs:=by
 obtain⟨z,y,xs,r,o,es,ep,h1,h2,h3,h4,h5⟩:=(show ObjOk P w H h a (.dT kvs) from zYp ok e);refine⟨z,y,xs,r,o,es,ep,h1,h2,h3,h4,fun x hx=>?_,h5⟩;have all:∀{l:List (List Key×V)}{m:List (List Key×Addr×Value)},KT H l m→∀x∈m,(tupleKind (yL P w)).is h x.1 x.2.1:=by
  intro l m q
  induction q with
  | nil=>intro x hx;exact nomatch hx
  | @cons p q ps qs hq t ih=>
   intro x hx;rcases mG.mp hx with e | hx
   ·subst e
    exact zHl ok (by rw[←hq.1];exact hq.2.1)
   ·exact ih x hx
 exact all r x hx
theorem dt_of{kvs:List (List Key×V)}(ok:HOk P w H h)(e:H a=some (.dT kvs)):kvs.length≤sizeLine∧(a==sysModules)=false∧
  ∃xs,KT H kvs xs∧h.DictOfH (tupleKind (yL P w)) a xs:=zJk ok (.inl e)
end
def zPz(H:Hp)(a:Addr)(y:V)(r:Option V):Prop:=
 (∃kvs k,Rd H a (.dK kvs)∧y=kV k∧r=qL kvs k)∨∃kvs k b,Rd H a (.dT kvs)∧y= .ref b∧H b=some (.tup (k.map kV))∧r=qL kvs k
def DPut(H:Hp)(a:Addr)(y v:V)(H':Hp):Prop:=
 (∃kvs k,H a=some (.dK kvs)∧y=kV k∧kvs.length<sizeLine∧H'=upd H a (.dK (vP kvs k v)))∨
 ∃kvs k b,H a=some (.dT kvs)∧y= .ref b∧H b=some (.tup (k.map kV))∧kvs.length<sizeLine∧H'=upd H a (.dT (vP kvs k v))
theorem DPut.k{H:Hp}{a:Addr}{kvs:List (Key×V)}{k:Key}{v:V}(e:H a=some (.dK kvs))(hl:kvs.length<sizeLine):DPut H a (kV k) v (upd H a (.dK (vP kvs k v))):=.inl ⟨kvs,k,e,rfl,hl,rfl⟩
section
variable{X:Cx}{pins:List (Addr×Obj)}{σ:St}{H:Hp}{s:Shared}{a:Addr}{y v:V}{u r:Value}{o:Option V}{A:Around}{E:Value→Shared→Prop}
theorem Inv.big(I:Inv X pins σ H s):sysModules<s.heap.objs.size:=by
 have h:mainGlobals<s.heap.objs.size:=(I.mod.glob.keeps I.bk).lt;exact cX (by decide) h
theorem zOn{Q:Value→Shared→Prop}(hu:A.units+1<cLine)(I:Inv X pins σ H s)(g:zPz H a y (some v))(ry:RelV y u)(h:∀w' s',Inv X pins σ H s'→RelV v w'→Q w' s'):
  wpAny (model X.prog X.w) A (getItem (.ref a) u) Q E s:=by
 rcases g with⟨kvs,k,e,ey,l⟩|⟨kvs,k,b,e,ey,eb,l⟩
 ·subst ey
  obtain⟨z,hd,vs,rel,dd⟩:=qU I.hok e;obtain⟨w',hw,rw'⟩:=RelO.some_of (v:=v) (o:=valueAt vs k) (by rw[l];exact rel.val k);exact wpAny_getItem_of (zDi ry) dd.mapOf hw (h w' _ (I.tok _) rw')
 ·subst ey
  cases (show u=Value.ref b from ry);obtain⟨z,hd,xs,rel,dd⟩:=zJk I.hok e;obtain⟨w',hw,rw'⟩:=RelO.some_of (v:=v) (o:=(atKey xs k).map (·.2)) (by rw[l];exact rel.val k);obtain⟨p,hp,hp2⟩:=Option.map_eq_some_iff.mp hw;refine wpAny_getItem_heap (dP hu) (zHl I.hok eb) dd hp ?_;rw[hp2];exact h w' _ (I.tok _) rw'
theorem d_in{Q:Value→Shared→Prop}(hu:A.units+1<cLine)(I:Inv X pins σ H s)(g:zPz H a y o)(ry:RelV y u)(h:∀s',Inv X pins σ H s'→Q (.bool o.isSome) s'):
  wpAny (model X.prog X.w) A (compareOp .In u (.ref a)) Q E s:=by
 rcases g with⟨kvs,k,e,ey,l⟩|⟨kvs,k,b,e,ey,eb,l⟩
 ·subst ey
  obtain⟨z,hd,vs,rel,dd⟩:=qU I.hok e;refine wpAny_in_of (zDi ry) hd dd.mapOf ?_;rw[←(rel.val k).isSome_eq,←l];exact h _ (I.tok _)
 ·subst ey
  cases (show u=Value.ref b from ry);obtain⟨z,hd,xs,rel,dd⟩:=zJk I.hok e;refine wpAny_in_heap (dP hu) (zHl I.hok eb) hd dd ?_;have q:=(rel.val k).isSome_eq;rw[Option.isSome_map] at q;rw[←q,←l];exact h _ (I.tok _)
theorem zBu{h':Heap}{t':Nat}{ob:HO}(I:Inv X pins σ H s)(mu:Mut (H a))(hs:Heap.SameBut a s.heap h')(he:∃q,h'.get? a=some q)(new:ObjOk X.prog X.w (upd H a ob) h' a ob):
  Inv X pins σ (upd H a ob) {s with heap:=h',toks:=t'}:=
 I.write (x:=a) (e:=a) mu (.inl rfl) (fun b q hb z=>(hs.2 b hb).trans z) he new
theorem zGr{P:Program}{w:World}{H':Hp}{h':Heap}{kvs:List (Key×V)}{vs:List (Key×Value)}(z:kvs.length≤sizeLine)(hd:(a==sysModules)=false)(rel:KV kvs vs)(dd:h'.DictOf (yL P w) a vs):
  ObjOk P w H' h' a (.dK kvs):=⟨z,hd,vs,rel,dd⟩
theorem zPl{H':Hp}{Q:Unit→Shared→Prop}(hu:A.units+1<cLine)(I:Inv X pins σ H s)(g:DPut H a y v H')(ry:RelV y u)(rv:RelV v r)(h:∀s',Inv X pins σ H' s'→Q () s'):
  wpAny (model X.prog X.w) A (setItem (.ref a) u r) Q E s:=by
 rcases g with⟨kvs,k,e,ey,l,eH⟩|⟨kvs,k,b,e,ey,eb,l,eH⟩
 ·subst ey eH
  obtain⟨z,hd,vs,rel,dd⟩:=zUz I.hok e;have hz:vs.length≤sizeLine:=by rw[←rel.length];exact z
  have hl:(vP kvs k v).length≤sizeLine:=by have:=jZ kvs k v;lia
  refine wpAny_setItem_pairs (hsz:=hz) (zDi ry) dd fun h' dd' hs=>h _ ?_;have he:∃q,h'.get? a=some q:=let ⟨q,_,_,hq,_⟩:=dd';⟨q,hq⟩;exact zBu I (by rw[e];exact mN) hs he (zGr hl hd (rel.put k rv) dd')
 ·subst ey eH
  cases (show u=Value.ref b from ry);obtain⟨z,hd,xs,rel,dd⟩:=dt_of I.hok e;have hz:xs.length≤sizeLine:=by rw[←Paired.length rel];exact z
  have hl:(vP kvs k v).length≤sizeLine:=by have:=jZ kvs k v;lia
  refine wpAny_setItem_heap (hsz:=hz) (dP hu) (zHl I.hok eb) dd fun h' dd' hs=>h _ ?_;obtain⟨q,es,ep,hq,h2,h3,h4,_,h5⟩:=dd';refine zBu I (by rw[e];exact mN) hs ⟨q,hq⟩ ⟨hl,hd,_,(rel.put k eb rv).keeps fun c ys ec=>?_,q,es,ep,hq,h2,h3,h4,h5⟩;rw[zO (ne_of ec e (fun z=>nomatch z))];exact ec
end
section
variable{X:Cx}{pins:List (Addr×Obj)}{σ:St}{H:Hp}{s:Shared}{a:Addr}{kvs:List (Key×V)}{k:Key}{u:Value}{A:Around}{E:Value→Shared→Prop}
theorem d_pop{v:V}{more:List Value}{Q:Value→Shared→Prop}(I:Inv X pins σ H s)(e:H a=some (.dK kvs))(ry:RelV (kV k) u)(l:qL kvs k=some v)(hm:more= []∨∃x,more= [x])
  (h:∀w' s',Inv X pins σ (upd H a (.dK (dropK kvs k))) s'→RelV v w'→Q w' s'):wpAny (model X.prog X.w) A (call (.builtin "dict.pop") (.ref a::u::more)) Q E s:=by
 obtain⟨z,hd,vs,rel,dd⟩:=zUz I.hok e;obtain⟨w',hw,rw'⟩:=RelO.some_of (v:=v) (o:=valueAt vs k) (by rw[←l];exact rel.val k);have hp:(keyPart u).isSome=true:=by
  cases k with
  | inl i=>obtain⟨t,q⟩:=(show∃t,u=Value.int i t from ry);subst q;rfl
  | inr x=>obtain⟨t,q⟩:=(show∃t,u=Value.str x t from ry);subst q;rfl
 have ha:argsOk "dict.pop" ⟨.ref a::u::more,[]⟩:=by
  rcases hm with q |⟨x,q⟩
  ·subst q;exact PySem.F.args_dict_pop_2 _ _
  ·subst q;exact PySem.F.args_dict_pop_3 _ _ _
 refine call_meetsIn PySem.F.slot_dict_pop dd.typeIs PySem.F.entry_dict_pop ha (meets_dict_pop_there (yL X.prog X.w) a (zDi ry) more hm hp)
  ⟨vs,w',dd,by rw[←rel.length];exact z,hw,fun h' dd' hs=>h w' _ ?_ rw'⟩
 have he:∃q,h'.get? a=some q:=let ⟨q,_,_,hq,_⟩:=dd';⟨q,hq⟩;exact zBu I (by rw[e];exact mN) hs he (zGr (nN (zVa kvs k) z) hd (rel.drop k) dd')
theorem zYi{Q:Value→Shared→Prop}(I:Inv X pins σ H s)(e:Rd H a (.dK kvs))(h:∀t s',Inv X pins σ H s'→Q (.int kvs.length t) s'):wpAny (model X.prog X.w) A (call (.builtin "len") [.ref a]) Q E s:=by
 obtain⟨z,hd,vs,rel,dd⟩:=qU I.hok e;refine call_len_dict hd dd (by rw[←rel.length];rw[mU] at z;lia) ?_;rw[←rel.length];exact h _ _ (I.tok _)
end
def NoSl(i:Expr):Prop:=∀ov iv,subscripted i false ov iv=operate [ov,iv] (getItem ov iv)
theorem zXp{prog:Program}{w:World}{A:Around}{E:Value→Shared→Prop}{s:Shared}{env:Env}{value slice:Expr}{pos:Pos}{T id:String}{Q:Value→Shared→Prop}
  (hl:typeLookup (.type T) "__getitem__" =pure (some (.builtin id))) (hs:NoSl slice)
  (h:wpAny (model prog w) A (eval value env) (fun o s₁=>wpAny (model prog w) A (eval slice env) (fun i s₂=>s₂.TypeIs o T∧wpAny (model prog w) A (getItem o i) Q E s₂) E s₁) E s):
  wpAny (model prog w) A (eval (.Subscript value slice pos) env) Q E s:=by
 refine Subscript_ (rF h (fun o s₁ h₁=>rF h₁ (fun i s₂ h₂=>?_) fun _ _ x=>x) fun _ _ x=>x);obtain⟨hT,h₂⟩:=h₂;unfold subscriptTail;refine mC ?_;rw[getitemInPython_of_ne hT.not_modules];refine mC (wpAny_specialOf hT hl ?_);have fin:wpAny (model prog w) A (subscripted slice false o i) (fun r s₃=>wpAny (model prog w) A (letTemporaryGo value o r>>=fun _=>pure r) Q E s₃) E s₂:=by
  rw[hs o i];exact wpAny_operating (rF h₂ (fun r s₃ h₃=>mC (wpAny_letTemporaryGo (mM h₃))) fun _ _ x=>x)
 first
  | exact mM (mC fin)
  | exact mC (mM (mC fin))
  | exact mC fin
theorem zKd{X:Cx}{pins:List (Addr×Obj)}{σ:St}{H:Hp}{s:Shared}{a:Addr}{y:V}{o:Option V}(I:Inv X pins σ H s)(g:zPz H a y o):s.TypeIs (.ref a) "dict":=by
 rcases g with⟨kvs,k,e,_,_⟩|⟨kvs,k,b,e,_,_,_⟩
 ·obtain⟨_,_,vs,_,dd⟩:=qU I.hok e
  exact dd.typeIs
 ·obtain⟨_,_,xs,_,dd⟩:=zJk I.hok e
  exact dd.typeIs
def zMy(td ty:TE):TE:=fun σ H Q=>td σ H fun x H1=>ty σ H1 fun y H2=>∃a v,x= .ref a∧zPz H2 a y (some v)∧Q v H2
def tDIn(ty td:TE):TE:=fun σ H Q=>ty σ H fun y H1=>td σ H1 fun x H2=>∃a o,x= .ref a∧zPz H2 a y o∧Q (.bl o.isSome) H2
def zSp(td ty tv:TE):TS:=fun D σ H=>tv σ H fun v H1=>td σ H1 fun x H2=>ty σ H2 fun y H3=>∃a H4,x= .ref a∧DPut H3 a y v H4∧D.nx σ H4
section
variable{X:Cx}{o i e value:Expr}{pos pos' tpos:Pos}{td ty tv:TE}
theorem jM(hu:X.A.units+1<cLine)(ho:PE X o td)(hi:PE X i ty)(hs:NoSl i):PE X (.Subscript o i pos) (zMy td ty):=by
 intro pins s σ H Q I h;refine zXp PySem.F.slot_dict_getitem.lookup hs (thn (ho pins s σ H _ I h) fun u s1 ⟨x,H1,I1,rx,q1⟩=>thn (hi pins s1 σ H1 _ I1 q1) fun iv s2 ⟨y,H2,I2,ry,a,v,ex,g,q2⟩=>?_);subst ex;obtain rfl:u=Value.ref a:=rx;exact⟨zKd I2 g,zOn hu I2 g ry fun w' s3 I3 rw'=>⟨v,H2,I3,rw',q2⟩⟩
theorem zUq(hu:X.A.units+1<cLine)(hi:PE X i ty)(ho:PE X o td):PC X .In i o (tDIn ty td):=by
 intro pins s σ H Q I h;refine thn (hi pins s σ H _ I h) fun iv s1 ⟨y,H1,I1,ry,q1⟩=>thn (ho pins s1 σ H1 _ I1 q1) fun u s2 ⟨x,H2,I2,rx,a,ov,ex,g,q2⟩=>?_;subst ex;obtain rfl:u=Value.ref a:=rx;exact d_in hu I2 g ry fun s3 I3=>⟨.bl ov.isSome,H2,I3,rfl,q2⟩
theorem zFy(hu:X.A.units+1<cLine)(ho:PE X o td)(hi:PE X i ty)(hv:PE X value tv)(hs:swapsWith value (some (.Subscript o i pos')) pos.line X.env=pure false):
  PS X (.Assign [.Subscript o i pos'] value pos) (zSp td ty tv):=by
 intro pins s σ H D I h;refine wpAny_Assign_Subscript (thn (hv pins s σ H _ I h) fun r s1 ⟨v,H1,I1,rv,q1⟩=>thn (ho pins s1 σ H1 _ I1 q1) fun u s2 ⟨x,H2,I2,rx,q2⟩=>thn (hi pins s2 σ H2 _ I2 q2) fun iv s3 ⟨y,H3,I3,ry,a,H4,ex,g,q3⟩=>?_) hs;subst ex;obtain rfl:u=Value.ref a:=rx;exact zPl hu I3 g ry rv fun s4 I4=>⟨σ,H4,I4,q3⟩
end
theorem zIt{P:Program}{w:World}{H:Hp}(h:Heap)(hb:sysModules<h.objs.size):ObjOk P w H (h.push {cls:=.type "dict",data:=.dict #[]}) h.objs.size (.dK []):=
 ⟨pB _,sX.mpr (Ne.symm (nL hb)),[], .nil,Heap.DictOf.new h⟩
def zMn:TE:=fun _ H Q=>∀p,H p=none→Q (.ref p) (upd H p (.dK []))
section
variable{X:Cx}{pos:Pos}
theorem zDe:PE X (.Dict [] [] pos) zMn:=fun pins s σ H Q I h=>
 wpAny_Dict_empty ⟨.ref s.heap.objs.size,_,I.laid (a:=s.heap.objs.size) (o:=.dK []) (t':=s.toks) (fun _ _ q=>mE _ q) (mD _) (zIt s.heap I.big),rfl,h _ (I.hok.fresh (mD _))⟩
end
def zDu:List (TE×TE)→St→Hp→(List (V×V)→Hp→Prop)→Prop
 | [],_,H,Q=>Q [] H
 |(tk,tv)::r,σ,H,Q=>tk σ H fun x H1=>tv σ H1 fun y H2=>zDu r σ H2 fun ps H3=>Q ((x,y)::ps) H3
abbrev VV:List (V×V)→List (Value×Value)→Prop:=Paired fun p q=>RelV p.1 q.1∧RelV p.2 q.2
def PPs(X:Cx)(pos:Pos)(keys:List (Option Expr))(values:List Expr)(trs:List (TE×TE)):Prop:=
 ∀(pins:List (Addr×Obj))(s:Shared)(σ:St)(H:Hp)(Q:List (V×V)→Hp→Prop),Inv X pins σ H s→zDu trs σ H Q→
  wpAny (model X.prog X.w) X.A (evalPairs (pairTrees keys values X.env pos)) (fun vs s'=>∃ps H',Inv X pins σ H' s'∧VV ps vs∧Q ps H') X.xe s
theorem zWr{X:Cx}{pos:Pos}:PPs X pos [] [] []:=fun pins s σ H Q I h=>pairTrees_nil_walk ⟨[],H,I, .nil,h⟩
theorem zSc{X:Cx}{pos:Pos}{k v:Expr}{ks:List (Option Expr)}{vs:List Expr}{tk tv:TE}{trs:List (TE×TE)}(hk:PE X k tk)(hv:PE X v tv)(hr:PPs X pos ks vs trs):
  PPs X pos (some k::ks) (v::vs) ((tk,tv)::trs):=fun pins s σ H Q I h=>
 pairTrees_cons_walk (thn (hk pins s σ H _ I h) fun u s1 ⟨x,H1,I1,rx,q1⟩=>thn (hv pins s1 σ H1 _ I1 q1) fun w2 s2 ⟨y,H2,I2,ry,q2⟩=>
  thn (hr pins s2 σ H2 _ I2 q2) fun ws s3 ⟨ps,H3,I3,rel,q3⟩=>⟨(x,y)::ps,H3,I3, .cons ⟨rx,ry⟩ rel,q3⟩)
def vE(kvs more:List (Key×V)):List (Key×V):=more.foldl (fun acc kv=>vP acc kv.1 kv.2) kvs
theorem KV.merge:∀{more:List (Key×V)}{rs:List (Key×Value)}{kvs:List (Key×V)}{vs:List (Key×Value)},KV more rs→KV kvs vs→KV (vE kvs more) (merged vs rs):=by
 intro more rs kvs vs r;unfold KV at r
 induction r generalizing kvs vs with
 | nil=>intro q;exact q
 | @cons p q ps qs h t ih=>
  intro r0;have e:KV (vP kvs p.1 p.2) (stored vs q.1 q.2):=by
   have:=r0.put p.1 h.2;rw[←h.1];exact this
  exact ih e
theorem qS:∀(more kvs:List (Key×V)),(vE kvs more).length≤kvs.length+more.length
 | [],kvs=>by show kvs.length≤kvs.length+0;lia
 | p::r,kvs=>by
  have h1:=qS r (vP kvs p.1 p.2);have h2:=jZ kvs p.1 p.2;show(vE (vP kvs p.1 p.2) r).length≤_;rw[mS];lia
theorem zDb{P:Program}{w:World}:∀{kvs:List (Key×V)}{ws:List (Value×Value)},VV (kvs.map fun kv=>(kV kv.1,kv.2)) ws→∃rs,Carries (yL P w) ws rs∧KV kvs rs
 | [],_,r=>by rw[rT] at r;cases r;exact⟨[],mN, .nil⟩
 | p::kvs,_,r=>by
  rw[mY] at r
  cases r with
  | @cons a b as bs h t=>
   obtain⟨rs,c,q⟩:=zDb (P:=P) (w:=w) t;obtain⟨b1,b2⟩:=b;exact⟨(p.1,b2)::rs,⟨zDi h.1,rfl,c⟩, .cons ⟨rfl,h.2⟩ q⟩
def zQw(trs:List (TE×TE)):TE:=fun σ H Q=>∀p,H p=none→zDu trs σ (upd H p (.dK [])) fun ps H2=>H2 p=some (.dK [])∧∃kvs:List (Key×V),ps=kvs.map (fun kv=>(kV kv.1,kv.2))∧kvs.length≤15∧Q (.ref p) (upd H2 p (.dK (vE [] kvs)))
theorem zXk{X:Cx}{pos:Pos}{keys:List (Option Expr)}{values:List Expr}{trs:List (TE×TE)}(h:PPs X pos keys values trs)(hall:keys.all (·.isSome)=true)(hl:keys.length=values.length)(h0:keys≠ [])
  (h15:keys.length≤15):PE X (.Dict keys values pos) (zQw trs):=by
 intro pins s σ H Q I q;have hn:=I.hok.fresh (mD s.heap.objs.size);have I1:=I.laid (a:=s.heap.objs.size) (o:=.dK []) (h':=s.heap.push {cls:=.type "dict",data:=.dict #[]}) (t':=s.toks) (fun _ _ q=>mE _ q) (mD _) (zIt s.heap I.big);refine wpAny_Dict_walk (knd:=yL X.prog X.w) hall hl h0 h15 (thn (h pins _ σ _ _ I1 (q _ hn)) fun ws s2 ⟨ps,H2,I2,rel,e,kvs,ep,lk,q2⟩=>?_);subst ep;obtain⟨rs,c,rk⟩:=zDb (P:=X.prog) (w:=X.w) rel;obtain⟨z,hd,vs0,r0,dd⟩:=zUz I2.hok e;cases r0;refine⟨rs,c,dd,fun h' dd' hs=>⟨.ref s.heap.objs.size,_, ?_,rfl,q2⟩⟩;have hz:(vE [] kvs).length≤sizeLine:=by
  have h1:=qS kvs [];rw[nX] at h1;rw[mU];lia
 have he:∃q,h'.get? s.heap.objs.size=some q:=let ⟨q,_,_,hq,_⟩:=dd';⟨q,hq⟩;exact zBu I2 (by rw[e];exact mN) hs he (zGr hz hd (rk.merge .nil) dd')
structure M1(X:Cx)(o:Expr)(m:Str)(apos:Pos)(e:Expr)(cpos:Pos):Prop where
 base:attributeBase o m X.env (eval o X.env)=eval o X.env
 few:((backTo cpos (starEach [e] X.env)).all (fun x=>!x.1)&& (backToKw cpos (keywordEach [] X.env)).all (fun x=>x.1.isSome)
  && decide (([e]:List Expr).length+([]:List Keyword).length+(if([]:List Keyword).isEmpty then 0 else 1)<30))=true
 line:(apos.endLine==cpos.line)=true
 trees:backTo cpos (starEach [e] X.env)= [(false,eval e X.env)]
structure M2(X:Cx)(o:Expr)(m:Str)(apos:Pos)(e f:Expr)(cpos:Pos):Prop where
 base:attributeBase o m X.env (eval o X.env)=eval o X.env
 few:((backTo cpos (starEach [e,f] X.env)).all (fun x=>!x.1)&& (backToKw cpos (keywordEach [] X.env)).all (fun x=>x.1.isSome)
  && decide (([e,f]:List Expr).length+([]:List Keyword).length+(if([]:List Keyword).isEmpty then 0 else 1)<30))=true
 line:(apos.endLine==cpos.line)=true
 trees:backTo cpos (starEach [e,f] X.env)= [(false,eval e X.env),(false,eval f X.env)]
def IsD(H:Hp)(a:Addr):Prop:=(∃kvs,Rd H a (.dK kvs))∨∃kvs,Rd H a (.dT kvs)
theorem zZe{X:Cx}{pins:List (Addr×Obj)}{σ:St}{H:Hp}{s:Shared}{a:Addr}(I:Inv X pins σ H s)(d:IsD H a):
  s.TypeIs (.ref a) "dict"∧(∀b,Value.ref a= .ref b→∃ob,s.heap.get? b=some ob∧ob.dict=none)∧(a==sysModules)=false:=by
 rcases d with⟨kvs,e⟩|⟨kvs,e⟩
 ·obtain⟨_,hd,vs,_,dd⟩:=qU I.hok e
  refine⟨dd.typeIs,fun b q=>?_,hd⟩;cases q;obtain⟨ob,_,_,h1,h2,_⟩:=dd;exact⟨ob,h1,h2.2.1⟩
 ·obtain⟨_,hd,xs,_,dd⟩:=zJk I.hok e
  refine⟨dd.typeIs,fun b q=>?_,hd⟩;cases q;obtain⟨ob,_,_,h1,h2,_⟩:=dd;exact⟨ob,h1,h2.2.1⟩
section
variable{X:Cx}{pins:List (Addr×Obj)}{σ:St}{H:Hp}{s:Shared}{a:Addr}{y d:V}{u r:Value}{o:Option V}{A:Around}{E:Value→Shared→Prop}
end
def yBu(td ty:TE):TE:=fun σ H Q=>td σ H fun x H1=>∃a,x= .ref a∧IsD H1 a∧ty σ H1 fun y H2=>∃kvs k v,H2 a=some (.dK kvs)∧y=kV k∧qL kvs k=some v∧Q v (upd H2 a (.dK (dropK kvs k)))
section
variable{X:Cx}{o e f:Expr}{apos cpos:Pos}{td ty tx:TE}
theorem zVh(ho:PE X o td)(he:PE X e ty)(m:M1 X o "pop" apos e cpos):PE X (.Call (.Attribute o "pop" apos) [e] [] cpos) (yBu td ty):=by
 intro pins s σ H Q I h;refine wpAny_Call_method m.base m.few m.line aJ PySem.F.slot_dict_pop PySem.F.type_dict_pop (thn (ho pins s σ H _ I h) fun u s1 ⟨x,H1,I1,rx,a,ex,d,q1⟩=>?_);subst ex;obtain rfl:u=Value.ref a:=rx;obtain⟨t1,t2,_⟩:=zZe I1 d;refine⟨t1,t2, ?_⟩;rw[m.trees];refine tK rfl (cW (bP (thn (he pins s1 σ H1 _ I1 q1) fun iv s2 ⟨y,H2,I2,ry,kvs,k,v,ea,ey,l,q2⟩=>eA ?_)));subst ey;exact d_pop I2 ea ry l (.inl rfl) fun w' s3 I3 rw'=>⟨v,_,I3,rw',q2⟩
end
section
variable{X:Cx}{pins:List (Addr×Obj)}{σ:St}{H:Hp}{s:Shared}{a:Addr}{kvs:List (Key×V)}{A:Around}{E:Value→Shared→Prop}
end
section
variable{X:Cx}{pins:List (Addr×Obj)}{σ:St}{H:Hp}{s:Shared}{a:Addr}{y:V}{u:Value}{A:Around}{E:Value→Shared→Prop}
end
end L2
namespace Att
open PySem PySem.W PySem.Calls PyProof.Rows
theorem zBf{P:Params}{h:Heap}:∀(ns:List Int)(vs:List Value),WellAll P h vs (ns.map WData.int)→IntsAre vs ns:=by
 intro ns
 induction ns with
 | nil=>
  intro vs w;rw[List.map_nil] at w;cases w;exact .nil
 | cons n ns ih=>
  intro vs w;rw[List.map_cons] at w
  cases w with
  | cons a b=>
   cases a;exact .cons _ _ (ih _ b)
theorem zOx{l:OpenLaw}{n:Nat}(hn:l.most=some n){P:Params}{h:Heap}{args:List WData}{vals:List Value}
  (hpre:l.row.toRowW.claim.pre args=true) (hwl:WellAll P h vals args):
  ∃a vs ns,vals= [Value.ref a]∧args= [WData.list (ns.map WData.int)]∧h.get? a=some {cls:=.type "list",data:=.seq vs.toArray}∧IntsAre vs ns∧ns.length≤n:=by
 have hsh:WShape.hasAll [] args [.list .int]=true:=(pre_splitW hpre).1;have hc:l.pre.holds [] {args:=args}=true:=(pre_splitW hpre).2;obtain⟨d,r,rfl,h1,h2⟩:=hasAllW_cons hsh;obtain rfl:=hasAllW_nil h2;obtain⟨xs,rfl,h3⟩:=hasW_list h1;obtain⟨ns,rfl⟩:=items_int h3;have hlen:ns.length≤n:=by
  unfold OpenLaw.pre at hc;have h4:(WTm.not (.lt (.lit (.int (n:Int))) (.len (.arg 0)))).holds [] {args:=[.list (ns.map .int)]}=true:=by
   have h4:=(holds_andW hc).1;rw[hn] at h4;exact h4
  have h5:=condW_of h4 (w_not (w_lt w_lit (w_len_list (w_arg rfl))));rw[List.length_map] at h5;refine Nat.le_of_not_lt fun q=>?_;have q':(n:Int)<((ns.length:Nat):Int):=by lia
  first
   |(rw[decide_eq_true q'] at h5;exact absurd h5 (by decide))
   |(simp at h5;lia)
 cases hwl with
 | cons w1 w2=>
  cases w2
  cases w1 with
  | list ho hall=>exact⟨_,_,ns,rfl,rfl,ho,zBf ns _ hall,hlen⟩
theorem zPx(l:OpenLaw)(args:List WData):l.row.toRowW.claim.post args (.bool true) args=true:=
 postW_of (r:=l.row.toRowW) (X:=(true==true))
  (show WShape.has [] (.bool true) .bool=true by first | rfl | decide | simp[WShape.has,WShape.arms,WShape.armsAll])
  (show(WTm.eq .res (.lit (.bool true))).value [] {args:=args,res:=some (.bool true),after:=args}=some (.bool (true==true)) from w_eq_bool (w_res rfl) w_lit) rfl
theorem attach_call{l:OpenLaw}{n:Nat}{q:Program}{loose:List Str}{XP:(Str→Option Value)→Heap→Prop}{YP:World→Heap→Prop}{d:DefRec}
  (hn:l.most=some n) (hdf:d.params.defaults= [])
  (call:∀(w:World)(s₀ s₁:Shared)(mg mb:Str→Option Value)(fa:Addr)(o:Obj)(pm cd doc:Value)(a:Addr)(vs:List Value)(ns:List Int),
   Ground q loose [] XP w s₀ mg mb s₁.heap→YP w s₁.heap→
   s₁.heap.get? fa=some o→o.data= .func (docDef d.name d.params d.body d.scope pm cd doc)→s₁.heap.CodeRec cd d.name→mg d.name=some (.ref fa)→
   s₁.heap.get? a=some {cls:=.type "list",data:=.seq vs.toArray}→IntsAre vs ns→ns.length≤n→s₁.gens= #[]→
   codeAny (model l.prog w) callerA (.call (.ref fa) ⟨[.ref a],[]⟩) (fun r s'=>r= .ok (.ret (.bool true))∧OldK s₁.heap s'.heap∧s'.os=s₁.os∧AllBare s'.gens) s₁):
  WalkO q loose XP YP l.row.toRowW d [] (fun f vs=>PySem.call f vs):=by
 intro w s₀ s₁ mg mb G Y fa o pm cd doc dV kV ho hd hcd hD hmg hg args vals as hpre hlay hrd hwl hlo;obtain rfl:dV= .none:=Dflts.none hD hdf;obtain rfl:kV= .none:=Dflts.noKw hD;obtain⟨a,vs,ns,rfl,rfl,hobj,hints,hlen⟩:=zOx hn hpre hwl;refine enter_call (codeAny_mono (call w s₀ s₁ mg mb fa o pm cd doc a vs ns G Y ho (fd_plain hd) hcd hmg hobj hints hlen hg) fun r s' hq=>?_);obtain⟨rfl,h2,h3,h4⟩:=hq;exact⟨.inl ⟨.bool true, .bool true,[],rfl,fun _=>rfl, .bool true,zPx l _,fun _=>⟨List.Pairwise.nil,fun _ hm=>(nomatch hm)⟩⟩,h2,h3,h4⟩
section
variable{prog:Program}{w:World}{A:Around}{E:Value→Shared→Prop}{s:Shared}{K:Frag}
end
end Att
namespace L2
open PySem PySem.Spec PyProof.Rows
theorem zFu:∀{vs:List Value}{ns:List Int},IntsAre vs ns→Vals (ns.map V.int) vs
 | _,_, .nil=>.nil
 | _,_, .cons n t h=>.cons ⟨t,rfl⟩ (zFu h)
def yCw(H:Hp):Prop:=∀b,H b=none∨∃o xs,H b=some (.frz o (.lst xs))
theorem zQl{P:Program}{w:World}{K:W.Frag}{mg mb:Str→Option Value}{CX:CXT}{k:Nat}{fa a:Addr}{fd:FuncData}{x:Str}{sp:Sp}{s₁:Shared}{vs:List Value}{ns:List Int}
  (KX:K.In s₁.heap) (hns:s₁.heap.Ns mainGlobals mg) (hb:s₁.heap.Ns builtinsNs mb) (hbb:∀x:Str,x≠ "__name__"→mb x=bootBuiltins x) (hlim:s₁.heap.NoLimit) (hg:s₁.gens= #[])
  (ha:s₁.heap.get? a=some {cls:=.type "list",data:=.seq vs.toArray}) (hi:IntsAre vs ns) (hl:ns.length≤sizeLine) (hr:Room k callerA)
  (F:∀base:Heap,K.In base→base.Ns mainGlobals mg→FnOk P w K mg base CX k fa fd [x] sp) (hbind:∀(s:Shared)(u:Value),BindsTo s fd ⟨[u],[]⟩ [(x,u)])
  (hsp:∀H:Hp,yCw H→SqL K H a (ns.map V.int)→sp [.ref a] H (fun v _=>v= .bl true) fun _ _ _=>False)
  (hCX:∀H e s',CX [] H s₁ (fun _ _ _=>False) e s'→False):
  codeAny (model P w) callerA (.call (.ref fa) ⟨[.ref a],[]⟩) (fun r s'=>r= .ok (.ret (.bool true))∧OldK s₁.heap s'.heap∧s'.os=s₁.os∧AllBare s'.gens) s₁:=by
 have rv:=zFu hi;have lenV:=hi.length
 -- from an abstract heap in which nothing but the script may be tracked
 have core:∀H:Hp,yCw H→SqL K H a (ns.map V.int)→HOk P w H s₁.heap→(∀b,H b≠none→b=a)→(H a≠none→K.lookup a=none)→
   codeAny (model P w) callerA (.call (.ref fa) ⟨[.ref a],[]⟩) (fun r s'=>r= .ok (.ret (.bool true))∧OldK s₁.heap s'.heap∧s'.os=s₁.os∧AllBare s'.gens) s₁:=by
  intro H hO hS hok hA hK;have base_of:∀{b:Addr}{o:Obj},s₁.heap.get? b=some o→H b=none→(zGo s₁.heap H).get? b=some o:=fun e n=>zSu e n;have noA:∀{b:Addr}{o:Obj}{es:Array DictEntry}{ep:Nat},s₁.heap.get? b=some o→o.data= .dict es ep→H b=none:=fun {b o es ep} e d=>by
   cases q:H b with
   | none=>rfl
   | some u=>
    have e':b=a:=hA b (by rw[q];simp);subst e';rw[ha] at e;cases e;have d':Data.seq vs.toArray _=Data.dict es ep:=d;cases d'
  have nsK:∀{b:Addr}{m:Str→Option Value},s₁.heap.Ns b m→(zGo s₁.heap H).Ns b m:=fun {b m} ⟨o,es,ep,e,d,r⟩=>⟨o,es,ep,base_of e (noA e d),d,r⟩;have hKb:K.In (zGo s₁.heap H):=fun b o e=>base_of (KX b o e) (by
   cases q:H b with
   | none=>rfl
   | some u=>
    have e':b=a:=hA b (by rw[q];simp);subst e';rw[hK (by rw[q];simp)] at e;cases e)
  have hM:Mod K mg (zGo s₁.heap H):=⟨hKb,nsK hns,⟨mb,nsK hb,hbb⟩,let ⟨mc,h1,h2⟩:=hlim;⟨mc,nsK h1,h2⟩⟩;have e0:Env0 P w K mg (zGo s₁.heap H) callerA [] s₁ H:=⟨rfl,hM,fun b o e=>zWj e,Nat.le_of_eq (zOr _ _),trivial,fun b hb=>absurd (show b∈([]:List Addr) from hb) (by simp),hok, .of_eq hg⟩;refine sH ((F _ hKb (nsK hns)).run callerA [] s₁ H ⟨[.ref a],[]⟩ [.ref a] [.ref a] _ _ hr e0 (hbind s₁ (.ref a)) (.cons rfl .nil) (hsp H hO hS)) fun r s' h=>?_
  cases r with
  | error e=>exact(hCX H e s' h).elim
  | ok fl=>
   cases fl with
   | next=>exact False.elim h
   | brk=>exact False.elim h
   | cont=>exact False.elim h
   | ret u=>
    obtain⟨v,H',os,bare,un,hok',r',q⟩:=h;have q':v= .bl true:=q;subst q';obtain rfl:u=Value.bool true:=r';refine⟨rfl,OldK.of_keep fun b o e=>?_,os,bare⟩
    cases q:H b with
    | none=>exact un.keep b o e q (by intro z;exact absurd (show b∈([]:List Addr) from z) (by simp)) (by simp)
    | some u=>
     rcases hO b with z |⟨ob,xs,z⟩
     ·rw[q] at z;cases z
     ·have z2:=un.frzs b ob _ z
      obtain⟨e1,_⟩:=hok b _ z;obtain⟨e2,_⟩:=hok' b _ z2;rw[e] at e1;cases e1;exact e2
 cases hk:K.lookup a with
 | some o=>
  -- the script is one of the module's own objects
  have e:=KX a o hk;rw[ha] at e;cases e;refine core (fun _=>none) (fun _=>.inl rfl) (.inr ⟨_,vs.toArray,_,hk,rfl,rfl,rfl,by rw[nG,lenV];exact hl,by simpa using rv⟩) (fun b u z=>by have z':(none:Option HO)=some u:=z;cases z') (fun b z=>absurd rfl z) fun z=>absurd rfl z
 | none=>
  refine core (fun b=>if b=a then some (.frz {cls:=.type "list",data:=.seq vs.toArray} (.lst (ns.map V.int))) else none) (fun b=>?_) (.inl (.inr ⟨{cls:=.type "list",data:=.seq vs.toArray},mK rfl⟩)) (fun b u z=>?_) (fun b z=>?_) fun _=>hk
  ·by_cases hb:b=a
   ·exact .inr ⟨_,_,mK hb⟩
   ·exact .inl (mI hb)
  ·by_cases hb:b=a
   ·have z':=(mK hb).symm.trans z
    cases z';subst hb;exact⟨ha,by rw[mJ];exact hl,vs,_,rv,ha⟩
   ·have z':=(mI hb).symm.trans z
    cases z'
  ·by_cases hb:b=a
   ·exact hb
   ·exact absurd (mI hb) z
abbrev KOf{K:W.Frag}{h:Heap}(_:K.In h):W.Frag:=K
theorem zOd{l:W.OpenLaw}{n k:Nat}{q:Program}{loose:List Str}{XP:(Str→Option Value)→Heap→Prop}{YP:World→Heap→Prop}{d:DefRec}{K:Params→W.Frag}{CX:World→CXT}{sp:World→Sp}{x:Str}
  (hn:l.most=some n) (hn2:n≤sizeLine) (hdf:d.params.defaults= []) (hr:Room k callerA)
  (hY:∀(w:World)(h:Heap),YP w h→(K w.params).In h)
  (F:∀(w:World)(mg:Str→Option Value)(fa:Addr)(h:Heap),(K w.params).In h→h.Ns mainGlobals mg→mg d.name=some (.ref fa)→
   ∃fd:FuncData,(∀(s:Shared)(u:Value),BindsTo s fd ⟨[u],[]⟩ [(x,u)])∧
    ∀base:Heap,(K w.params).In base→base.Ns mainGlobals mg→FnOk l.prog w (K w.params) mg base (CX w) k fa fd [x] (sp w))
  (hsp:∀(w:World)(H:Hp)(a:Addr)(ns:List Int),ns.length≤n→yCw H→SqL (K w.params) H a (ns.map V.int)→sp w [.ref a] H (fun v _=>v= .bl true) fun _ _ _=>False)
  (hCX:∀(w:World)(H:Hp)(s:Shared)(e:Value)(s':Shared),CX w [] H s (fun _ _ _=>False) e s'→False):
  W.WalkO q loose XP YP l.row.toRowW d [] (fun f vs=>PySem.call f vs):=by
 refine Att.attach_call hn hdf fun w s₀ s₁ mg mb fa o pm cd doc a vs ns G Y ho hd hcd hmg hobj hints hlen hg=>?_;have KX:=hY w _ Y;obtain⟨fd,hb,hF⟩:=F w mg fa _ KX G.T.g hmg;exact zQl KX G.T.g G.T.b G.T.builtins G.T.nolimit hg hobj hints (nN hlen hn2) hr hF hb (fun H hO hS=>hsp w H a ns hlen hO hS) fun H e s'=>hCX w H s₁ e s'
end L2
/- THE LAST THEOREM (shape;LID,My.*are yours):
   My.Adr:a structure of the addresses that your layer names (classes,functions);My.Txt K t:a structure (Prop) of the equations over K;
   My.txt_mk:{K} {implicit addresses ..} (e1:nsIn K mainGlobals "law" =some (some (.ref f))) (e2:K.lookup f=some ⟨oc,od, .func (fnOf "law" "law" params body scope dV kV doc pm an cdv ct),sl⟩) (e3:codeIn K cdv "law" =true) .. :∃t,My.Txt K t
set_option maxRecDepth 100000 in
set_option maxHeartbeats 0 in
theorem PySem.Challenge.cw_LID_holds : PySem.Challenge.rw_LID.Holds := by
  w_on;o_law;k_head;(case hw=>w_witness2)
  k_fill
  refine L2.zOd (l:=PySem.Challenge.rw_LID) (n:=63) (k:=40) (x:="script") (CX:=fun w=>..) (sp:=fun _=>My.sp_law) rfl (by decide) rfl ⟨rfl,by decide,by decide⟩ (fun w h Y=>PySem.W.kIn_of Y) ?F ?S ?C
  case F=>
    intro w mg fa h KX G hmg;have T:∃t,My.Txt (L2.KOf KX) t:=by
      dsimp only[L2.KOf]                          -- K must stand as «<heap const>w.params» for k_is;refine' My.txt_mk ?e1 ?e2 ?e3 ..
      (case e1=>PySem.W.k_is)                    -- in the order:a name ->its address ->its object ->its parts
      (case e2=>PySem.W.k_is)
      ..
    obtain⟨t,T⟩:=T;have e0:=hmg.symm.trans (PySem.W.mg_of KX G T.law);cases e0                                       -- fa is the law's own address;exact⟨_,fun s u=>.of_eq rfl,fun base kb nb=>My.law_fn T kb nb⟩     -- if «.of_eq rfl» comes too early:refine' ⟨_, ?b,fun base kb nb=>My.law_fn T kb nb⟩;exact fun s u=>.of_eq rfl
  case S=>exact fun w H a ns hl hO hS=>..
  case C=>exact ..
(the tactic k_is has no namespace:write k_is)-/
namespace L2
open PySem PySem.Spec PyProof.Rows
def xG(s:Stmt):Arguments:=match s with
 | .FunctionDef _ a _ _ _ _ _ _ _ _=>a
 | _=>{posonlyargs:=[],args:=[],vararg:=none,kwonlyargs:=[],kw_defaults:=[],kwarg:=none,defaults:=[]}
def yY(s:Stmt):List Stmt:=match s with
 | .FunctionDef _ _ b _ _ _ _ _ _ _=>b
 | _=>[]
def zH(s:Stmt):Scope:=match s with
 | .FunctionDef _ _ _ _ _ _ sc _ _ _=>sc
 | _=>{kind:=.function,names:=[],isGenerator:=false,isCoroutine:=false}
abbrev CX0:CXT:=fun _ _ _ _ _ _=>False
abbrev E0:XK:=fun _ _ _=>False
theorem zYt{X:Cx}:zAs CX0 X E0:=fun _ _ _ _ _ _ _ h=>h.elim
structure Fun(K:W.Frag)(x qual:Str)(st:Stmt)(f:Addr)(fd:FuncData):Prop where
 ex:∃(oc:Value)(od:Option Addr)(kV doc pm:Value)(an:Option Addr)(cdv ct:Value)(osl:Array (Option Value)),
  fd=W.fnOf x qual (xG st) (yY st) (zH st) .none kV doc pm an cdv ct∧K.lookup f=some ⟨oc,od, .func fd,osl⟩∧W.codeIn K cdv qual=true
 kp:W.keepIn K (.ref f)=true
section
variable{P:Program}{w:World}{K:W.Frag}{mg:Str→Option Value}{base:Heap}
theorem Fun.ok{x qual:Str}{st:Stmt}{f:Addr}{fd:FuncData}{N ps:List Str}{k:Nat}{sp:Sp}(F:Fun K x qual st f fd)(S:zP N ps (zH st))(len:∀vs H Q E,sp vs H Q E→vs.length=ps.length)
  (hbody:∀(cdv:Value)(A:Around)(outer:List Env)(s:Shared)(H:Hp)(vs:List V)(Q:VK)(E:XK),Room k (A.deeper (envOfC qual (zH st) s.heap.objs.size f cdv))→sp vs H Q E→
   ∃t,PSs (zBg CX0 P w K mg base N qual (zH st) f cdv A outer s H E).nox (yY st) t∧t {nx:=fun _ H'=>Q .non H',rt:=Q} (qH N vs) H):FnOk P w K mg base CX0 (k+1) f fd ps sp:=by
 obtain⟨oc,od,kV,doc,pm,an,cdv,ct,osl,rfl,lk,hcd⟩:=F.ex;refine zMx lk hcd S len fun A outer s H vs Q E hr hsp=>?_;obtain⟨t,h,q⟩:=hbody cdv A outer s H vs Q E hr hsp;exact⟨t,h.nox,q⟩
theorem Fun.binds{x qual:Str}{st:Stmt}{f:Addr}{fd:FuncData}{ps:List Str}(F:Fun K x qual st f fd)
  (h:∀(kV doc pm:Value)(an:Option Addr)(cdv ct:Value)(us:List Value),us.length=ps.length→bindArgs (W.fnOf x qual (xG st) (yY st) (zH st) .none kV doc pm an cdv ct) ⟨us,[]⟩=pure (ps.zip us)):Binds K fd ps []:=by
 obtain⟨oc,od,kV,doc,pm,an,cdv,ct,osl,rfl,lk,hcd⟩:=F.ex;exact .all (h kV doc pm an cdv ct)
theorem zTw{x qual:Str}{st:Stmt}{f:Addr}{oc:Value}{od an:Option Addr}{osl:Array (Option Value)}{kV doc pm cdv ct:Value}(l:K.lookup f=some ⟨oc,od, .func (W.fnOf x qual (xG st) (yY st) (zH st) .none kV doc pm an cdv ct),osl⟩)
  (c:W.codeIn K cdv qual=true) (k:W.keepIn K (.ref f)=true):Fun K x qual st f (W.fnOf x qual (xG st) (yY st) (zH st) .none kV doc pm an cdv ct):=⟨⟨oc,od,kV,doc,pm,an,cdv,ct,osl,rfl,l,c⟩,k⟩
end
theorem jC{A:Around}{k:Nat}(hr:Room k A):A.units+1<cLine:=dQ (Nat.add_le_add_left (by decide:1≤64) _) hr.units
section
variable{X:Cx}
theorem pv(i:Nat){x:Str}{pos:Pos}(hN:X.N[i]? =some x:=by rfl)(hv:Vis X.env.scope x:=by first | exact nO rfl | exact cF (nO rfl)| exact cF (cF rfl))(hd:(x==("__debug__" :Str))=false:=by decide)
  (hcd:(x==("__classdict__" :Str))=false:=by decide):PE X (.Name x pos) (zBh i):=yAu hN hv hd hcd
theorem zIl{A B:Prop}(h:B):if false=true then A else B:=by
 rw[mI mW];exact h
theorem zZo{A B:Prop}(h:A):if true=true then A else B:=by
 rw[mK rfl];exact h
def Same(H H':Hp):Prop:=∀b o,H b=some o→H' b=some o
theorem Same.refl(H:Hp):Same H H:=fun _ _ h=>h
theorem Same.trans{H H1 H2:Hp}(a:Same H H1)(b:Same H1 H2):Same H H2:=fun c o h=>b c o (a c o h)
theorem Same.seq{K:W.Frag}{H H':Hp}{a:Addr}{xs:List V}(e:Same H H')(h:SqL K H a xs):SqL K H' a xs:=by
 rcases h with(h |⟨o,h⟩)| h
 ·exact .inl (.inl (e _ _ h))
 ·exact .inl (.inr ⟨o,e _ _ h⟩)
 ·exact .inr h
theorem gM:xS X (.builtin "len") (fun xs H Q=>∃a kvs,xs= [V.ref a]∧H a=some (.dK kvs)∧Q (.int kvs.length) H):=by
 intro pins s σ H xs us Q I r h;obtain⟨a,kvs,rfl,ha,q⟩:=h;obtain⟨u,rfl,ru⟩:=wR r;cases ru;exact zYi I (.inl ha) fun t s' I'=>⟨.int kvs.length,H,I',⟨t,rfl⟩,q⟩
end
section
variable{κ:Type} [DecidableEq κ]
theorem zXf{kvs:List (κ×V)}{k:κ}{v:V}(h:qL kvs k=some v):k∈kvs.map (·.1):=by
 have q:(kvs.any fun kv=>decide (kv.1=k))=true:=by
  rw[uK,h]
  all_goals rfl
 obtain⟨p,hp,e⟩:=cJ.mp q;exact nM.mpr ⟨p,hp,eB e⟩
theorem zBv:∀{l:List κ}{k:κ},l.Nodup→¬k∈l→(l++ [k]).Nodup
 | [],k,_,_=>by simp
 | a::r,k,h,hk=>by
  obtain⟨h1,h2⟩:=nW.mp h;show(a::(r++ [k])).Nodup;refine nW.mpr ⟨fun m=>?_,zBv h2 fun m=>hk (mG.mpr (cF m))⟩;rcases nD.mp m with q | q
  ·exact h1 q
  ·exact hk (mG.mpr (nO (mP.mp q).symm))
end
abbrev ts(x:Str):List Nat:=x.cps.toList
abbrev tx(l:List Nat):Str:=⟨l.toArray⟩
theorem xD(l:List Nat):ts (tx l)=l:=rfl
theorem kJ(x:Str):tx (ts x)=x:=by cases x;simp[tx,ts]
theorem kR(x:Str):x.length=(ts x).length:=by simp[Str.length,ts]
theorem yN(l:List Nat):(tx l).length=l.length:=by simp[Str.length,tx]
theorem uG{x y:Str}(h:ts x=ts y):x=y:=by rw[←kJ x,←kJ y,h]
theorem vD(a b:List Nat):tx a++tx b=tx (a++b):=by
 apply uG;show(a.toArray++b.toArray).toList=a++b;simp
theorem zEy(xs:Array Nat):∀(k:Nat)(acc:Array Nat),((List.replicate k xs).foldl (· ++ ·) acc).toList=acc.toList++(List.replicate k xs.toList).flatten
 | 0,acc=>by simp
 | k+1,acc=>by
  rw[pA,aS,zEy xs k (acc++xs)];simp[pA]
theorem yAj(x:Str)(n:Int):Txt.mul x n=tx (List.replicate n.toNat (ts x)).flatten:=by
 apply uG;rw[xD];unfold Txt.mul
 by_cases h1:n<1
 ·rw[mK h1]
  have e:n.toNat=0:=by lia
  rw[e];rfl
 ·rw[mI h1]
  by_cases h2:(n==1 || x.length==0)=true
  ·rw[mK h2]
   rcases(eP _ _).mp h2 with h3 | h3
   ·have e:n=1:=by simpa using h3
    subst e;simp
   ·have e:x.length=0:=by simpa using h3
    rw[kR] at e;have e2:ts x= []:=sT e;show ts x=_;rw[e2];simp
  ·rw[mI h2]
   show((List.replicate n.toNat x.cps).foldl (· ++ ·) #[]).toList=_;rw[zEy];simp
section
variable{X:Cx}
def zSr:R2:=fun x y H Q=>∃z n,x= .str z∧y= .int n∧z.length≤1000∧-1000≤n∧n≤1000∧Q (.str (tx (List.replicate n.toNat (ts z)).flatten)) H
theorem qE:OpR X (binaryOp .Mult) zSr:=by
 intro pins s σ H x y v u Q I rx ry h;obtain⟨z,n,rfl,rfl,hz,h0,h1,q⟩:=h;obtain⟨t,rfl⟩:=rx;obtain⟨t',rfl⟩:=ry;refine SB.mul ⟨by rw[nJ (by lia),nJ (by lia)];rfl,fun a _ b=>?_,fun a _=>?_⟩ fun t' k=>⟨.str (Txt.mul z n),H,I.tok _,⟨_,rfl⟩,by rw[yAj];exact q⟩
 ·have h2:(9223372036854775:Int)≤(2 ^ 63 - 1:Int)/ n:=Int.le_ediv_of_mul_le (by lia) (by lia)
  lia
 ·unfold PySem.Builtin.Str.tooLong
  have e:z.length*n.toNat≤1000*1000:=Nat.mul_le_mul hz (by lia);exact nJ (by rw[mU];lia)
theorem zLa{ys:List Str}:∀{us:List Value},Vals (ys.map V.str) us→StrsAre us ys:=by
 induction ys with
 | nil=>intro us r;rw[rT] at r;cases r;exact .nil
 | cons n ns ih=>
  intro us r;rw[mY] at r
  cases r with
  | cons r1 r2=>
   obtain⟨t,e⟩:=r1;subst e;exact .cons n t (ih r2)
theorem zDl(g:Str):∀(ps:List Str)(acc:Array Nat),(ps.foldl (fun a p=>a++g.cps++p.cps) acc).toList=acc.toList++(ps.map fun p=>ts g++ts p).flatten
 | [],acc=>by simp
 | p::ps,acc=>by
  rw[aS,zDl g ps];simp
theorem zUu(ys:List Str):Txt.join (tx []) ys=tx (ys.map ts).flatten:=by
 apply uG;show((ys.drop 1).foldl (fun acc p=>acc++(tx []).cps++p.cps) (ys.headD Str.empty).cps).toList=_;rw[zDl]
 cases ys with
 | nil=>rfl
 | cons y r=>
  show ts y++(List.map (fun p=>ts (tx [])++ts p) r).flatten=ts y++(List.map ts r).flatten;simp only[xD,aT]
def rJoin(K:W.Frag):V→List V→Hp→VK→Prop:=fun x vs H Q=>∃(p:Addr)(ys:List Str),x= .str (tx [])∧vs= [.ref p]∧SqL K H p (ys.map V.str)∧((ys.map ts).flatten).length≤100000∧Q (.str (tx (ys.map ts).flatten)) H
theorem zYc(ys:List Str):(ys.map (·.length)).sum=((ys.map ts).flatten).length:=by
 induction ys with
 | nil=>rfl
 | cons y r ih=>rw[mY,cH,ih,mY,pP,mL,kR]
theorem zGz:MtR X "str.join" (rJoin X.K):=by
 intro pins s σ H x vs v us Q I rx rv h;obtain⟨p,ys,rfl,rfl,hq,hz,q⟩:=h;obtain⟨t,rfl⟩:=rx;obtain⟨u,rfl,ru⟩:=rv.one;cases ru;obtain⟨its,r,pl,_⟩:=I.list hq;refine join_list (ys:=ys) pl.isList (by simpa using zLa r) ?_ fun t' k=>⟨.str (Txt.join (tx []) ys),H,I.tok _,⟨_,rfl⟩,by rw[zUu];exact q⟩;rw[zYc,show(tx []).length=0 from rfl,Nat.mul_zero]
 lia
theorem zIr(a b n:Nat):PySem.Builtin.Str.strSliceIndices (some (a:Int)) (some (b:Int)) 1 n=PySem.Builtin.Str.strSliceIndices (some ((min a n:Nat):Int)) (some ((min b n:Nat):Int)) 1 n:=by
 have h1:¬((a:Int)<0):=by lia
 have h2:¬((b:Int)<0):=by lia
 have h3:¬(((min a n:Nat):Int)<0):=by lia
 have h4:¬(((min b n:Nat):Int)<0):=by lia
 have e1:max (0:Int) (min (a:Int) (n:Int))=max (0:Int) (min ((min a n:Nat):Int) (n:Int)):=by lia
 have e2:max (0:Int) (min (b:Int) (n:Int))=max (0:Int) (min ((min b n:Nat):Int) (n:Int)):=by lia
 unfold PySem.Builtin.Str.strSliceIndices;simp only[h1,h2,h3,h4,tV,show((1:Int)>0)=True from by simp,dM];rw[e1,e2]
theorem zTy{a b n:Nat}(h:b<a)(hb:a≤n):PySem.Builtin.Str.strSliceIndices (some (a:Int)) (some (b:Int)) 1 n= []:=by
 have h1:¬((a:Int)<0):=by lia
 have h2:¬((b:Int)<0):=by lia
 have e1:max (0:Int) (min (a:Int) (n:Int))=a:=by lia
 have e2:max (0:Int) (min (b:Int) (n:Int))=b:=by lia
 have h3:¬((a:Int)<(b:Int)):=by lia
 simp only[PySem.Builtin.Str.strSliceIndices,PySem.sliceRange,h1,h2,tV,e1,e2,show((1:Int)>0)=True from by simp,dM,h3]
 rfl
theorem zXw{α:Type}(l:List α)(a b:Nat):(l.drop (min a l.length)).take (min b l.length - min a l.length)=(l.take b).drop a:=by
 rw[List.drop_take]
 by_cases ha:a≤l.length
 ·rw[aV ha]
  by_cases hb:b≤l.length
  ·rw[aV hb]
  ·rw[aG (by lia),pH (by rw[rG];lia),pH (by rw[rG];lia)]
 ·have e1:min a l.length=l.length:=aG (by lia)
  rw[e1,rV (mD _),rV (as:=l) (i:=a) (by lia),dX,dX]
theorem zFg(x:Str)(a b:Nat):Txt.slice x (some (a:Int)) (some (b:Int))=tx (((ts x).take b).drop a):=by
 have hl:x.length=(ts x).length:=kR x
 by_cases h:min a x.length≤min b x.length
 ·have e:=StrLaws.sliceText_nat x h (Nat.min_le_right _ _)
  have e2:Txt.slice x (some (a:Int)) (some (b:Int))=StrLaws.sliceText x (some ((min a x.length:Nat):Int)) (some ((min b x.length:Nat):Int)):=by
   unfold Txt.slice StrLaws.sliceText;rw[zIr a b]
  rw[e2,e,hl,zXw]
 ·have h1:min b x.length=b:=by lia
  have h2:b<a:=by lia
  have e:PySem.Builtin.Str.strSliceIndices (some (a:Int)) (some (b:Int)) 1 x.length= []:=by
   rw[zIr a b,h1];exact zTy (by lia) (Nat.min_le_right _ _)
  unfold Txt.slice;rw[e,mI (by simp;lia)];apply uG;rw[xD,rV (by rw[nU];lia)]
  rfl
theorem zCd(x:Str)(j:Nat):Txt.slice x none (some (j:Int))=tx ((ts x).take j):=by
 have e:Txt.slice x none (some (j:Int))=Txt.slice x (some ((0:Nat):Int)) (some (j:Int)):=by
  unfold Txt.slice;rw[StrLaws.sliceIdx_none_lo];rfl
 rw[e,zFg,rZ]
theorem zCt(x:Str)(i:Nat):Txt.slice x (some (i:Int)) none=tx ((ts x).drop i):=by
 have e:Txt.slice x (some (i:Int)) none=Txt.slice x (some (i:Int)) (some (x.length:Int)):=by
  unfold Txt.slice;rw[StrLaws.sliceIdx_none_hi]
 rw[e,zFg,pH (by rw[←kR];exact mD _)]
def rSlS:V→Option Int→Option Int→Hp→VK→Prop:=fun x lo hi H Q=>∃z,x= .str z∧z.length≤sizeLine∧Q (.str (Txt.slice z lo hi)) H
theorem zCr:SlR X rSlS:=by
 intro pins s σ H x v vl vu lo hi sl Q I rx hs pl pu h;obtain⟨z,rfl,hz,q⟩:=h;obtain⟨t,rfl⟩:=rx;refine⟨"str",_,F.slot_str_getitem.lookup,bW _ _ _, ?_⟩;have fin:∀t' k,EP X pins σ Q (.str (Txt.slice z lo hi) t') {s with toks:=k}:=fun t' k=>⟨.str (Txt.slice z lo hi),H,I.tok _,⟨_,rfl⟩,q⟩;obtain⟨o,ho,hc,hd⟩:=hs
 cases pl with
 | none=>
  cases pu with
  | none=>exact aK (l:=none) (u:=none) (st:=none) ⟨o,ho,hc,hd⟩ rfl (cY ⟨nN (eI z _ _) hz,fin⟩)
  | int j uj=>exact aK (l:=none) (u:=some (j,uj)) (st:=none) ⟨o,ho,hc,hd⟩ rfl (cY ⟨nN (eI z _ _) hz,fin⟩)
 | int i ui=>
  cases pu with
  | none=>exact aK (l:=some (i,ui)) (u:=none) (st:=none) ⟨o,ho,hc,hd⟩ rfl (cY ⟨nN (eI z _ _) hz,fin⟩)
  | int j uj=>exact aK (l:=some (i,ui)) (u:=some (j,uj)) (st:=none) ⟨o,ho,hc,hd⟩ rfl (cY ⟨nN (eI z _ _) hz,fin⟩)
def yCf(neg:Bool):R2:=fun x y H Q=>∃c j,x= .str (tx [c])∧y= .str j∧Q (.bl (if neg then !decide (c∈ts j) else decide (c∈ts j))) H
theorem zGc:OpR X (compareOp .In) (yCf false):=by
 intro pins s σ H x y v u Q I rx ry h;obtain⟨c,j,rfl,rfl,q⟩:=h;refine zOu pins s σ H _ _ v u Q I rx ry ⟨_,_,rfl,rfl, ?_⟩;have e:=StrLaws.found_one j c;rw[show(tx [c]:Str)=⟨#[c]⟩ from rfl,e];exact q
def Its(x:Str):It:=⟨fun i _=>i<(ts x).length,fun i H y H'=>H'=H∧∃c,(ts x)[i]? =some c∧y= .str (tx [c]),fun i _=>(ts x).length≤i⟩
theorem zUd{P:Program}{w:World}{K:W.Frag}{tg:Expr}(x:Str)(t:Tok)(it:Addr)(ty:String)(hty:ty= "str_ascii_iterator"∨ty= "str_iterator"):zCn true P w K tg (Its x) [it] it (fun i h=>h.IsStrIter it ty x t i) where
 mem:=by simp
 obj:=fun i h st b hb=>by
  have e:b=it:=by simpa using hb
  subst e;obtain⟨o,e,c,d⟩:=st;exact⟨o,e,fun v z=>by rw[d] at z;cases z⟩
 keep:=fun i h h' st k=>by
  obtain⟨o,e,c,d⟩:=st;exact⟨o,k it (by simp) o e,c,d⟩
 item:=by
  intro X hP hw hK hc i pins s σ H E I hf st hg;subst hP hw hK;obtain⟨f0,f1,f2,f3,f4,f5⟩:=hf it (by simp);have hi:i<(ts x).length:=hg;have hx:x.cps[i]? =some (ts x)[i]:=by
   rw[←tS];simp[hi]
  have fin:∀h',h'.IsStrIter it ty x t (i+1)→Heap.SameBut it s.heap h'→∃u,some (Value.str ⟨#[(ts x)[i]]⟩ s.toks)=some u∧
    wpAny (model X.prog X.w) X.A (letOwnedTupleGo tg (.ref it) u) (fun _ s2=>∃x' H',Inv X pins σ H' s2∧RelV x' u∧(Its x).yld i H x' H'∧s2.heap.IsStrIter it ty x t (i+1)∧∀b∈ [it],H' b=none) E {s with heap:=h',toks:=s.toks+1}:=fun h' st' sb=>by
   have I1:Inv X pins σ H {s with heap:=h',toks:=s.toks+1}:=I.turned (t':=s.toks+1) (fun b o hb e=>(sb.2 b hb).trans e) f0 f1 f3 f4 f5;obtain⟨o,e,c,d⟩:=id st';refine⟨_,rfl,zEl (s:={s with heap:=h',toks:=s.toks+1}) e c d ?_ ⟨.str (tx [(ts x)[i]]),H,I1,⟨_,rfl⟩,⟨rfl,_,by simp[hi],rfl⟩,st',fun b hb=>(hf b hb).1⟩⟩;rcases hty with z | z<;>(rw[z];decide)
  rcases hty with z | z
  ·subst z;exact wpAny_pyNext_ascii_item st hx fun h' st' sb=>fin h' st' sb
  ·subst z;exact wpAny_pyNext_wide_item st hx fun h' st' sb=>fin h' st' sb
 done:=by
  intro X hP hw hK hc i pins s σ H E I hf st hg;subst hP hw hK;obtain⟨f0,f1,f2,f3,f4,f5⟩:=hf it (by simp);have hi:(ts x).length≤i:=hg;have hx:x.cps[i]? =none:=by
   rw[←tS];exact sB hi
  rcases hty with z | z
  ·subst z;exact zKa (I.hn hc) st hx fun h' eb=>⟨rfl,I.turned (t':=s.toks) (fun b o hb e=>eb b o hb e) f0 f1 f3 f4 f5⟩
  ·subst z;exact zMd (I.hn hc) st hx fun h' eb=>⟨rfl,I.turned (t':=s.toks) (fun b o hb e=>eb b o hb e) f0 f1 f3 f4 f5⟩
 self:=fun _ _ _ _ _ st h=>by
  rcases hty with z | z
  ·subst z;exact wpAny_pyIter_striter_ascii st h
  ·subst z;exact wpAny_pyIter_striter_wide st h
def yBb(tl:TE):TI:=fun σ H R=>tl σ H fun x H1=>∃z,x= .str z∧R (Its z) H1
theorem zLp{tg l:Expr}{tl:TE}(hl:PE X l tl)(hcl:X.cool=true:=by rfl):PI X tg l (yBb tl):=by
 intro pins s σ H R I h;refine thn (hl pins s σ H _ I h) fun v s1 ⟨x,H1,I1,r1,q1⟩=>?_;obtain⟨z,rfl,q⟩:=q1;obtain⟨t,rfl⟩:=r1;have fin:∀ty,(ty= "str_ascii_iterator"∨ty= "str_iterator")→PIE X pins σ tg R (.ref s1.heap.objs.size) {s1 with heap:=s1.heap.push {cls:=.type ty,data:=.fields #[.str z t, .int 0 0]}}:=fun ty hty=>by
  refine⟨s1.heap.objs.size,[s1.heap.objs.size],_,_,H1,rfl,I1.kept (t':=s1.toks) fun b o e=>mE _ e,⟨true,hcl,zUd z t _ ty hty⟩,⟨_,mX _ rfl,rfl,rfl⟩,fun b hb=>?_,q⟩;have e:b=s1.heap.objs.size:=by simpa using hb
  subst e;exact I1.fpOk (mD _) (I1.hok.fresh (mD _))
 cases ha:z.cps.all (· <128) with
 | true=>exact wpAny_pyIter_ascii ha (fin _ (.inl rfl))
 | false=>exact wpAny_pyIter_wide ha (fin _ (.inr rfl))
theorem zJp{bs:List Bool}:∀{us:List Value},Vals (bs.map V.bl) us→PyProof.Rows.LSm.BoolsAre us bs:=by
 induction bs with
 | nil=>intro us r;rw[rT] at r;cases r;exact .nil
 | cons n ns ih=>
  intro us r;rw[mY] at r
  cases r with
  | cons r1 r2=>
   cases (show _=Value.bool n from r1);exact .cons n (ih r2)
theorem zMu{A:Around}{h:Heap}(hn:Hn A h):∃x:Option Addr,(∀v,A.handled=some v→∃a,x=some a∧v= .ref a)∧∀a∈x.toList,a<h.objs.size:=by
 cases e:A.handled with
 | none=>exact⟨none,fun v z=>(nomatch z),fun a ha=>by simp at ha⟩
 | some v=>
  obtain⟨x,o,C,vs,rfl,a1,a2,a3⟩:=hn v e;refine⟨some x,fun v z=>⟨x,rfl,(mV z).symm⟩,fun a ha=>?_⟩;have ha:a=x:=by simpa using ha
  subst ha;exact mR a1
theorem sum_n{prog:Program}{w:World}{A:Around}{E:Value→Shared→Prop}{s:Shared}{l:Addr}{xs:Array (Int×Tok)}{Q:Value→Shared→Prop}(hh:Hn A s.heap)(hl:s.heap.IsList l (intItems xs))
  (h:∀h' tk t',(∀b o,s.heap.get? b=some o→h'.get? b=some o)→Q (.int (preSum (numAt xs) xs.size) t') {s with heap:=h',toks:=tk}):
  wpAny (model prog w) A (call (.builtin "sum") [.ref l]) Q E s:=by
 refine call_sum_walkG (iter_intList hl fun s₂ e st hfp hlI=>?_);subst e;obtain⟨x,hx,hlt⟩:=zMu hh;refine⟨_,_,_,_,_,_,numAt xs,rfl,uD (A:=A.in1) hx _ l hlI (intItems xs),⟨st.1,st.2,hh.keeps fun b o e=>mE _ e⟩,fun b hb=>?_,(fun _ _=>intItems_at),fun h' tk t' hk=>?_⟩
 ·rcases nD.mp hb with z | z
  ·exact hfp b z
  ·exact nH (hlt b z) (by rw[rP];exact rJ _)
 ·have:=h h' tk t' (old_kept hk)
  simpa [intItems] using this
theorem wX(hc:X.cool=true):xS X (.builtin "all") (fun xs H Q=>∃(p:Addr)(bs:List Bool),xs= [.ref p]∧SqL X.K H p (bs.map V.bl)∧Q (.bl (bs.all id)) H):=by
 intro pins s σ H xs us Q I r h;obtain⟨p,bs,rfl,hq,q⟩:=h;obtain⟨u,rfl,rx⟩:=wR r;cases rx;obtain⟨its,rv,pl,hz⟩:=I.list hq;have hl:=pl.isList;have hb:=zJp rv;have hlt:p<s.heap.objs.size:=by obtain⟨_,e,_⟩:=hl;exact mR e
 refine call_all_walk (cB hl ?_);obtain⟨x,hx,_⟩:=zMu (I.hn hc);refine⟨s.heap.objs.size,[s.heap.objs.size,p]++x.toList,[s.heap.objs.size],its.toArray.size,_,_,fun i=>(bs[i]?).getD true,rfl,uD (A:=X.A.in1) hx _ p (nL hlt) its.toArray,
  ⟨⟨_,mX _ rfl,rfl,rfl⟩,hl.push _,(I.hn hc).keeps fun b o e=>mE _ e⟩,fun i v s' Q' E' hP hQ=>?_,fun h' tk hk=>?_⟩
 ·obtain⟨b,e,rfl⟩:=hb.get i v (by simpa using hP)
  simp only[e,Option.getD_some] at hQ;exact pG hQ
 ·have e:((List.range its.toArray.size).all fun i=>(bs[i]?).getD true)=bs.all id:=by
   rw[nG,hb.length];exact PyProof.Rows.LSm.range_all bs
  rw[e];exact⟨.bl _,H,I.kept (PyProof.Rows.LSm.kept_iter hk),rfl,q⟩
theorem zTx(hc:X.cool=true):xS X (.builtin "sum") (fun xs H Q=>∃(p:Addr)(ns:List Int),xs= [.ref p]∧SqL X.K H p (ns.map V.int)∧Q (.int ns.sum) H):=by
 intro pins s σ H xs us Q I r h;obtain⟨p,ns,rfl,hq,q⟩:=h;obtain⟨u,rfl,rx⟩:=wR r;cases rx;obtain⟨its,rv,pl,hz⟩:=I.list hq;have hi:=zLb rv;obtain⟨xs,hx⟩:=hi.allInts.items;have hl':s.heap.IsList p (intItems xs):=hx▸pl.isList;refine sum_n (I.hn hc) hl' fun h' tk t' hk=>?_;have e1:ns=xs.toList.map (·.1):=by
  rw[←nums_intItems,←hx];exact(show numsOf its.toArray.toList=ns from hi.numsOf).symm
 have e2:preSum (numAt xs) xs.size=ns.sum:=by
  rw[preSum_eq,pH (by simp),e1]
 rw[e2];exact⟨.int _,H,I.kept hk,⟨_,rfl⟩,q⟩
def zAh:List V→List V→Bool
 | [],[]=>true
 | x::xs,y::ys=>eqV x y && zAh xs ys
 | _,_=>false
theorem gX:∀(xs ys:List V),xs.length=ys.length→(List.range xs.length).all (fun j=>match xs[j]?,ys[j]? with | some a,some b=>eqV a b | _,_=>true)=zAh xs ys
 | [],[],_=>rfl
 | x::xs,y::ys,h=>by
  have ih:=gX xs ys (by simpa using h);rw[mS,List.range_succ_eq_map,List.all_cons,rW];show(eqV x y && _)=(eqV x y && zAh xs ys);rw[←ih]
  congr 1
theorem zJw:∀{xs ys:List V},xs.length≠ys.length→zAh xs ys=false
 | [],[],h=>absurd rfl h
 | [],_::_,_=>rfl
 | _::_,[],_=>rfl
 | x::xs,y::ys,h=>by
  have ih:=zJw (xs:=xs) (ys:=ys) (by simpa using h);show(eqV x y && zAh xs ys)=false;rw[ih,Bool.and_false]
def rEqL(K:W.Frag)(neg:Bool):R2:=fun x y H Q=>∃a b xs ys,x= .ref a∧y= .ref b∧SqL K H a xs∧SqL K H b ys∧xs.all qR=true∧ys.all qR=true∧Q (.bl (if neg then !zAh xs ys else zAh xs ys)) H
theorem Vals.some_at{xs:List V}{us:List Value}(r:Vals xs us){j:Nat}(h:j<us.length):∃x,xs[j]? =some x∧RelV x us[j]:=by
 have hl:=r.length;obtain⟨x,e⟩:∃x,xs[j]? =some x:=⟨xs[j],by simp[hl,h]⟩;obtain⟨u,hu,ru⟩:=r.get e;have e2:us[j]? =some us[j]:=by simp[h]
 rw[e2] at hu;cases hu;exact⟨x,e,ru⟩
theorem zIv{A:Around}{s:Shared}{xs ys:List V}{us ws:List Value}(r:Vals xs us)(q:Vals ys ws)(fx:xs.all qR=true)(fy:ys.all qR=true):
  ∀j(h1:j<us.toArray.size)(h2:j<ws.toArray.size),SeqAt.EqAt A s us.toArray[j] ws.toArray[j] ((fun j=>match xs[j]?,ys[j]? with | some a,some b=>eqV a b | _,_=>true) j):=fun j h1 h2=>by
 obtain⟨x,e1,r1⟩:=r.some_at (j:=j) (by simpa using h1);obtain⟨y,e2,r2⟩:=q.some_at (j:=j) (by simpa using h2);have f1:qR x=true:=nV.mp fx x (mQ e1);have f2:qR y=true:=nV.mp fy y (mQ e2);have z:=yBl (A:=A) (s:=s) r1 r2 f1 f2;simp only[e1,e2]
 simpa using z
theorem zBp(hu:X.A.units<cLine):OpR X (compareOp .NotEq) (rEqL X.K true):=by
 intro pins s σ H x y v u Q I rx ry h;obtain⟨a,b,xs,ys,rfl,rfl,ha,hb,fx,fy,q⟩:=h;cases rx;cases ry;obtain⟨its,r1,pl1,_⟩:=I.list ha;obtain⟨its2,r2,pl2,_⟩:=I.list hb;have l1:=r1.length;have l2:=r2.length
 by_cases e:xs.length=ys.length
 ·refine SeqAt.RcNeAt.lists pl1.isList pl2.isList (by simp only[nG];lia) hu (zIv r1 r2 fx fy) X.prog X.w X.xe _ ⟨.bl _,H,I,rfl, ?_⟩
  rw[nG,←l1,gX xs ys e];exact q
 ·refine SeqAt.RcNeAt.lists_lengths pl1.isList pl2.isList (by simp only[nG];simpa [←l1,←l2] using e) hu X.prog X.w X.xe _ ⟨.bl _,H,I,rfl, ?_⟩
  have z:=zJw e
  simpa [z] using q
def tyS(H:Hp):V→Option String
 | .non=>some "NoneType"
 | .bl _=>some "bool"
 | .int _=>some "int"
 | .str _=>some "str"
 | .ref a=>match H a with
  | some (.lst _)=>some "list"
  | some (.tup _)=>some "tuple"
  | some (.dK _)=>some "dict"
  | _=>none
 | _=>none
def zN(t T:String):Bool:=t==T ||(t== "bool" && T== "int")
theorem zUf{K:W.Frag}{H:Hp}{x:V}{t:String}(h:tyS H x=some t):zAg K H x (.type t):=by
 cases x with
 | non=>cases h;exact .non
 | bl b=>cases h;exact .bl b
 | int i=>cases h;exact .int i
 | str z=>cases h;exact .str z
 | ref a=>
  have h':(match H a with | some (.lst _)=>some "list" | some (.tup _)=>some "tuple" | some (.dK _)=>some "dict" | _=>none)=some t:=h
  cases e:H a with
  | none=>rw[e] at h';cases h'
  | some o=>
   rw[e] at h'
   cases o with
   | lst xs=>cases h';exact .lst e
   | tup xs=>cases h';exact .tup e
   | dK kvs=>cases h';exact .dK e
   | _=>cases h'
 | byt b=>cases h
 | flt b=>cases h
 | ty n=>cases h
def tyL:List String:=["NoneType","bool","int","str","list","tuple","dict"]
def kitB(t T:String):Option Bool:=if(Value.type t==Value.type T)=true then some true else if W.kitMeta T=true then(fastBuiltinMro t).map (·.contains (.type T)) else none
theorem zXx:(tyL.all fun t=>tyL.all fun T=>kitB t T==some (zN t T))=true:=by decide+kernel
theorem zAf{K:W.Frag}{t T:String}(h1:t∈tyL)(h2:T∈tyL):W.kitOne K (.type t) (.type T)=some (zN t T):=by
 have a:=nV.mp (nV.mp zXx t h1) T h2;have b:kitB t T=some (zN t T):=by simpa using a
 exact b
theorem wW{H:Hp}{x:V}{t:String}(h:tyS H x=some t):t∈tyL:=by
 cases x<;>first |(cases h;simp[tyL];done)|(cases h;done)| skip
 rename_i a;have h':(match H a with | some (.lst _)=>some "list" | some (.tup _)=>some "tuple" | some (.dK _)=>some "dict" | _=>none)=some t:=h
 split at h'<;>first |(cases h';simp[tyL];done)|(cases h';done)
theorem zXu{pins:List (Addr×Obj)}{σ:St}{H:Hp}{s:Shared}{x:V}{u:Value}{t:String}(I:Inv X pins σ H s)(rx:RelV x u)(h:tyS H x=some t):
  ∃φ:Heap→Prop,W.KitX X.K u (.type t) φ∧φ s.heap∧u≠ .builtin "__main__.__loader__#opaque":=by
 cases zUf (K:=X.K) h with
 | non=>cases (show u=Value.none from rx);exact⟨_,W.kitx_none,mN,fun z=>nomatch z⟩
 | bl y=>cases (show u=Value.bool y from rx);exact⟨_,W.kitx_bool,mN,fun z=>nomatch z⟩
 | int i=>obtain⟨t,q⟩:=(show∃t,u=Value.int i t from rx);cases q;exact⟨_,W.kitx_int,mN,fun z=>nomatch z⟩
 | str y=>obtain⟨t,q⟩:=(show∃t,u=Value.str y t from rx);cases q;exact⟨_,W.kitx_str,mN,fun z=>nomatch z⟩
 | flt y=>obtain⟨t,q⟩:=(show∃t,u=Value.float y t from rx);cases q;exact⟨_,W.kitx_float,mN,fun z=>nomatch z⟩
 | @lst a xs ea=>
  cases (show u=Value.ref a from rx);obtain⟨_,_,n,_,h1⟩:=(show ObjOk X.prog X.w H s.heap a (.lst xs) from I.hok a _ ea);exact⟨_,eR,⟨_,h1,rfl⟩,fun z=>nomatch z⟩
 | @frz a ob xs ea=>
  cases (show u=Value.ref a from rx);obtain⟨_,_,_,n,_,h1⟩:=(show ObjOk X.prog X.w H s.heap a (.frz ob (.lst xs)) from I.hok a _ ea);exact⟨_,eR,⟨_,h1,rfl⟩,fun z=>nomatch z⟩
 | @tup a xs ea=>
  cases (show u=Value.ref a from rx);obtain⟨_,_,_,p⟩:=(show ObjOk X.prog X.w H s.heap a (.tup xs) from I.hok a _ ea);obtain⟨o,h1,h2,_⟩:=p;exact⟨_,W.kitx_tuple,⟨o,h1,h2⟩,fun z=>nomatch z⟩
 | @dK a kvs ea=>
  cases (show u=Value.ref a from rx);obtain⟨_,_,vs,_,p⟩:=(show ObjOk X.prog X.w H s.heap a (.dK kvs) from I.hok a _ ea);obtain⟨o,es,ep,h1,h2,_⟩:=p;exact⟨_,dO,⟨o,h1,h2.1⟩,fun z=>nomatch z⟩
 | @dT a kvs ea=>
  cases (show u=Value.ref a from rx);obtain⟨_,_,xs,_,o,es,ep,h1,h2,_⟩:=(show ObjOk X.prog X.w H s.heap a (.dT kvs) from I.hok a _ ea);exact⟨_,dO,⟨o,h1,h2.1⟩,fun z=>nomatch z⟩
theorem gC{T U:String}(hT:T∈tyL)(hU:U∈tyL):xS X (.builtin "isinstance") (fun xs H Q=>∃x t p,xs= [x, .ref p]∧H p=some (.tup [.ty T, .ty U])∧tyS H x=some t∧Q (.bl (zN t T || zN t U)) H):=by
 intro pins s σ H xs us Q I r h;obtain⟨x,t,p,rfl,hp,ht,q⟩:=h;obtain⟨u,w',rfl,ru,rw'⟩:=zDc r;cases (show w'=Value.ref p from rw');obtain⟨φ,Z,hφ,hne⟩:=zXu I ru ht;obtain⟨_,its,rv,pl⟩:=(show ObjOk X.prog X.w H s.heap p (.tup [.ty T, .ty U]) from I.hok p _ hp);obtain⟨v1,v2,e,r1,r2⟩:=zDc rv;subst e;cases (show v1=Value.type T from r1);cases (show v2=Value.type U from r2);obtain⟨o,ho,hc,n,hd⟩:=pl;obtain⟨oc,od,odt,osl⟩:=o;cases (show oc=Value.type "tuple" from hc);cases (show odt=Data.seq _ n from hd);refine W.kia_tup Z I.kIn hφ ho (b:=zN t T || zN t U) ?_ hne fun tk=>⟨.bl _,H,I.tok _,rfl,q⟩
 have k1:=zAf (K:=X.K) (wW ht) hT;have k2:=zAf (K:=X.K) (wW ht) hU;simp only[W.kitAny,k1,k2];cases zN t T<;>cases zN t U<;>rfl
theorem zBy{T:String}(hT:T∈tyL):xS X (.builtin "isinstance") (fun xs H Q=>∃x t,xs= [x, .ty T]∧tyS H x=some t∧Q (.bl (zN t T)) H):=by
 intro pins s σ H xs us Q I r h;obtain⟨x,t,rfl,ht,q⟩:=h;obtain⟨u,w',rfl,ru,rw'⟩:=zDc r;cases (show w'=Value.type T from rw');exact zPv I ru (zUf ht) (zAf (wW ht) hT) fun tk=>⟨.bl _,H,I.tok _,rfl,q⟩
end
theorem yH:bootBuiltins "len" =some (.builtin "len"):=by decide+kernel
theorem zI:bootBuiltins "isinstance" =some (.builtin "isinstance"):=by decide+kernel
theorem jP:bootBuiltins "all" =some (.builtin "all"):=by decide+kernel
theorem yBq:bootBuiltins "sum" =some (.builtin "sum"):=by decide+kernel
theorem yAb:bootBuiltins "abs" =some (.builtin "abs"):=by decide+kernel
theorem yAo:bootBuiltins "ord" =some (.builtin "ord"):=by decide+kernel
theorem yAx:bootBuiltins "max" =some (.builtin "max"):=by decide+kernel
theorem zPn:bootBuiltins "sorted" =some (.builtin "sorted"):=by decide+kernel
theorem jL:bootBuiltins "int" =some (.type "int"):=by decide+kernel
theorem vM:bootBuiltins "str" =some (.type "str"):=by decide+kernel
theorem kW:bootBuiltins "bool" =some (.type "bool"):=by decide+kernel
theorem xT:bootBuiltins "list" =some (.type "list"):=by decide+kernel
theorem xF:bootBuiltins "dict" =some (.type "dict"):=by decide+kernel
theorem kA:bootBuiltins "tuple" =some (.type "tuple"):=by decide+kernel
structure Bl(mg:Str→Option Value):Prop where
 len:mg "len" =none
 range:mg "range" =none
 isinstance:mg "isinstance" =none
 all:mg "all" =none
 sum:mg "sum" =none
 int:mg "int" =none
 str:mg "str" =none
 bool:mg "bool" =none
 list:mg "list" =none
 dict:mg "dict" =none
 tuple:mg "tuple" =none
structure Dn(P:Program)(w:World)(K:W.Frag)(mg:Str→Option Value)(base:Heap)(k:Nat)(x:Str)(ps:List Str)(sp:Sp):Prop where
 ex:∃(f:Addr)(fd:FuncData),FnOk P w K mg base CX0 k f fd ps sp∧Binds K fd ps []∧W.keepIn K (.ref f)=true∧mg x=some (.ref f)
section
variable{X:Cx}{k j:Nat}{x:Str}{ps:List Str}{sp:Sp}{e:Expr}{es:List Expr}{t:TA}{p pos:Pos}
theorem pe_cd(D:Dn X.prog X.w X.K X.mg X.base k x ps sp)(hr:Room j X.A)(hj:k≤j)(hg:Gl X x)(ha:PA X (e::es) t)(hdb:(x==("__debug__" :Str))=false:=by decide)
  (he:starEach (e::es) X.env=(false,eval e X.env)::starEach es X.env:=by rfl) (hpl:(backTo pos (starEach es X.env)).any (·.1)=false:=by rfl):PE X (.Call (.Name x p) (e::es) [] pos) (qV sp [] E0 t):=by
 obtain⟨f,fd,h1,h2,h3,h4⟩:=D.ex;exact zGk h1 (hr.mono hj) hg h4 h3 h2 .nil zYt ha hdb he hpl
theorem zZr(D:Dn X.prog X.w X.K X.mg X.base k x ps sp)(hr:Room j X.A)(hj:k≤j)(hg:Gl X x)(hdb:(x==("__debug__" :Str))=false:=by decide):PE X (.Call (.Name x p) [] [] pos) (qV sp [] E0 zHx):=by
 obtain⟨f,fd,h1,h2,h3,h4⟩:=D.ex;exact zRo h1 (hr.mono hj) hg h4 h3 h2 .nil zYt hdb
end
theorem zMj{α β:Type}{l:List α}{f:α→β→Sem (ForInStep β)}(g:β→α→β)(h:∀x∈l,∀c,f x c=pure (.yield (g c x))):∀b:β,forIn l b f=pure (l.foldl g b):=by
 induction l with
 | nil=>intro b;rfl
 | cons a r ih=>
  intro b;rw[List.forIn_cons,h a mF];show forIn r (g b a) f=_;rw[ih (fun x hx=>h x (mH _ hx)) (g b a)]
  rfl
def wK(env:Env)(cs:List (Str×Addr))(x:Str×NameKind):List (Str×Addr):=
 if(x.2==NameKind.free)=true then(match env.cells.lookup x.1 with | some a=>(x.1,a)::cs | none=>cs) else cs
def clo(env:Env)(names:List (Str×NameKind)):List (Str×Addr):=names.foldl (wK env) []
theorem kU{scope:Scope}{env:Env}(h:∀x∈scope.names,x.2= .free→∃c,env.cells.lookup x.1=some c):closureFor scope env=pure (clo env scope.names):=by
 simp only[closureFor];rw[zMj (wK env) (fun x hx c=>by
  obtain⟨n,k⟩:=x
  by_cases hk:k= .free
  ·subst hk
   obtain⟨a,e⟩:=h _ hx rfl;have e':env.cells.lookup n=some a:=e;simp[wK,cellOf,e']
  ·have e:(k==NameKind.free)=false:=by simpa using hk
   simp[wK,e])]
 rfl
theorem zNu{env:Env}:∀(names:List (Str×NameKind))(cs:List (Str×Addr)),(∀p∈cs,env.cells.lookup p.1=some p.2)→∀p∈names.foldl (wK env) cs,env.cells.lookup p.1=some p.2
 | [],_,h=>h
 | x::r,cs,h=>by
  refine zNu r (wK env cs x) fun p hp=>?_;unfold wK at hp;split at hp
  ·split at hp
   ·rename_i a e
    rcases mG.mp hp with z | z
    ·rw[z];exact e
    ·exact h p z
   ·exact h p hp
  ·exact h p hp
theorem zHz{env:Env}{p:Str×Addr}:∀(names:List (Str×NameKind))(cs:List (Str×Addr)),p∈cs→p∈names.foldl (wK env) cs
 | [],_,h=>h
 | x::r,cs,h=>by
  refine zHz r (wK env cs x) ?_;unfold wK;split
  ·split
   ·exact mH _ h
   ·exact h
  ·exact h
theorem zNg{env:Env}{n:Str}{c:Addr}(e:env.cells.lookup n=some c):∀(names:List (Str×NameKind))(cs:List (Str×Addr)),(n,NameKind.free)∈names→(n,c)∈names.foldl (wK env) cs
 | [],_,h=>nomatch h
 | x::r,cs,h=>by
  rcases mG.mp h with z | z
  ·subst z
   refine zHz r _ ?_;unfold wK;rw[mK (by rfl)];show(n,c)∈(match env.cells.lookup n with | some a=>(n,a)::cs | none=>cs)
   rw[e];exact mF
  ·exact zNg e r _ z
theorem vX{α:Type}{n:Str}{c:α}:∀{l:List (Str×α)},(n,c)∈l→∃c',l.lookup n=some c'
 | [],h=>nomatch h
 |(m,d)::r,h=>by
  by_cases e:n=m
  ·subst e;exact⟨d,by simp[rY]⟩
  ·rcases mG.mp h with z | z
   ·cases z;exact absurd rfl e
   ·obtain⟨c',q⟩:=vX z
    have e2:(n==m)=false:=by simpa using e
    exact⟨c',by rw[rY,e2];exact q⟩
theorem zSy{env:Env}{names:List (Str×NameKind)}{n:Str}{c:Addr}(h:(clo env names).lookup n=some c):env.cells.lookup n=some c:=
 zNu names [] (fun _ z=>nomatch z) (n,c) (rK h)
theorem zCe{env:Env}{names:List (Str×NameKind)}{n:Str}{c:Addr}(e:env.cells.lookup n=some c)(h:(n,NameKind.free)∈names):(clo env names).lookup n=some c:=by
 obtain⟨c',q⟩:=vX (zNg e names [] h);have q':(clo env names).lookup n=some c':=q;have z:=zSy q';rw[e] at z;rw[q',←z]
inductive FreeOk (X:Cx) (scope:Scope):List (Str×Nat)→Prop where
 | nil:FreeOk X scope []
 | cons {x:Str} {i:Nat} {r:List (Str×Nat)} (h1:X.N[i]? =some x) (h2:X.env.kindOf x=some .cell) (h3:scope.names.lookup x=some .free) (h:FreeOk X scope r):FreeOk X scope ((x,i)::r)
theorem FreeOk.mem{X:Cx}{scope:Scope}:∀{F:List (Str×Nat)},FreeOk X scope F→∀p∈F,X.N[p.2]? =some p.1∧X.env.kindOf p.1=some .cell∧scope.names.lookup p.1=some .free
 | _, .nil,_,h=>nomatch h
 | _, .cons h1 h2 h3 h,p,hp=>by
  rcases mG.mp hp with z | z
  ·subst z;exact⟨h1,h2,h3⟩
  ·exact h.mem p z
structure CompSc(X:Cx)(scope:Scope)(own:List Str)(F:List (Str×Nat)):Prop where
 kind:scope.kind= .function
 nocell:(scope.names.all fun y=>!(y.2==NameKind.cell))=true
 loc:(scope.names.all fun y=>!(y.2==NameKind.local)||(scope.names.lookup y.1==some NameKind.local))=true
 fr:(scope.names.all fun y=>!(y.2==NameKind.free)||(X.env.scope.names.lookup y.1==some NameKind.cell))=true
 free:FreeOk X scope F
def xK(own:List Str)(F:List (Str×Nat)):List Str:=own++F.map (·.1)
def gO(own:List Str)(F:List (Str×Nat))(σ:St):St:=own.map (fun _=>Option.none)++F.map (fun p=>(σ[p.2]?).join)
def wB(X:Cx)(own:List Str)(F:List (Str×Nat))(scope:Scope)(C:Addr)(s₃:Shared)(H₃:Hp)(ex:List Addr):Cx where
 prog:=X.prog
 w:=X.w
 K:=X.K
 mg:=X.mg
 base:=X.base
 A:=X.A
 N:=xK own F
 s₀:=s₃
 H₀:=H₃
 env:=compEnvC scope (clo X.env scope.names) C X.env
 outer:=X.stack
 stack:=X.stack
 ex:=ex
 fn:=fun _=>false
 calm:=X.calm
 cool:=X.cool
 pn:=[]
 xe:=fun _ _=>False
theorem CompSc.nc{X:Cx}{scope:Scope}{own:List Str}{F:List (Str×Nat)}(S:CompSc X scope own F):∀y∈scope.names,y.2≠ .cell:=fun y hy e=>by
 have q:=nV.mp S.nocell y hy;rw[e] at q;exact absurd q (by decide)
theorem CompSc.lc{X:Cx}{scope:Scope}{own:List Str}{F:List (Str×Nat)}(S:CompSc X scope own F):∀y∈scope.names,y.2= .local→scope.names.lookup y.1=some .local:=fun y hy e=>by
 have q:=nV.mp S.loc y hy;rw[e] at q
 simpa using q
theorem CompSc.fc{X:Cx}{scope:Scope}{own:List Str}{F:List (Str×Nat)}(S:CompSc X scope own F):∀y∈scope.names,y.2= .free→X.env.kindOf y.1=some .cell:=fun y hy e=>by
 have q:=nV.mp S.fr y hy;rw[e] at q;have q':X.env.scope.names.lookup y.1=some NameKind.cell:=by simpa using q
 exact q'
theorem zHr{scope:Scope}{env:Env}(hc:∀y∈scope.names,y.2≠ .cell){x:Str}(h:(relabel scope env).names.lookup x=some .cell∨(relabel scope env).names.lookup x=some .free):(x,NameKind.free)∈scope.names:=by
 have go:∀k,(relabel scope env).names.lookup x=some k→k= .cell∨k= .free→(x,NameKind.free)∈scope.names:=fun k e hk=>by
  have m:=rK e;unfold relabel at m;obtain⟨⟨n,k0⟩,hm,e2⟩:=nM.mp m
  by_cases hf:k0= .free
  ·subst hf
   dsimp only at e2;split at e2<;>(cases e2;exact hm)
  ·have e3:(k0==NameKind.free)=false:=by simpa using hf
   simp only[e3,Bool.false_and,rM,tV] at e2;cases e2;rcases hk with z | z
   ·exact absurd z (hc _ hm)
   ·exact absurd z hf
 rcases h with h | h
 ·exact go _ h (.inl rfl)
 ·exact go _ h (.inr rfl)
theorem vO{env:Env}(hf:env.scope.kind= .function):∀{names:List (Str×NameKind)}{x:Str},names.lookup x=some .free→env.kindOf x=some .cell→
  (names.map fun(n,k)=>if(k==NameKind.free && env.scope.kind== .function && env.kindOf n==some .cell) then(n,NameKind.cell) else(n,k)).lookup x=some .cell
 | [],_,h,_=>by simp at h
 |(n,k)::r,x,h,hx=>by
  have ih:=@vO env hf r x;rw[mY]
  by_cases e:x=n
  ·subst e
   have hk:k= .free:=by simpa [rY] using h
   subst hk;have c:(NameKind.free==NameKind.free && env.scope.kind== .function && env.kindOf x==some .cell)=true:=by rw[hf,hx];rfl
   show List.lookup x ((if(NameKind.free==NameKind.free && env.scope.kind== .function && env.kindOf x==some .cell)=true then(x,NameKind.cell) else(x,NameKind.free))::_)=_;rw[mK c];simp[rY]
  ·have e2:(x==n)=false:=by simpa using e
   have h':r.lookup x=some .free:=by rw[rY,e2] at h;exact h
   have q:=ih h' hx;dsimp only;split
   ·rw[rY,e2];exact q
   ·rw[rY,e2];exact q
section
variable{X:Cx}{pins:List (Addr×Obj)}{σ:St}{H:Hp}{s:Shared}
theorem Inv.freeCells{scope:Scope}{own:List Str}{F:List (Str×Nat)}(I:Inv X pins σ H s)(S:CompSc X scope own F):∀x∈scope.names,x.2= .free→∃c,X.env.cells.lookup x.1=some c:=fun x hx e=>
 I.ok.has x.1 (.inl (S.fc x hx e))
theorem Inv.notStk(I:Inv X pins σ H s){b:Addr}(h1:b≠X.env.locals)(h2:b∉X.fs):b∉frs X.stack:=fun z=>(mG.mp (I.stkSub b z)).elim h1 h2
theorem zMl{scope:Scope}{own:List Str}{F:List (Str×Nat)}{fp:List Addr}{h1:Heap}{tk:Nat}(I:Inv X pins σ H s)(S:CompSc X scope own F)(hf:∀b∈fp,zBx X pins H b)(hlt:∀b∈fp,b<s.heap.objs.size){s3:Shared}
  (e3:s3={s with heap:=s.heap.push {cls:=.type "list",data:=.seq ([]:List Value).toArray}})
  (hns:h1.Ns s3.heap.objs.size (fun _=>none)) (hk:∀b o,s3.heap.get? b=some o→h1.get? b=some o):
  Inv (wB X own F scope s3.heap.objs.size s3 H (s.heap.objs.size::fp)) [] (gO own F σ) H {s3 with heap:=h1,toks:=tk}:=by
 have sz3:s3.heap.objs.size=s.heap.objs.size+1:=by rw[e3];exact rP ..
 have k3:∀b o,s.heap.get? b=some o→s3.heap.get? b=some o:=fun b o e=>by rw[e3];exact mE _ e
 have I3:Inv X pins σ H s3:=by rw[e3];exact I.kept (t':=s.toks) fun b o e=>mE _ e
 have lkup:∀x c,(clo X.env scope.names).lookup x=some c→X.env.cells.lookup x=some c:=fun x c e=>zSy e;have base_lt:∀b o,X.base.get? b=some o→b<X.s₀.heap.objs.size:=fun b o e=>nH (mR e) I.ok.bsz;have kf:X.env.scope.kind= .function:=I.ok.kind;refine⟨⟨I.ok.mod,S.kind,I.ok.glob,I.ok.blt,mD _,fun x y c h1 h2=>I.ok.inj x y c (lkup x c h1) (lkup y c h2),fun x hx=>?_,fun x c hx _=>(nomatch hx),⟨I.ok.hd.1,fun z v e=>?hnd⟩,I.ok.frames, .inl rfl,fun b hb=>?_,fun b o e=>?_, ?_,fun b o e hb=>?_,fun b hb=>?_,I3.stack,fun b hb=>I.stkFree b hb⟩,
  rfl,I3.bare,Un.kept hk,⟨_,hns,fun i x v e1 e2 e3'=>?_⟩,fun x c e=>?_, ?_,fun x c e=>I.freeC x c (lkup x c e),fun p hp=>absurd (show p∈([]:List (Addr×Obj)) from hp) (by simp),I3.hok.kept hk, ?_⟩
 case hnd=>
  obtain⟨x,o,C,vs,a,h1,h2,h3,h4,h5,h6,h7⟩:=I.hnAt z v e;obtain⟨x',o',C',vs',a',g1,g2,g3,g4,g5,g6,g7⟩:=I.ok.hd.2 z v e;rw[a] at a';cases a';have lx:x<X.s₀.heap.objs.size:=mR g1;refine⟨x,o,C,vs,a,k3 x o h1,h2,h3,h4,h5,I.notStk (nL (nH lx I.ok.above)) h6,fun hb=>?_⟩;rcases mG.mp hb with q | q
  ·exact absurd (mR h1) (by rw[q];exact rO _)
  ·rcases(hf x q).2.2.2.1 with q | q
   ·exact h7 q
   ·exact absurd lx (Nat.not_lt.mpr q)
 ·have hm:=zHr S.nc hx
  obtain⟨c,e⟩:=I.freeCells S _ hm rfl;exact⟨c,zCe e hm⟩
 ·rcases mG.mp hb with z | z
  ·subst z
   refine⟨fun q=>?_,fun x c e q=>?_⟩
   ·have q':s.heap.objs.size=s3.heap.objs.size:=q
    lia
   ·obtain⟨v,u⟩:=I.cell x c (lkup x c e)
    exact absurd u.lt (by rw[q];exact rO _)
  ·refine⟨fun q=>?_,fun x c e=>(hf b z).2.2.2.2.1 x c (lkup x c e)⟩
   exact nL (nH (hlt b z) (show s.heap.objs.size≤s3.heap.objs.size by lia)) q
 ·obtain⟨a1,a2⟩:=I.bs b o e
  exact⟨k3 b o a1,a2⟩
 ·exact nN (nN I.ok.bsz I.sz) (by show s.heap.objs.size≤s3.heap.objs.size;lia)
 ·have l1:=base_lt b o e
  rcases mG.mp hb with z | z
  ·exact absurd (nH l1 I.sz) (by rw[z];exact rO _)
  ·rcases(hf b z).2.2.2.1 with q | q
   ·exact I.ok.noex b o e q
   ·exact absurd l1 (Nat.not_lt.mpr q)
 ·rcases mG.mp hb with z | z
  ·subst z
   exact I.notStk (pK I.lt) (I.nofs (mD _))
  ·exact I.notStk (hf b z).2.1 (hf b z).2.2.1
 ·-- a name that is seen
  have hi:own.length≤i:=by
   by_cases z:i<own.length
   ·rw[gO,pU (by simpa using z),nI] at e2
    cases q:own[i]? with
    | none=>rw[q] at e2;cases e2
    | some y=>rw[q] at e2;cases e2
   ·lia
  rw[gO,nY (by simpa using hi),nI] at e2;have e1':(own++F.map (·.1))[i]? =some x:=e1;rw[nY hi,nI] at e1';simp only[mJ] at e2
  cases q:F[i - own.length]? with
  | none=>rw[q] at e2;cases e2
  | some p=>
   rw[q] at e1' e2;simp only[Option.map_some,Option.some.injEq] at e1' e2;obtain⟨f1,f2,f3⟩:=S.free.mem p (mQ q);subst e1';obtain⟨m,hn,hl⟩:=I.loc;have e4:σ[p.2]? =some (some v):=by
    cases r:σ[p.2]? with
    | none=>rw[r] at e2;cases e2
    | some o=>rw[r] at e2;exact congrArg some e2
   obtain⟨u,ru,l⟩:=hl p.2 p.1 v f1 e4 (.inr (.inl f2));refine⟨u,ru, .inr ⟨.inl (vO kf f3 f2), ?_⟩⟩;rcases l with⟨l,_⟩|⟨_,c,ec,z⟩
   ·rw[f2] at l;cases l
   ·refine⟨c,zCe ec (rK f3), ?_⟩
    obtain⟨oc,ho,hd⟩:=z;exact⟨oc,hk _ _ (k3 _ _ ho),hd⟩
 ·obtain⟨v,oc,ho,hd⟩:=I.cell x c (lkup x c e)
  exact⟨v,oc,hk _ _ (k3 _ _ ho),hd⟩
 ·exact I.hok.fresh (by show s.heap.objs.size≤s3.heap.objs.size;lia)
 ·show(gO own F σ).length=(xK own F).length
  simp[gO,xK]
theorem zOt{scope:Scope}{own:List Str}{F:List (Str×Nat)}{fp:List Addr}{s3 s4:Shared}{σ':St}{H':Hp}{ys:List V}{its:List Value}{n:Nat}(I:Inv X pins σ H s)(hf:∀b∈fp,zBx X pins H b)
  (e3:s3={s with heap:=s.heap.push {cls:=.type "list",data:=.seq ([]:List Value).toArray}})
  (J:Inv (wB X own F scope s3.heap.objs.size s3 H (s.heap.objs.size::fp)) [] σ' H' s4) (hz:ys.length≤sizeLine) (hv:Vals ys its)
  (ha:s4.heap.get? s.heap.objs.size=some {cls:=.type "list",data:=.seq its.toArray n}) (hn:H' s.heap.objs.size=none):Inv X pins σ (upd H' s.heap.objs.size (.lst ys)) s4:=by
 have sz3:s3.heap.objs.size=s.heap.objs.size+1:=by rw[e3];exact rP ..
 have k3:∀b o,s.heap.get? b=some o→s3.heap.get? b=some o:=fun b o e=>by rw[e3];exact mE _ e
 have U:Un (frs X.stack) (s.heap.objs.size::fp) H H' s3.heap s4.heap:=J.base;have ne:∀b o,s.heap.get? b=some o→b≠s.heap.objs.size:=fun b o e=>nL (mR e);have nx:∀b o,s.heap.get? b=some o→b∉fp→b∉s.heap.objs.size::fp:=fun b o e h z=>(mG.mp z).elim (ne b o e) h;have os4:s4.os=s.os:=by
  have q:s4.os=s3.os:=J.os;rw[q,e3]
 refine I.call' (ch:=fp) os4 ⟨fun b o e z hb hx=>U.keep b o (k3 b o e) z hb (nx b o e hx),fun b o e z hb hx=>U.slot b o (k3 b o e) z hb (nx b o e hx),fun b o e z hx=>?_,fun b o e hx=>U.there b o (k3 b o e) (nx b o e hx),fun b xs e=>?_,fun b o u e=>?_,fun b ps e=>?_⟩ (fun b u e=>?_) J.bare fun b hb=>?_
 ·rw[zO (ne b o e)]
  exact U.free b o (k3 b o e) z (nx b o e hx)
 ·have q:=U.tups b xs e
  rw[zO (zX q hn)];exact q
 ·have q:=U.frzs b o u e
  rw[zO (zX q hn)];exact q
 ·obtain⟨more,q⟩:=U.tbls b ps e
  exact⟨more,by rw[zO (zX q hn)];exact q⟩
 ·by_cases hb:b=s.heap.objs.size
  ·subst hb
   rw[zE] at e;cases e;exact⟨hz,its,n,hv,ha⟩
  ·rw[zO hb] at e
   exact(J.hok b u e).stay (fun _ _ _ q=>q) (fun c q=>by rw[zO (zX q hn)];exact q) fun c xs q=>by rw[zO (zX q hn)];exact q
 ·obtain⟨_,f1,_,f3,f4,f5⟩:=hf b hb
  exact⟨f3,f1,f4,f5⟩
theorem zCx{H':Hp}{s4:Shared}{C:Addr}{h':Heap}{σ4:St}(I:Inv X pins σ H s)(hC:s.heap.objs.size≤C)(I4:Inv X pins σ4 H' s4)(hn:H' C=none)(hs:Heap.SameBut C s4.heap h'):Inv X pins σ4 H' {s4 with heap:=h'}:=by
 have q:=I4.turned (it:=C) (t':=s4.toks) (h':=h') (fun b o hb e=>(hs.2 b hb).trans e) hn (pK (nH I.lt hC)) (.inr (nN I.sz hC)) (fun x c e z=>?_) (fun p hp z=>?_)
 ·exact q
 ·obtain⟨v,u⟩:=I.cell x c e
  exact absurd (nH u.lt (by rw[z];exact hC)) (rO _)
 ·exact absurd (nH (mR (I.pin p hp).1) (by rw[z];exact hC)) (rO _)
end
def PTs(X:Cx)(ifs:List Expr)(t:TT):Prop:=
 ∀(pins:List (Addr×Obj))(s:Shared)(σ:St)(H:Hp)(Q:Bool→Hp→Prop),Inv X pins σ H s→t σ H Q→
  wpAny (model X.prog X.w) X.A (forIn ifs true fun c r=>if r=true then do let ok ←isTrue c X.env (eval c X.env);pure (ForInStep.yield ok) else pure (ForInStep.yield r)) (TP X pins σ Q) X.xe s
def zAu:TT:=fun _ H Q=>Q true H
theorem yR{X:Cx}:PTs X [] zAu:=fun _ _ _ H _ I h=>wpAny_tests_nil ⟨H,I,h⟩
theorem zWk{X:Cx}{c:Expr}{t:TT}(h:PT X c t):PTs X [c] t:=fun pins s σ H Q I q=>wpAny_tests_one (h pins s σ H Q I q)
theorem zIz{prog:Program}{w:World}{A:Around}{R:Result→Shared→Prop}{s:Shared}{elt target iter:Expr}{ifs:List Expr}{scope:Scope}{pos:Pos}{it acc:Value}{env:Env}(I:Nat→Shared→Prop)
  (turn:∀n s,I n s→wpAny (model prog w) A (pyNext it) (fun r s₁=>match r with
   | none=>R (.ok .next) s₁
   | some v=>wpAny (model prog w) A (letOwnedTupleGo target it v) (fun _ s₂=>wpAny (model prog w) A (assign target env v) (fun _ s₃=>
     wpAny (model prog w) A (forIn ifs true fun c r=>if r=true then do let ok ←isTrue c env (eval c env);pure (ForInStep.yield ok) else pure (ForInStep.yield r)) (fun ok s₄=>
      if ok=true then wpAny (model prog w) A (eval elt env) (fun x s₅=>
       wpAny (model prog w) A (call (.builtin "list.append") [acc,x]) (fun _ s₆=>∃m,m<n∧I m s₆) (fun _ _=>False) s₅) (fun _ _=>False) s₄
      else∃m,m<n∧I m s₄) (fun _ _=>False) s₃) (fun _ _=>False) s₂) (fun _ _=>False) s₁) (fun _ _=>False) s)
  (n:Nat) (h:I n s):codeAny (model prog w) A (.compLoop (.ListComp elt [⟨target,iter,ifs,0⟩] scope pos) 0 it acc env) R s:=by
 refine codeAny_loop rfl I (fun n s hI=>?_) n h;show wpAny _ A ((compTurn (.ListComp elt [⟨target,iter,ifs,0⟩] scope pos) 0 it acc env).onRaise (fun x=>do noteFrame x env;theTreesLotGoes x)) _ _ s;refine wpAny_noted ?_;rw[compTurn_list];refine mC (aN (mC (rF (turn n s hI) (fun r s₁ h₁=>?_) fun _ _ f=>f.elim)))
 cases r with
 | none=>exact mM h₁
 | some v=>
  refine mC (rF h₁ (fun _ s₂ h₂=>mC (rF h₂ (fun _ s₃ h₃=>mC (rF h₃ (fun ok s₄ h₄=>?_) fun _ _ f=>f.elim)) fun _ _ f=>f.elim)) fun _ _ f=>f.elim)
  cases ok with
  | false=>exact mM ⟨rfl,h₄⟩
  | true=>exact mC (mC (rF h₄ (fun x s₅ h₅=>mC (rF h₅ (fun _ s₆ h₆=>mM (mM ⟨rfl,h₆⟩)) fun _ _ f=>f.elim)) fun _ _ f=>f.elim))
def yBn(σ σ':St):Prop:=σ'.length=σ.length∧∀(i:Nat) v,σ'[i]? =some (some v)→σ[i]? =some (some v)
theorem zVp{σ:St}{i:Nat}{v:Option V}(h:σ[i]? =some none):yBn (σ.set i v) σ:=by
 refine⟨by simp,fun j u e=>?_⟩
 by_cases hj:i=j
 ·subst hj;rw[h] at e;cases e
 ·rw[sG hj];exact e
def wF(own:List Str)(F:List (Str×Nat))(g:TG)(tt:TT)(te:TE)(σ:St)(Q:VK)(J:It)(H1:Hp):Prop:=∃W:Nat→Nat→List V→Hp→Prop,(∃m,W 0 m [] H1)∧∀i m ys H',W i m ys H'→ys.length≤i→
 (J.stop i H'∧i≤sizeLine∧∀p,H' p=none→Q (.ref p) (upd H' p (.lst ys)))∨
 (J.go i H'∧i<sizeLine∧∃N:List V→Hp→Prop,(∀ys' H'',N ys' H''→∃m',m'<m∧W (i+1) m' ys' H'')∧
  ∀x H2,J.yld i H' x H2→g x (gO own F σ) H2 fun σ3 H3=>yBn σ3 (gO own F σ)∧tt σ3 H3 fun b H4=>if b=true then te σ3 H4 fun y H5=>N (ys++ [y]) H5 else N ys H4)
def zEi(own:List Str)(F:List (Str×Nat))(wi:TI)(g:TG)(tt:TT)(te:TE):TE:=fun σ H Q=>wi σ H fun J H1=>wF own F g tt te σ Q J H1
section
variable{X:Cx}{scope:Scope}{own:List Str}{F:List (Str×Nat)}{elt tg iter:Expr}{ifs:List Expr}{pos:Pos}{wi:TI}{g:TG}{tt:TT}{te:TE}
abbrev yW(s:Shared):Shared:={s with heap:=s.heap.push {cls:=.type "list",data:=.seq ([]:List Value).toArray}}
theorem zJn{pins:List (Addr×Obj)}{σ:St}{H:Hp}{s:Shared}{Q:VK}{RR:Addr→Result→Shared→Prop}{it:Addr}{fp:List Addr}{tn:Nat→Heap→Prop}{J:It}(S:CompSc X scope own F){fl:Bool}(hfl:X.heat fl=true)
  (hg:∀C s₃ H₃ ex,PG (wB X own F scope C s₃ H₃ ex) tg g) (ht:∀C s₃ H₃ ex,PTs (wB X own F scope C s₃ H₃ ex) ifs tt) (he:∀C s₃ H₃ ex,PE (wB X own F scope C s₃ H₃ ex) elt te)
  (I:Inv X pins σ H s) (T:zCn fl X.prog X.w X.K tg J fp it tn) (st:tn 0 s.heap) (hf:∀b∈fp,zBx X pins H b)
  (h:wF own F g tt te σ Q J H)
  (hR:∀C s4 H4,s.heap.objs.size≤C→C≠s.heap.objs.size→Inv X pins σ H4 s4→Q (.ref s.heap.objs.size) H4→H4 C=none→(∃m,s4.heap.Ns C m)→RR C (.ok .next) s4):
  wpAny (model X.prog X.w) X.A (newList []) (fun acc s₃=>wpAny (model X.prog X.w) X.A (newFunctionEnv scope X.env.globals (clo X.env scope.names) [] X.env.qual none .none (some X.env)) (fun cenv s₄=>
   codeAny (model X.prog X.w) X.A (.compStart (.ListComp elt [⟨tg,iter,ifs,0⟩] scope pos) 0 (.ref it) acc {cenv with scope:=relabel scope X.env}) (fun r s'=>acc= .ref s.heap.objs.size∧RR cenv.locals r s') s₄) X.xe s₃) X.xe s:=by
 obtain⟨W,⟨m0,w0⟩,turn⟩:=h;have hlt:∀b∈fp,b<s.heap.objs.size:=fun b hb=>by
  obtain⟨o,e,_⟩:=T.obj _ _ st b hb;exact mR e
 refine sP (wpAny_newFunctionEnv S.nc (by intro y hy;simp at hy) (fun h₁ hns₁ hsb₁=>?_) S.kind);dsimp only at hns₁ hsb₁⊢;have e3':yW s={s with heap:=s.heap.push {cls:=.type "list",data:=.seq ([]:List Value).toArray}}:=rfl;have sz3:(yW s).heap.objs.size=s.heap.objs.size+1:=rP ..;have k3:∀b o,(yW s).heap.get? b=some o→h₁.get? b=some o:=fun b o e=>hsb₁.extBut b o (nL (mR e)) (mE _ e);have k2:∀b o,s.heap.get? b=some o→(yW s).heap.get? b=some o:=fun b o e=>mE _ e;have hns:h₁.Ns (yW s).heap.objs.size (fun _=>none):=by simpa using hns₁
 have I0:Inv (wB X own F scope (yW s).heap.objs.size (yW s) H (s.heap.objs.size::fp)) [] (gO own F σ) H {yW s with heap:=h₁,toks:=(yW s).toks+([]:List (Str×Value)).length}:=zMl I S hf hlt e3' hns k3;have acc0:h₁.get? s.heap.objs.size=some {cls:=.type "list",data:=.seq ([]:List Value).toArray 0}:=k3 _ _ (mX _ rfl);have ht0:tn 0 h₁:=T.keep _ _ _ st fun b _ o e=>k3 b o (k2 b o e);have loop:codeAny (model X.prog X.w) X.A (.compLoop (.ListComp elt [⟨tg,iter,ifs,0⟩] scope pos) 0 (.ref it) (.ref s.heap.objs.size) (compEnvC scope (clo X.env scope.names) (yW s).heap.objs.size X.env)) (RR (yW s).heap.objs.size) {yW s with heap:=h₁,toks:=(yW s).toks+([]:List (Str×Value)).length}:=by
  refine zIz (fun n s'=>∃i ys H' its k,Inv (wB X own F scope (yW s).heap.objs.size (yW s) H (s.heap.objs.size::fp)) [] (gO own F σ) H' s'∧tn i s'.heap∧(∀b∈fp,H' b=none)∧H' s.heap.objs.size=none∧
   Vals ys its∧s'.heap.get? s.heap.objs.size=some {cls:=.type "list",data:=.seq its.toArray k}∧ys.length≤i∧W i n ys H') ?_ m0 ⟨0,[],H,[],0,I0,ht0,fun b hb=>(hf b hb).1,I.hok.fresh (mD _), .nil,acc0,mD _,w0⟩
  rintro n s5 ⟨i,ys,H5,its,k,I5,t5,fr5,ha5,v5,o5,l5,w5⟩;have pn5:Inv (wB X own F scope (yW s).heap.objs.size (yW s) H (s.heap.objs.size::fp)) [(s.heap.objs.size,{cls:=.type "list",data:=.seq its.toArray k})] (gO own F σ) H5 s5:=I5.pins_of fun p hp=>by
   have z:p=(s.heap.objs.size,{cls:=.type "list",data:=.seq its.toArray k}):=by simpa using hp
   subst z;obtain⟨x1,x2⟩:=I0.ok.exf s.heap.objs.size mF;exact⟨o5,ha5,x1,I0.ok.exfs _ mF,fun v z=>by cases z⟩
  have fp5:∀{H':Hp},(∀b∈fp,H' b=none)→∀b∈fp,zBx (wB X own F scope (yW s).heap.objs.size (yW s) H (s.heap.objs.size::fp)) [(s.heap.objs.size,{cls:=.type "list",data:=.seq its.toArray k})] H' b:=fun {H'} hn b hb=>by
   obtain⟨x1,x2⟩:=I0.ok.exf b (mH _ hb);refine⟨hn b hb,x1,I0.ok.exfs b (mH _ hb), .inl (mH _ hb),x2,fun p hp=>?_⟩;have z:p=(s.heap.objs.size,{cls:=.type "list",data:=.seq its.toArray k}):=by
    have hp':p∈([]:List (Addr×Obj))++ [(s.heap.objs.size,{cls:=.type "list",data:=.seq its.toArray k})]:=hp
    simpa using hp'
   subst z;exact pK (hlt b hb)
  rcases turn i n ys H5 w5 l5 with⟨stop,hz,q⟩|⟨go,hz,N,hN,step⟩
  ·refine thn (T.done (wB X own F scope (yW s).heap.objs.size (yW s) H (s.heap.objs.size::fp)) rfl rfl rfl (by cases fl<;>exact hfl) i _ s5 _ H5 (fun _ _=>False) pn5 (fp5 fr5) t5 stop) fun r s6 ⟨hr,I6⟩=>?_
   subst hr;obtain⟨a6,b6,_⟩:=I6.pin (s.heap.objs.size,{cls:=.type "list",data:=.seq its.toArray k}) (nP _ (mP.mpr rfl));have J6:=I6.pins_of (pins':=[]) (fun p hp=>nomatch hp);have I7:=zOt I hf e3' J6 (nN l5 hz) v5 a6 b6;have hC:H5 (yW s).heap.objs.size=none:=J6.free;refine hR _ s6 _ (show s.heap.objs.size≤(yW s).heap.objs.size by lia) (fun z=>by have z':(yW s).heap.objs.size=s.heap.objs.size:=z;lia) I7 (q _ b6) (by rw[zO (fun z=>by have z':(yW s).heap.objs.size=s.heap.objs.size:=z;lia)];exact hC) ?_;obtain⟨m,hn,_⟩:=J6.loc;exact⟨m,hn⟩
  ·refine thn (T.item (wB X own F scope (yW s).heap.objs.size (yW s) H (s.heap.objs.size::fp)) rfl rfl rfl (by cases fl<;>exact hfl) i _ s5 _ H5 (fun _ _=>False) pn5 (fp5 fr5) t5 go) fun r s6 ⟨u,hr,h6⟩=>?_
   subst hr;refine thn h6 fun _ s7 ⟨x,H7,I7,r7,y7,t7,fr7⟩=>?_;have J7:=I7.pinned (fp5 fr7) (T.obj _ _ t7);refine thn (hg _ _ _ _ _ s7 _ H7 x u _ J7 r7 (step x H7 y7)) fun _ s8 ⟨σ8,H8,I8,wk,q8⟩=>?_;refine thn (ht _ _ _ _ _ s8 σ8 H8 _ I8 q8) fun ok s9 ⟨H9,I9,q9⟩=>?_;have keep:∀{σ':St}{H':Hp}{s':Shared},Inv (wB X own F scope (yW s).heap.objs.size (yW s) H (s.heap.objs.size::fp)) ([(s.heap.objs.size,{cls:=.type "list",data:=.seq its.toArray k})]++zCg fp s7.heap) σ' H' s'→
     tn (i+1) s'.heap∧(∀b∈fp,H' b=none)∧H' s.heap.objs.size=none∧s'.heap.get? s.heap.objs.size=some {cls:=.type "list",data:=.seq its.toArray k}:=fun {σ' H' s'} J=>by
    have pa:=J.pin (s.heap.objs.size,{cls:=.type "list",data:=.seq its.toArray k}) (nP _ (pT _ (mP.mpr rfl)));refine⟨T.keep _ _ _ t7 fun b hb o e=>(J.pin (b,o) (nP _ (nP _ (jQ hb e)))).1,fun b hb=>?_,pa.2.1,pa.1⟩;obtain⟨o,e,d⟩:=T.obj _ _ t7 b hb;exact(J.pin (b,o) (nP _ (nP _ (jQ hb e)))).2.1
   cases ok with
   | false=>
    rw[mI mW] at q9⊢;obtain⟨m',hm,w9⟩:=hN _ _ q9;obtain⟨a1,a2,a3,a4⟩:=keep I9;exact⟨m',hm,i+1,ys,H9,its,k,(I9.pins_of (pins':=[]) (fun p hp=>nomatch hp)).weak wk.1 wk.2,a1,a2,a3,v5,a4,tX l5,w9⟩
   | true=>
    rw[mK rfl] at q9⊢;refine thn (he _ _ _ _ _ s9 σ8 H9 _ I9 q9) fun u' s10 ⟨y,H10,I10,r10,q10⟩=>?_;obtain⟨m',hm,w10⟩:=hN _ _ q10;obtain⟨a1,a2,a3,a4⟩:=keep I10;have hl:=v5.length;refine aQ bQ ⟨_,a4,rfl⟩ PySem.F.entry_list_append (PySem.F.args_list_append_2 _ _) (PySem.list_append s.heap.objs.size its.toArray k u' (by rw[nG];lia)) ⟨a4, ?_⟩;have q:=PySem.IsL.update a4 (fun xs:Array Value=>xs.push u');have eq:its.toArray.push u'=(its++ [u']).toArray:=by simp
    rw[eq] at q;obtain⟨x1,x2⟩:=I0.ok.exf s.heap.objs.size mF;have I11:=(I10.pins_of (pins':=[]) (fun p hp=>nomatch hp)).turned (it:=s.heap.objs.size) (t':=s10.toks) (h':=s10.heap.update s.heap.objs.size (Obj.mapSeq (fun xs:Array Value=>xs.push u'))) (fun b o hb e=>(mO s10.heap _ (Ne.symm hb)).trans e) a3 x1 (.inl mF) x2 (fun p hp=>absurd (show p∈([]:List (Addr×Obj)) from hp) (by simp));refine⟨m',hm,i+1,ys++ [y],H10,its++ [u'],_,I11.weak wk.1 wk.2, ?_,a2,a3,v5.append (.cons r10 .nil),q,by rw[mL,nB];lia,w10⟩;exact T.keep _ _ _ a1 fun b hb o e=>(mO s10.heap _ (pK (hlt b hb))).trans e
 have loop':=sH loop (R':=fun r s'=>Value.ref s.heap.objs.size= .ref s.heap.objs.size∧RR (yW s).heap.objs.size r s') fun r s' z=>⟨rfl,z⟩;exact codeAny_compStart_list loop' (T.self X.A 0 _ _ _ ht0 loop')
theorem yV(S:CompSc X scope own F)(hc:X.cool=true)(hi:PI X tg iter wi)
  (hg:∀C s₃ H₃ ex,PG (wB X own F scope C s₃ H₃ ex) tg g) (ht:∀C s₃ H₃ ex,PTs (wB X own F scope C s₃ H₃ ex) ifs tt) (he:∀C s₃ H₃ ex,PE (wB X own F scope C s₃ H₃ ex) elt te)
  (hs:∀x,foldedSetIterable iter X.env x=pure x:=by intro _;rfl):PE X (.ListComp elt [⟨tg,iter,ifs,0⟩] scope pos) (zEi own F wi g tt te):=by
 intro pins s σ H Q I h;rw[eval_ListComp];refine wpAny_comprehension_free (use:=none) rfl hs (kU (I.freeCells S)) S.kind S.lc ?_;refine thn (hi pins s σ H _ I h) fun v s1 h1=>thn h1 fun itv s2 ⟨it,fp,tn,J,H2,e,I2,⟨fl,hfl,T⟩,st2,f2,q2⟩=>?_;subst e;refine thn (zJn (Q:=Q) (RR:=fun C r s'=>compPost (model X.prog X.w) X.A X.xe none (EP X pins σ Q) (.ref s2.heap.objs.size) C r s') S hfl hg ht he I2 T st2 f2 q2 fun C s4 H4 c1 c2 I4 q4 n4 hm=>?_) fun acc s3 h3=>thn h3 fun cenv s4 h4=>sH h4 fun r s' ⟨ea,hr⟩=>?_
 ·obtain⟨m,hn⟩:=hm
  exact⟨m,hn,fun h' hs'=>⟨.ref s2.heap.objs.size,H4,zCx I2 c1 I4 n4 hs',rfl,q4⟩⟩
 ·rw[ea];exact hr
theorem zFw{i:Nat}{x:Str}{pos' spos:Pos}(hN:X.N.Nodup)(hi':X.N[i]? =some x)(hx:Loc X.env.scope x)(S:CompSc X scope own F)(hc:X.cool=true)(hi:PI X tg iter wi)
  (hg:∀C s₃ H₃ ex,PG (wB X own F scope C s₃ H₃ ex) tg g) (ht:∀C s₃ H₃ ex,PTs (wB X own F scope C s₃ H₃ ex) ifs tt) (he:∀C s₃ H₃ ex,PE (wB X own F scope C s₃ H₃ ex) elt te)
  (hsw:swapsWith (.ListComp elt [⟨tg,iter,ifs,0⟩] scope pos) (some (.Name x pos')) spos.line X.env=pure true:=by rfl)
  (hs:∀x,foldedSetIterable iter X.env x=pure x:=by intro _;rfl) (hf:X.fn x=true∨X.env.scope.names.lookup x=some .local:=by first | exact .inl rfl | exact .inr rfl | assumption):
  PS X (.Assign [.Name x pos'] (.ListComp elt [⟨tg,iter,ifs,0⟩] scope pos) spos) (zIj (zEi own F wi g tt te) (wY i)):=by
 intro pins s σ H D I h;rw[exec_Assign_Name_used x pos' _ _ hsw];refine mC (aN (mC ?_));refine mC ?_;refine rF (Q:=fun _ s'=>SP X pins D .next s') ?_ (fun _ s' q=>mM (mM q)) fun _ _ z=>z;refine wpAny_comprehension_free (use:=some (assign (.Name x pos') X.env)) rfl hs (kU (I.freeCells S)) S.kind S.lc ?_;refine thn (hi pins s σ H _ I h) fun v s1 h1=>thn h1 fun itv s2 ⟨it,fp,tn,J,H2,e,I2,⟨fl,hfl,T⟩,st2,f2,q2⟩=>?_;subst e;refine thn (zJn (Q:=fun x H1=>wY i x σ H1 D.nx) (RR:=fun C r s'=>compPost (model X.prog X.w) X.A X.xe (some (assign (.Name x pos') X.env)) (fun _ s'=>SP X pins D .next s') (.ref s2.heap.objs.size) C r s') S hfl hg ht he I2 T st2 f2 q2 fun C s4 H4 c1 c2 I4 q4 n4 hm=>?_) fun acc s3 h3=>thn h3 fun cenv s4 h4=>sH h4 fun r s' ⟨ea,hr⟩=>?_
 ·obtain⟨m,hn⟩:=hm
  refine wpAny_assign_Name (zEg I4 hN hi' hx (v:=.ref s2.heap.objs.size) rfl (fun s5 I5 ⟨a,sb,ha⟩=>?_) hf);have aC:a≠C:=by
   rcases ha with z | z
   ·rw[z];exact nL (nH I2.lt c1)
   ·obtain⟨v,u⟩:=I2.cell _ _ z
    exact nL (nH u.lt c1)
  exact⟨m,hn.sameBut sb (Ne.symm aC),fun h' hs'=>⟨_,H4,zCx I2 c1 I5 n4 hs',q4⟩⟩
 ·rw[ea];exact hr
end
inductive T where
 | non | bl (b:Bool)| int (i:Int)| str (x:List Nat)| lst (ts:List T)| dic (ks:List (List Nat)) (ts:List T)| tup (ts:List T)
mutual
def Rep(H:Hp):V→T→Prop
 | v, .non=>v= .non
 | v, .bl b=>v= .bl b
 | v, .int i=>v= .int i
 | v, .str x=>v= .str (tx x)
 | v, .lst ts=>∃a vs,v= .ref a∧H a=some (.lst vs)∧Reps H vs ts
 | v, .dic ks ts=>∃a ps,v= .ref a∧H a=some (.dK ps)∧ps.map (·.1)=ks.map (fun k=>(Sum.inr (tx k):Key))∧Reps H (ps.map (·.2)) ts
 | v, .tup ts=>∃a vs,v= .ref a∧H a=some (.tup vs)∧Reps H vs ts
def Reps(H:Hp):List V→List T→Prop
 | vs,[]=>vs= []
 | vs,t::ts=>∃v r,vs=v::r∧Rep H v t∧Reps H r ts
end
mutual
theorem Rep.same{H H':Hp}(e:Same H H'):∀(v:V)(t:T),Rep H v t→Rep H' v t
 | _, .non,h=>h
 | _, .bl _,h=>h
 | _, .int _,h=>h
 | _, .str _,h=>h
 | _, .lst ts,⟨a,vs,h1,h2,h3⟩=>⟨a,vs,h1,e _ _ h2,Reps.same e vs ts h3⟩
 | _, .dic ks ts,⟨a,ps,h1,h2,h3,h4⟩=>⟨a,ps,h1,e _ _ h2,h3,Reps.same e _ ts h4⟩
 | _, .tup ts,⟨a,vs,h1,h2,h3⟩=>⟨a,vs,h1,e _ _ h2,Reps.same e vs ts h3⟩
theorem Reps.same{H H':Hp}(e:Same H H'):∀(vs:List V)(ts:List T),Reps H vs ts→Reps H' vs ts
 | _,[],h=>h
 | _,t::ts,⟨v,r,h1,h2,h3⟩=>⟨v,r,h1,Rep.same e v t h2,Reps.same e r ts h3⟩
end
theorem Reps.snoc{H:Hp}{v:V}{t:T}(h:Rep H v t):∀{vs:List V}{ts:List T},Reps H vs ts→Reps H (vs++ [v]) (ts++ [t])
 | _,[],e=>by
  have e':_= []:=e;subst e';exact⟨v,[],rfl,h,rfl⟩
 | _,t'::ts,⟨v',r,h1,h2,h3⟩=>by
  subst h1;exact⟨v',r++ [v],rfl,h2,Reps.snoc h h3⟩
theorem Reps.length{H:Hp}:∀{vs:List V}{ts:List T},Reps H vs ts→vs.length=ts.length
 | _,[],e=>by
  have e':_= []:=e;subst e';rfl
 | _,t'::ts,⟨v',r,h1,h2,h3⟩=>by
  subst h1;simp[Reps.length h3]
theorem Reps.get{H:Hp}:∀{vs:List V}{ts:List T}{i:Nat}{v:V},Reps H vs ts→vs[i]? =some v→∃t,ts[i]? =some t∧Rep H v t
 | _,[],i,v,e,h=>by
  have e':_= []:=e;subst e';simp at h
 | _,t'::ts,0,v,⟨v',r,h1,h2,h3⟩,h=>by
  subst h1;simp at h;subst h;exact⟨t',rfl,h2⟩
 | _,t'::ts,i+1,v,⟨v',r,h1,h2,h3⟩,h=>by
  subst h1;obtain⟨t,e,q⟩:=Reps.get (i:=i) (v:=v) h3 (by simpa using h);exact⟨t,by simpa using e,q⟩
def tyT:T→String
 | .non=>"NoneType"
 | .bl _=>"bool"
 | .int _=>"int"
 | .str _=>"str"
 | .lst _=>"list"
 | .dic _ _=>"dict"
 | .tup _=>"tuple"
theorem Rep.ty{H:Hp}{v:V}:∀{t:T},Rep H v t→tyS H v=some (tyT t)
 | .non,h=>by cases (show v= .non from h);rfl
 | .bl b,h=>by cases (show v= .bl b from h);rfl
 | .int i,h=>by cases (show v= .int i from h);rfl
 | .str x,h=>by cases (show v= .str (tx x) from h);rfl
 | .lst ts,h=>by obtain⟨a,vs,e,h2,_⟩:=h;subst e;show(match H a with | some (.lst _)=>some "list" | some (.tup _)=>some "tuple" | some (.dK _)=>some "dict" | _=>none)=_;rw[h2];rfl
 | .dic ks ts,h=>by obtain⟨a,vs,e,h2,_⟩:=h;subst e;show(match H a with | some (.lst _)=>some "list" | some (.tup _)=>some "tuple" | some (.dK _)=>some "dict" | _=>none)=_;rw[h2];rfl
 | .tup ts,h=>by obtain⟨a,vs,e,h2,_⟩:=h;subst e;show(match H a with | some (.lst _)=>some "list" | some (.tup _)=>some "tuple" | some (.dK _)=>some "dict" | _=>none)=_;rw[h2];rfl
def letL:List Nat:=(List.range 26).map (· +97)
def qM:List Nat:=(List.range 10).map (· +48)
def sgnL:List Nat:=((List.range 95).map (· +32)).filter (· !=37)
def yJ(w:List Nat):Bool:=decide (1≤w.length)&& decide (w.length≤12)&& (match w with | []=>false | c::_=>decide (c∈letL))&& w.all (fun c=>decide (c∈letL++qM))
def zAi(w:List Nat):Bool:=decide (w.length≤30)&& w.all (fun c=>decide (c∈sgnL))
mutual
def Nice:Nat→T→Prop
 | _, .non=>True
 | _, .bl _=>True
 | _, .int i=>-(10 ^ 12)≤i∧i≤10 ^ 12
 | _, .str x=>zAi x=true
 | d, .lst ts=>1≤d∧ts.length≤4∧NiceL (d - 1) ts
 | d, .dic ks ts=>1≤d∧ts.length≤4∧ks.length=ts.length∧ks.Nodup∧(∀k∈ks,yJ k=true)∧NiceL (d - 1) ts
 | _, .tup _=>False
def NiceL:Nat→List T→Prop
 | _,[]=>True
 | d,t::ts=>Nice d t∧NiceL d ts
end
theorem zG{H:Hp}{p:Addr}(h:H p=none)(o:HO):Same H (upd H p o):=fun b u q=>by rw[zO (zX q h)];exact q
section
variable{K:W.Frag}{H:Hp}{Q:VK}{a b:Addr}{xs ys:List V}
theorem yAl{neg:Bool}(h1:SqL K H a xs)(h2:SqL K H b ys)(f1:xs.all qR=true)(f2:ys.all qR=true)(q:Q (.bl (if neg then !zAh xs ys else zAh xs ys)) H):rEqL K neg (.ref a) (.ref b) H Q:=
 ⟨a,b,xs,ys,rfl,rfl,h1,h2,f1,f2,q⟩
theorem yK{i:Int}{v:V}(h1:SqL K H a xs)(h2:atI xs i=some v)(q:Q v H):zTq K (.ref a) (.int i) H Q:=⟨a,xs,i,v,rfl,rfl,h1,h2,q⟩
theorem wM{i:Int}{v:V}(h1:SqT K H a xs)(h2:atI xs i=some v)(q:Q v H):zRm K (.ref a) (.int i) H Q:=⟨a,xs,i,v,rfl,rfl,h1,h2,q⟩
theorem kT{z:Str}{i:Int}{c:Nat}(h1:z.length≤sizeLine)(h2:atI (ts z) i=some c)(q:Q (.str (tx [c])) H):zZk (.str z) (.int i) H Q:=⟨z,i,c,rfl,rfl,h1,h2,q⟩
end
theorem yCu{α:Type}{xs:List α}{i:Int}(h0:0≤i)(h1:i<xs.length):∃v,atI xs i=some v∧v∈xs:=by
 obtain⟨j,rfl⟩:=sU h0;have hj:j<xs.length:=by lia
 exact⟨xs[j],yM (by simp[hj]),aH hj⟩
theorem vW{α:Type}{xs:List α}{i:Int}{d:α}(h0:0≤i)(h1:i<xs.length):atI xs i=some (xs.getD i.toNat d):=by
 obtain⟨j,rfl⟩:=sU h0;have hj:j<xs.length:=by lia
 refine yM ?_;simp[List.getD,hj]
theorem zBo{x:Str}{F:List (Str×Nat)}{J:It}{n:Nat}{tt:TT}{te:TE}{σ:St}{Q:VK}{H1:Hp}(Pv:Nat→List V→Hp→Prop)(hn:n≤sizeLine)(h0:Pv 0 [] H1)(hgo:∀i ys H,i<n→Pv i ys H→J.go i H)
  (hst:∀ys H,Pv n ys H→J.stop n H)
  (hs:∀i ys H y H2,i<n→ys.length≤i→Pv i ys H→J.yld i H y H2→tt (some y::F.map (fun p=>(σ[p.2]?).join)) H2 fun b H3=>if b=true then te (some y::F.map (fun p=>(σ[p.2]?).join)) H3 fun z H4=>Pv (i+1) (ys++ [z]) H4 else Pv (i+1) ys H3)
  (hd:∀ys H,ys.length≤n→Pv n ys H→∀p,H p=none→Q (.ref p) (upd H p (.lst ys))):wF [x] F (wY 0) tt te σ Q J H1:=by
 refine⟨fun i m ys H=>m=n - i∧i≤n∧Pv i ys H,⟨n,by simp,pB _,h0⟩, ?_⟩;rintro i m ys H ⟨rfl,hi,p⟩ hl
 by_cases hlt:i<n
 ·refine .inr ⟨hgo i ys H hlt p,by lia,Pv (i+1),fun ys' H'' q=>⟨n - (i+1),by lia,rfl,hlt,q⟩,fun y H2 hy=>?_⟩
  exact⟨zVp (i:=0) rfl,hs i ys H y H2 hlt hl p hy⟩
 ·have e:i=n:=by lia
  subst e;exact .inl ⟨hst ys H p,hn,hd ys H hl p⟩
theorem vK{x:Str}{F:List (Str×Nat)}{lo:Int}{n:Nat}{te:TE}{σ:St}{Q:VK}{H1:Hp}(Pv:Nat→List V→Hp→Prop)(hn:n≤sizeLine)(h0:Pv 0 [] H1)
  (hs:∀(i:Nat) ys H,i<n→ys.length≤i→Pv i ys H→te (some (.int (lo+i))::F.map (fun p=>(σ[p.2]?).join)) H fun z H4=>Pv (i+1) (ys++ [z]) H4)
  (hd:∀ys H,ys.length≤n→Pv n ys H→∀p,H p=none→Q (.ref p) (upd H p (.lst ys))):wF [x] F (wY 0) zAu te σ Q (Itr lo n) H1:=
 zBo Pv hn h0 (fun i _ _ h _=>h) (fun _ _ _=>mD _) (fun i ys H y H2 h1 h2 h3 h4=>by
  obtain⟨rfl,rfl⟩:=h4;exact hs i ys _ h1 h2 h3) hd
theorem zDq{x:Str}{F:List (Str×Nat)}{w:Str}{tt:TT}{te:TE}{σ:St}{Q:VK}{H1:Hp}(Pv:Nat→List V→Hp→Prop)(hn:(ts w).length≤sizeLine)(h0:Pv 0 [] H1)
  (hs:∀i c ys H,(ts w)[i]? =some c→ys.length≤i→Pv i ys H→tt (some (.str (tx [c]))::F.map (fun p=>(σ[p.2]?).join)) H fun b H3=>if b=true then te (some (.str (tx [c]))::F.map (fun p=>(σ[p.2]?).join)) H3 fun z H4=>Pv (i+1) (ys++ [z]) H4 else Pv (i+1) ys H3)
  (hd:∀ys H,ys.length≤(ts w).length→Pv (ts w).length ys H→∀p,H p=none→Q (.ref p) (upd H p (.lst ys))):wF [x] F (wY 0) tt te σ Q (Its w) H1:=
 zBo Pv hn h0 (fun i _ _ h _=>h) (fun _ _ _=>mD _) (fun i ys H y H2 h1 h2 h3 h4=>by
  obtain⟨rfl,c,hc,rfl⟩:=h4;exact hs i c ys _ hc h2 h3) hd
section
variable{X:Cx}{x:Str}{pos:Pos}
theorem zTn{z:Str}(hg:Gl X x)(h:∃t,X.mg x=some (.str z t))(hd:(x==("__debug__" :Str))=false:=by decide):PE X (.Name x pos) (tC (.str z)):=by
 obtain⟨t,h⟩:=h;exact zNh hg h ⟨t,rfl⟩ hd
theorem zBa{z:Int}(hg:Gl X x)(h:∃t,X.mg x=some (.int z t))(hd:(x==("__debug__" :Str))=false:=by decide):PE X (.Name x pos) (tC (.int z)):=by
 obtain⟨t,h⟩:=h;exact zNh hg h ⟨t,rfl⟩ hd
end
theorem yBh{CX:CXT}{P:Program}{w:World}{K:W.Frag}{mg:Str→Option Value}{base:Heap}{N:List Str}{qual:Str}{scope:Scope}{f:Addr}{cd:Value}{A:Around}{outer:List Env}{s:Shared}{H:Hp}{E:XK}:(zBg CX P w K mg base N qual scope f cd A outer s H E).K=K:=rfl
theorem nox_K{X:Cx}:X.nox.K=X.K:=rfl
theorem zTh{X:Cx}{own:List Str}{F:List (Str×Nat)}{scope:Scope}{C:Addr}{s₃:Shared}{H₃:Hp}{ex:List Addr}:(wB X own F scope C s₃ H₃ ex).K=X.K:=rfl
theorem zPm(ns:List Int):(ns.map V.int).all qR=true:=by
 rw[rW];exact nV.mpr fun _ _=>rfl
theorem zTb(xs:List V):zAh xs []=xs.isEmpty:=by cases xs<;>rfl
end L2
namespace L2
theorem zTs:Int.natAbs 10=10:=rfl
end L2
namespace L2
open PySem PySem.Spec PyProof.Rows
def zYa(g:TG)(tb:TS)(D:gR)(σ:St)(J:It)(H1:Hp):Prop:=∃W:Nat→Nat→St→Hp→Prop,(∃m,W 0 m σ H1)∧∀i m σ H,W i m σ H→
 (J.stop i H∧D.nx σ H)∨(J.go i H∧∃N:St→Hp→Prop,(∀σ' H',N σ' H'→∃m',m'<m∧W (i+1) m' σ' H')∧∀x H',J.yld i H x H'→g x σ H' fun σ2 H2=>tb {D with nx:=N,ct:=N,bk:=D.nx} σ2 H2)
theorem zXq(wi:TI)(g:TG)(tb:TS)(D:gR)(σ:St)(H:Hp):tFor wi g tb D σ H=wi σ H fun J H1=>zYa g tb D σ J H1:=rfl
theorem kD{lo:Int}{n:Nat}{g:TG}{tb:TS}{D:gR}{σ:St}{H:Hp}(Pv:Nat→St→Hp→Prop)(h0:Pv 0 σ H)
  (hs:∀i σ H,i<n→Pv i σ H→g (.int (lo+i)) σ H fun σ2 H2=>tb {D with nx:=Pv (i+1),ct:=Pv (i+1),bk:=D.nx} σ2 H2) (hd:∀σ H,Pv n σ H→D.nx σ H):zYa g tb D σ (Itr lo n) H:=zPu Pv h0 hs hd
theorem jD{K:W.Frag}{a:Addr}{xs:List V}{g:TG}{tb:TS}{D:gR}{σ:St}{H:Hp}(Pv:Nat→St→Hp→Prop)(h0:Pv 0 σ H)(hl:∀i σ H,i≤xs.length→Pv i σ H→SqL K H a xs)
  (hs:∀i x σ H,xs[i]? =some x→Pv i σ H→g x σ H fun σ2 H2=>tb {D with nx:=Pv (i+1),ct:=Pv (i+1),bk:=D.nx} σ2 H2) (hd:∀σ H,Pv xs.length σ H→D.nx σ H):zYa g tb D σ (Itl K a) H:=zVn Pv h0 hl hs hd
section
variable{X:Cx}
theorem zFn:xS X (.type "int") (fun xs H Q=>∃k,xs= [.bl k]∧Q (.int (if k then 1 else 0)) H):=fun pins s σ H xs us Q I r h=>zOq pins s σ H xs us Q I r (.inr h)
theorem zY:xS X (.builtin "len") (fun xs H Q=>∃p,xs= [.ref p]∧∃ys,SqL X.K H p ys∧Q (.int ys.length) H):=fun pins s σ H xs us Q I r ⟨p,e,ys,h,q⟩=>vR pins s σ H xs us Q I r ⟨p,ys,e, .inl h,q⟩
end
abbrev nK(k:List Nat):Key:=Sum.inr (tx k)
theorem zDk{a b:List Nat}(h:nK a=nK b):a=b:=by
 have e:tx a=tx b:=Sum.inr.inj h;rw[←xD a,e,xD]
theorem Reps.repl{H:Hp}{k:Key}{v:V}{t:T}(hv:Rep H v t):∀{ps:List (Key×V)}{ts:List T},Reps H (ps.map (·.2)) ts→∃ts',Reps H ((ps.map fun kv=>if kv.1=k then(kv.1,v) else kv).map (·.2)) ts'∧ts'.length=ts.length∧∀u∈ts',u∈ts∨u=t
 | [],ts,h=>⟨ts,h,rfl,fun u hu=>.inl hu⟩
 | p::ps,[],h=>by
  have h':(p::ps).map (·.2)= []:=h;cases h'
 | p::ps,u::ts,⟨v',r,e,h1,h2⟩=>by
  have e':p.2::ps.map (·.2)=v'::r:=e;injection e' with e1 e2;subst e1 e2;obtain⟨ts',r',l',m'⟩:=Reps.repl hv h2
  by_cases hk:p.1=k
  ·refine⟨t::ts',⟨v,_, ?_,hv,r'⟩,by simp[l'],fun z hz=>?_⟩
   ·rw[mY,mK hk,mY]
   ·rcases mG.mp hz with q | q
    ·exact .inr q
    ·exact(m' z q).imp (mH _) id
  ·refine⟨u::ts',⟨p.2,_, ?_,h1,r'⟩,by simp[l'],fun z hz=>?_⟩
   ·rw[mY,mI hk,mY]
   ·rcases mG.mp hz with q | q
    ·exact .inl (by rw[q];exact mF)
    ·exact(m' z q).imp (mH _) id
theorem zWb{H:Hp}{ps:List (Key×V)}{ks:List (List Nat)}{ts:List T}{n:List Nat}{v:V}{t:T}(hk:ps.map (·.1)=ks.map nK)(hR:Reps H (ps.map (·.2)) ts)(nd:ks.Nodup)(hv:Rep H v t):
  ∃(ks':List (List Nat))(ts':List T),(vP ps (nK n) v).map (·.1)=ks'.map nK∧Reps H ((vP ps (nK n) v).map (·.2)) ts'∧ks'.Nodup∧(∀k∈ks',k∈ks∨k=n)∧(∀u∈ts',u∈ts∨u=t)∧ks'.length≤ks.length+1:=by
 unfold vP
 by_cases h:(ps.any fun kv=>decide (kv.1=nK n))=true
 ·rw[mK h]
  obtain⟨ts',r',l',m'⟩:=Reps.repl (k:=nK n) hv hR;refine⟨ks,ts', ?_,r',nd,fun k hk=>.inl hk,m',rJ _⟩;rw[←hk,pQ];apply rL;intro p _;show(if p.1=nK n then(p.1,v) else p).1=p.1;split<;>rfl
 ·rw[mI h]
  refine⟨ks++ [n],ts++ [t],by rw[nA,hk,nA];rfl,by rw[nA];exact Reps.snoc hv hR, ?_,fun k hk=>?_,fun u hu=>?_,by simp⟩
  ·refine zBv nd fun hm=>h (cJ.mpr ?_)
   have hm':nK n∈ps.map (·.1):=by rw[hk];exact nM.mpr ⟨n,hm,rfl⟩
   obtain⟨p,hp,e⟩:=nM.mp hm';exact⟨p,hp,mZ e⟩
  ·rcases nD.mp hk with q | q
   ·exact .inl q
   ·exact .inr (mP.mp q)
  ·rcases nD.mp hu with q | q
   ·exact .inl q
   ·exact .inr (mP.mp q)
theorem NiceL_iff{d:Nat}:∀{ts:List T},NiceL d ts↔∀t∈ts,Nice d t
 | []=>⟨fun _ _ h=>(nomatch h),fun _=>trivial⟩
 | u::ts=>by
  show(Nice d u∧NiceL d ts)↔_;rw[NiceL_iff (ts:=ts)];exact⟨fun h t ht=>(mG.mp ht).elim (fun e=>e▸h.1) (h.2 t),fun h=>⟨h u mF,fun t ht=>h t (mH _ ht)⟩⟩
theorem zGu:ts (Str.ofString "abcdefghijklmnopqrstuvwxyz0123456789")=letL++qM:=by decide+kernel
theorem yBs:ts (Str.ofString "abcdefghijklmnopqrstuvwxyz")=letL:=by decide+kernel
theorem yCr:ts (Str.ofString "0123456789")=qM:=by decide+kernel
theorem ts_a:ts (Str.ofString "a")= [97]:=by decide+kernel
theorem ts_q:ts (Str.ofString "'")= [39]:=by decide+kernel
theorem zLv:Str.ofString "" =tx []:=by decide+kernel
theorem zBi(c k:Nat):(List.replicate k [c]).flatten=List.replicate k c:=by
 induction k with
 | zero=>rfl
 | succ k ih=>rw[pA,pP,ih,pA];rfl
theorem zAk{w:List Nat}(h1:w.length≤12)(h3:∃c r,w=c::r∧c∈letL)(h4:∀c∈w,c∈letL++qM):yJ w=true:=by
 obtain⟨c,r,rfl,hc⟩:=h3;unfold yJ;simp only[nZ,pC,nV];exact⟨⟨⟨by simp,h1⟩,hc⟩,h4⟩
theorem zEp{w:List Nat}(h1:w.length≤30)(h4:∀c∈w,c∈sgnL):zAi w=true:=by
 unfold zAi;simp only[nZ,pC,nV];exact⟨h1,h4⟩
theorem yDd{i:Int}(h0:0≤i)(h1:i<26):∃c,atI (letL++qM) i=some c∧c∈letL:=by
 obtain⟨j,rfl⟩:=sU h0;have hj:j<26:=by lia
 have hj':j<letL.length:=hj;refine⟨letL[j],yM (by rw[pU hj'];simp[hj']),aH hj'⟩
theorem zMc:97∈letL:=by decide
theorem zAb{c:Nat}(h:c∈letL):c∈letL++qM:=pT _ h
end L2
namespace L2
end L2
namespace L2
open PySem PySem.Spec PyProof.Rows
theorem yCt:Str.ofString " !\"#$&'()*+,-./0123456789:;<=>?@ABCDEFGHIJKLMNOPQRSTUVWXYZ[\\]^_`" ++Str.ofString "abcdefghijklmnopqrstuvwxyz{|}~" =tx sgnL:=by decide+kernel
theorem yCj:39∈sgnL:=by decide
theorem kC(cs:List Nat):((cs.map fun c=>tx [c]).map ts).flatten=cs:=by
 induction cs with
 | nil=>rfl
 | cons d r ih=>simp only[mY,pP,ih,xD];rfl
theorem HOk.sim{P:Program}{w:World}{H H':Hp}{h:Heap}(ok:HOk P w H h)(ho:∀b a,H b=some (.own a)→H' b=some (.own a))(ht:∀b xs,H b=some (.tup xs)→H' b=some (.tup xs))
  (hs:∀b u,H' b=some u→H b=some u∨(∃o,H b=some (.frz o u))∨∃o u',u= .frz o u'∧H b=some u'∧h.get? b=some o):HOk P w H' h:=fun b u e=>by
 rcases hs b u e with q |⟨o,q⟩|⟨o,u',rfl,q,g⟩
 ·exact(ok b u q).stay (fun _ _ _ z=>z) (fun c z=>ho c b z) fun c xs z=>ht c xs z
 ·obtain⟨_,z⟩:=(show ObjOk P w H h b (.frz o u) from ok b _ q)
  exact z.stay (fun _ _ _ z=>z) (fun c z=>ho c b z) fun c xs z=>ht c xs z
 ·exact⟨g,(ok b u' q).stay (fun _ _ _ z=>z) (fun c z=>ho c b z) fun c xs z=>ht c xs z⟩
section
variable{X:Cx}{pins:List (Addr×Obj)}{σ σ':St}{H H':Hp}{s s':Shared}
theorem Inv.sim(I:Inv X pins σ H s)(hn:∀b,H b=none→H' b=none)(ho:∀b a,H b=some (.own a)→H' b=some (.own a))(ht:∀b xs,H b=some (.tup xs)→H' b=some (.tup xs))
  (hb:∀b ps,H b=some (.tbl ps)→H' b=some (.tbl ps)) (hf:∀b o u,X.H₀ b=some (.frz o u)→H' b=some (.frz o u))
  (hs:∀b u,H' b=some u→H b=some u∨(∃o,H b=some (.frz o u))∨∃o u',u= .frz o u'∧H b=some u'∧s.heap.get? b=some o):Inv X pins σ H' s:=
 ⟨I.ok,I.os,I.bare,⟨I.base.keep,I.base.slot,fun b o e n hx=>hn b (I.base.free b o e n hx),I.base.there,fun b xs e=>ht b xs (I.base.tups b xs e),hf,fun b ps e=>by
  obtain⟨m,q⟩:=I.base.tbls b ps e;exact⟨m,hb b _ q⟩⟩,I.loc,I.cell,hn _ I.free,fun x c e=>hn _ (I.freeC x c e),fun p hp=>by
  obtain⟨a,b,c,d,e⟩:=I.pin p hp;exact⟨a,hn _ b,c,d,e⟩,I.hok.sim ho ht hs,I.len⟩
theorem Inv.freeze{d:Addr}{kvs:List (Key×V)}{o:Obj}(I:Inv X pins σ H s)(h:H d=some (.dK kvs))(hg:s.heap.get? d=some o):Inv X pins σ (upd H d (.frz o (.dK kvs))) s:=by
 have ne:∀b u,H b=u→u≠some (.dK kvs)→b≠d:=fun b u e n z=>by subst z;exact n (e.symm.trans h)
 refine I.sim (fun b e=>by rw[zO (ne b _ e (by intro z;cases z))];exact e) (fun b a e=>by rw[zO (ne b _ e (by intro z;cases z))];exact e) (fun b a e=>by rw[zO (ne b _ e (by intro z;cases z))];exact e)
  (fun b a e=>by rw[zO (ne b _ e (by intro z;cases z))];exact e) (fun b o' u e=>?_) fun b u e=>?_
 ·have e':=I.base.frzs b o' u e
  rw[zO (ne b _ e' (by intro z;cases z))];exact e'
 ·by_cases hb:b=d
  ·subst hb
   rw[zE] at e;cases e;exact .inr (.inr ⟨o,_,rfl,h,hg⟩)
  ·rw[zO hb] at e;exact .inl e
def thaw(H H':Hp):Hp:=fun b=>match H b with
 | some (.frz _ _)=>H' b
 | _=>match H' b with
  | some (.frz _ u)=>some u
  | y=>y
theorem zJe{b:Addr}{o:Obj}{u:HO}(h:H b=some (.frz o u)):thaw H H' b=H' b:=by unfold thaw;rw[h]
theorem zOv{b:Addr}(h:H' b=none):thaw H H' b=none:=by unfold thaw;rw[h];split<;>rfl
theorem wI{b:Addr}{u:HO}(h:H' b=some u)(n:∀o v,u≠ .frz o v):thaw H H' b=some u:=by
 unfold thaw;rw[h];split
 ·rfl
 ·cases u<;>first | rfl | exact absurd rfl (n _ _)
theorem zXa{b:Addr}{o:Obj}{u:HO}(h:H' b=some (.frz o u))(n:∀o v,H b≠some (.frz o v)):thaw H H' b=some u:=by
 unfold thaw;rw[h]
 cases e:H b with
 | none=>rfl
 | some v=>cases v<;>first | rfl | exact absurd e (n _ _)
theorem zUw{b:Addr}{u:HO}(h:thaw H H' b=some u):H' b=some u∨∃o,H' b=some (.frz o u):=by
 unfold thaw at h;split at h
 ·exact .inl h
 ·split at h
  ·rename_i o v e
   cases h;exact .inr ⟨_,e⟩
  ·exact .inl h
theorem Inv.thaw(I:Inv X pins σ H s)(J:Inv X pins σ' H' s'):Inv X pins σ' (thaw H H') s':=
 J.sim (fun b e=>zOv e) (fun b a e=>wI e (by intro o v z;cases z)) (fun b a e=>wI e (by intro o v z;cases z)) (fun b a e=>wI e (by intro o v z;cases z))
  (fun b o u e=>by rw[zJe (I.base.frzs b o u e)];exact J.base.frzs b o u e) fun b u e=>(zUw e).imp id .inl
theorem zEz{H H':Hp}(h:∀b u,H b=some u→H' b=some u∨((∃o,H' b=some (.frz o u))∧∀o v,u≠ .frz o v)):Same H (L2.thaw H H'):=fun b u e=>by
 rcases h b u e with q |⟨⟨o,q⟩,n⟩
 ·cases u with
  | frz o v=>rw[zJe e];exact q
  | _=>exact wI q (by intro o v z;cases z)
 ·refine zXa q fun o' v z=>?_
  rw[e] at z;cases z;exact n _ _ rfl
def zQz(t:TE):TE:=fun σ H Q=>t σ H fun v H'=>Q v (thaw H H')
theorem uO{e:Expr}{t:TE}(h:PE X e t):PE X e (zQz t):=by
 intro pins s σ H Q I q;refine thn (h pins s σ H _ I q) fun u s1 ⟨v,H1,I1,r,q1⟩=>⟨v,_,I.thaw I1,r,q1⟩
end
theorem KV.get{κ:Type}:∀{kvs:List (κ×V)}{vs:List (κ×Value)}{i:Nat}{kv:κ×V},KV kvs vs→kvs[i]? =some kv→∃q,vs[i]? =some q∧kv.1=q.1∧RelV kv.2 q.2
 | _,_,_,_, .nil,e=>by simp at e
 | _,_,0,_, .cons r _,e=>by simp at e;subst e;exact⟨_,rfl,r⟩
 | _,_,i+1,x, .cons _ t,e=>by
  obtain⟨u,h1,h2⟩:=KV.get (i:=i) (kv:=x) t (by simpa using e);exact⟨u,by simpa using h1,h2⟩
theorem zHi{P:Program}{w:World}{k:Key}{u:Value}(h:(yL P w).is k u=true):RelV (kV k) u:=by
 rcases xH (show zDt k u=true from h) with⟨i,t,rfl,rfl⟩|⟨x,t,rfl,rfl⟩
 ·exact⟨t,rfl⟩
 ·exact⟨t,rfl⟩
theorem gJ{P:Program}{w:World}{H:Hp}{h:Heap}{d:Addr}{o:Obj}{kvs:List (Key×V)}{es:Array DictEntry}{ep:Nat}(ok:HOk P w H h)(e:H d=some (.frz o (.dK kvs)))(he:o.data= .dict es ep):
  ∃vs,KV kvs vs∧h.DictAt (yL P w) d vs ep∧(d==sysModules)=false∧kvs.length≤sizeLine:=by
 obtain⟨g,z,hd,vs,rel,o',es',ep',ho,c,hdat,r⟩:=(show ObjOk P w H h d (.frz o (.dK kvs)) from ok d _ e);rw[g] at ho;cases ho;rw[he] at hdat;cases hdat;exact⟨vs,rel,⟨o,es,g,c,he,r⟩,hd,z⟩
def Itd(d:Addr)(o:Obj)(kvs:List (Key×V)):It:=
 ⟨fun i H=>i<kvs.length∧H d=some (.frz o (.dK kvs)),fun i H y H'=>H'=H∧∃kv,kvs[i]? =some kv∧y=kV kv.1,fun i H=>kvs.length≤i∧H d=some (.frz o (.dK kvs))⟩
theorem zOy{P:Program}{w:World}{K:W.Frag}{tg:Expr}(d it:Addr)(o:Obj)(kvs:List (Key×V)):yCn P w K tg (Itd d o kvs) [it] it (fun i h=>∃es ep,o.data= .dict es ep∧h.IsKeyIter it d i kvs.length ep) where
 mem:=by simp
 obj:=fun i h st b hb=>by
  obtain⟨es,ep,_,ob,e,c,dd⟩:=st;have e':b=it:=by simpa using hb
  subst e';exact⟨ob,e,fun v z=>by rw[dd] at z;cases z⟩
 keep:=fun i h h' st k=>by
  obtain⟨es,ep,a,st⟩:=st;exact⟨es,ep,a,st.at fun ob e=>k it (by simp) ob e⟩
 item:=by
  intro X hP hw hK hc i pins s σ H E I hf st hg;subst hP hw hK;obtain⟨es,ep,hes,st⟩:=st;obtain⟨hi,hg⟩:=hg;obtain⟨vs,rel,hm,_,_⟩:=gJ I.hok hg hes;obtain⟨f0,f1,f2,f3,f4,f5⟩:=hf it (by simp);have hl:=rel.length;obtain⟨kv,hkv⟩:∃kv,kvs[i]? =some kv:=⟨kvs[i],by simp[hi]⟩;obtain⟨q,hq,hq1,hq2⟩:=KV.get rel hkv;rw[hl] at st;refine wpAny_pyNext_dict_item (k:=q.1) (v:=q.2) st hm hq fun key h' hk st' sb=>?_;have I1:Inv X pins σ H {s with heap:=h'}:=I.turned (t':=s.toks) (fun b o hb e=>(sb.2 b hb).trans e) f0 f1 f3 f4 f5;obtain⟨ob,e,c,dd⟩:=id st';exact⟨key,rfl,zEl (s:={s with heap:=h'}) e c dd (by decide) ⟨kV kv.1,H,I1,by rw[hq1];exact zHi hk,⟨rfl,kv,hkv,rfl⟩,⟨es,ep,hes,by rw[hl];exact st'⟩,fun b hb=>(hf b hb).1⟩⟩
 done:=by
  intro X hP hw hK hc i pins s σ H E I hf st hg;subst hP hw hK;obtain⟨es,ep,hes,st⟩:=st;obtain⟨hi,hg⟩:=hg;obtain⟨vs,rel,hm,_,_⟩:=gJ I.hok hg hes;obtain⟨f0,f1,f2,f3,f4,f5⟩:=hf it (by simp);have hl:=rel.length;rw[hl] at st;exact wpAny_pyNext_dict_end (I.ok.hd.1 hc) st hm (by simp;lia) fun h' eb=>⟨rfl,I.turned (t':=s.toks) (fun b o hb e=>eb b o hb e) f0 f1 f3 f4 f5⟩
 self:=fun _ _ _ _ _ st h=>by
  obtain⟨es,ep,_,st⟩:=st;exact wpAny_pyIter_keyiter st h
def zSl(tl:TE):TI:=fun σ H R=>tl σ H fun x H1=>∃d kvs,x= .ref d∧((H1 d=some (.dK kvs)∧∀o,R (Itd d o kvs) (upd H1 d (.frz o (.dK kvs))))∨∃o,H1 d=some (.frz o (.dK kvs))∧R (Itd d o kvs) H1)
section
variable{X:Cx}
theorem zBm{tg l:Expr}{tl:TE}(hl:PE X l tl)(hcl:X.calm=true:=by rfl):PI X tg l (zSl tl):=by
 intro pins s σ H R I h;refine thn (hl pins s σ H _ I h) fun v s1 ⟨x,H1,I1,r1,q1⟩=>?_;obtain⟨d,kvs,rfl,q⟩:=q1;cases r1;have fin:∀o H2,Inv X pins σ H2 s1→H2 d=some (.frz o (.dK kvs))→R (Itd d o kvs) H2→wpAny (model X.prog X.w) X.A (pyIter (.ref d)) (PIE X pins σ tg R) X.xe s1:=fun o H2 I2 e q=>by
  obtain⟨g,z,hd,vs,rel,o',es,ep,ho,c,hdat,r⟩:=(show ObjOk X.prog X.w H2 s1.heap d (.frz o (.dK kvs)) from I2.hok d _ e);rw[g] at ho;cases ho;have hm:s1.heap.DictAt (yL X.prog X.w) d vs ep:=⟨o,es,g,c,hdat,r⟩;refine wpAny_pyIter_dict hd hm ?_;refine⟨s1.heap.objs.size,[s1.heap.objs.size],_,_,H2,rfl,I2.kept (t':=s1.toks) fun b o e=>mE _ e,⟨false,hcl,zOy d _ o kvs⟩,⟨es,ep,hdat,_,mX _ rfl,rfl,by rw[rel.length];rfl⟩,fun b hb=>?_,q⟩;have e:b=s1.heap.objs.size:=by simpa using hb
  subst e;exact I2.fpOk (mD _) (I2.hok.fresh (mD _))
 rcases q with⟨e,q⟩|⟨o,e,q⟩
 ·obtain⟨z,hd,vs,rel,o,es,ep,ho,_⟩:=(show ObjOk X.prog X.w H1 s1.heap d (.dK kvs) from I1.hok d _ e)
  exact fin o _ (I1.freeze e ho) zE (q o)
 ·exact fin o _ I1 e q
theorem gK{x:Str}{F:List (Str×Nat)}{d:Addr}{o:Obj}{kvs:List (Key×V)}{tt:TT}{te:TE}{σ:St}{Q:VK}{H1:Hp}(Pv:Nat→List V→Hp→Prop)(hn:kvs.length≤sizeLine)(h0:Pv 0 [] H1)(hz:∀i ys H,Pv i ys H→H d=some (.frz o (.dK kvs)))
  (hs:∀i kv ys H,kvs[i]? =some kv→ys.length≤i→Pv i ys H→tt (some (kV kv.1)::F.map (fun p=>(σ[p.2]?).join)) H fun b H3=>if b=true then te (some (kV kv.1)::F.map (fun p=>(σ[p.2]?).join)) H3 fun z H4=>Pv (i+1) (ys++ [z]) H4 else Pv (i+1) ys H3)
  (hd:∀ys H,ys.length≤kvs.length→Pv kvs.length ys H→∀p,H p=none→Q (.ref p) (upd H p (.lst ys))):wF [x] F (wY 0) tt te σ Q (Itd d o kvs) H1:=
 zBo Pv hn h0 (fun i ys H h p=>⟨h,hz i ys H p⟩) (fun ys H p=>⟨mD _,hz _ ys H p⟩) (fun i ys H y H2 h1 h2 h3 h4=>by
  obtain⟨rfl,kv,hkv,rfl⟩:=h4;exact hs i kv ys _ hkv h2 h3) hd
theorem xX{K:W.Frag}{x:Str}{F:List (Str×Nat)}{a:Addr}{xs:List V}{tt:TT}{te:TE}{σ:St}{Q:VK}{H1:Hp}(Pv:Nat→List V→Hp→Prop)(hn:xs.length≤sizeLine)(h0:Pv 0 [] H1)(hz:∀i ys H,i≤xs.length→Pv i ys H→SqL K H a xs)
  (hs:∀i v ys H,xs[i]? =some v→ys.length≤i→Pv i ys H→tt (some v::F.map (fun p=>(σ[p.2]?).join)) H fun b H3=>if b=true then te (some v::F.map (fun p=>(σ[p.2]?).join)) H3 fun z H4=>Pv (i+1) (ys++ [z]) H4 else Pv (i+1) ys H3)
  (hd:∀ys H,ys.length≤xs.length→Pv xs.length ys H→∀p,H p=none→Q (.ref p) (upd H p (.lst ys))):wF [x] F (wY 0) tt te σ Q (Itl K a) H1:=
 zBo Pv hn h0 (fun i ys H h p=>⟨xs,xs[i],hz i ys H (cR h) p,by simp[h]⟩) (fun ys H p=>⟨xs,hz _ ys H (mD _) p,mD _⟩) (fun i ys H y H2 h1 h2 h3 h4=>by
  obtain⟨rfl,hy⟩:=h4;exact hs i y ys _ (hy xs (hz i ys _ (cR h1) h3)) h2 h3) hd
def zEf(p d:Addr):HO:=.ext fun h=>h.IsValuesView p d
theorem zOc{κ:Type}:∀{kvs:List (κ×V)}{vs:List (κ×Value)},KV kvs vs→Vals (kvs.map (·.2)) (vs.map (·.2))
 | _,_, .nil=>.nil
 | _,_, .cons r t=>.cons r.2 (zOc t)
def zTc:V→List V→Hp→VK→Prop:=fun x vs H Q=>∃d kvs,x= .ref d∧vs= []∧Rd H d (.dK kvs)∧∀p,H p=none→Q (.ref p) (upd H p (zEf p d))
theorem zFr:MtR X "dict.values" zTc:=by
 intro pins s σ H x vs v us Q I rx rv h;obtain⟨d,kvs,rfl,rfl,hq,q⟩:=h;cases rx;cases rv;obtain⟨z,hd,ws,rel,dd⟩:=qU I.hok hq;refine call_meetsIn bR dd.typeIs PySem.F.entry_dict_values (PySem.F.args_dict_values_1 _) (meets_dict_values (yL X.prog X.w) d hd) ⟨⟨ws,dd⟩, ?_⟩;refine⟨.ref s.heap.objs.size,_,I.laid (t':=s.toks) (fun b o e=>mE _ e) (mD _) (o:=zEf s.heap.objs.size d) ?_,rfl,q _ (I.hok.fresh (mD _))⟩;exact⟨⟨_,mX _ rfl,rfl,rfl⟩,⟨_,mX _ rfl⟩,fun h1 h2 ⟨o,e,r⟩ k=>⟨o,k o e,r⟩⟩
theorem zBc(hc:X.cool=true):xS X (.type "list") (fun xs H Q=>∃p d kvs,xs= [.ref p]∧H p=some (zEf p d)∧Rd H d (.dK kvs)∧∀l,H l=none→Q (.ref l) (upd H l (.lst (kvs.map (·.2))))):=by
 intro pins s σ H xs us Q I r h;obtain⟨p,d,kvs,rfl,hp,hq,q⟩:=h;obtain⟨u,rfl,rx⟩:=wR r;cases rx;obtain⟨z,hd,vs,rel,dd⟩:=qU I.hok hq;obtain⟨hv,_⟩:=(show ObjOk X.prog X.w H s.heap p (zEf p d) from I.hok p _ hp);obtain⟨ep,hat⟩:=dd.dictAt;have hl:=rel.length;refine zKi (knd:=yL X.prog X.w) (kvs:=vs) (ep:=ep) (I.hn hc) hv hat (by lia) fun h' tk acc c' hk hg hi=>?_;refine⟨.ref s.heap.objs.size,_,I.laid (t':=tk) hk (mD _) (o:=.lst (kvs.map (·.2))) ?_,rfl,q _ (I.hok.fresh (mD _))⟩;have e:acc.toList=vs.map (·.2):=W.kdl_vals_eq acc.toList (by rw[aI];exact hi.1) (fun j v e=>hi.2 j v (by rw[←tS];exact e));exact⟨by rw[mJ];exact z,acc.toList,c',by rw[e];exact zOc rel,by simpa using hg⟩
end
theorem zHj:typeLookup (.type "list") "keys" =pure none:=am_miss_of_fast (by decide+kernel)
theorem gQ:entryFor table "dict.update.loop" =some Builtin.«dict.update.loop»:=entryFor_of_tree (by kernel_rfl)
theorem vG:plainId "dict.update.loop" =true:=by decide+kernel
section
variable{prog:Program}{w:World}{A:Around}{E:Value→Shared→Prop}
theorem zXg{κ:Type} [DecidableEq κ] (knd:KeyKind prog w κ)  {d it l:Addr} {items:Array Value} {ps:List (κ×Value)} {R:Result→Shared→Prop} (hdi:d≠it) (hdl:d≠l) (hil:it≠l) (hps:ps.length=items.size):
  ∀(n i:Nat)(s:Shared)(kvs:List (κ×Value)),items.size - i=n→i≤items.size→Hn A s.heap→s.heap.IsListIter it l i→s.heap.IsList l items→
   (∀(j:Nat) k v,ps[j]? =some (k,v)→∃a key,items[j]? =some (.ref a)∧a≠d∧a≠it∧IsTup s.heap a #[key,v]∧knd.is k key=true)→s.heap.DictOf knd d kvs→kvs.length+n≤sizeLine→
   (∀h' tk,h'.DictOf knd d ((ps.drop i).foldl (fun m kv=>stored m kv.1 kv.2) kvs)→(∀b o,b≠d→b≠it→s.heap.get? b=some o→h'.get? b=some o)→R (.ok (.ret .none)) {s with heap:=h',toks:=tk})→
   codeAny (model prog w) A (.builtin "dict.update.loop" ⟨[.ref d, .ref it,rawInt i, .none],[]⟩) R s:=by
 intro n
 induction n with
 | zero=>
  intro i s kvs hn hi hh hit hl hp hd hz hR;refine bK gQ ?_;rw[tZ vG _];unfold Builtin.«dict.update.loop»;show wpAny _ A.in1 (pyNext (.ref it)>>=_) _ _ s;refine mC (vY (A:=A.in1) hh hit hl (by simp;lia) fun h' eb=>?_);show wpAny _ _ (Builtin.Dict.addKeywords d []>>=fun _=>ret .none) _ _ _;refine mC (mM (mM (hR h' _ ?_ fun b o hb hi' e=>eb b o hi' e)));rw[rV (by lia)];exact hd.extBut eb hdi
 | succ n ih=>
  intro i s kvs hn hi hh hit hl hp hd hz hR;refine bK gQ ?_;rw[tZ vG _];unfold Builtin.«dict.update.loop»;have hlt:i<items.size:=by lia
  obtain⟨kv,hkv⟩:∃kv,ps[i]? =some kv:=⟨ps[i],by simp[hps,hlt]⟩;obtain⟨a,key,ha,had,hai,ht,hk⟩:=hp i kv.1 kv.2 hkv;show wpAny _ A.in1 (pyNext (.ref it)>>=_) _ _ s;refine mC (tI hit hl (x:=.ref a) ha fun h' st' sb=>?_);show wpAny _ _ (holding [Value.ref a] (Sem.tryCatch (Builtin.Dict.pairItems (.ref a)) _>>=_)>>=fun _=>again _) _ _ _;have kp:∀b o,b≠it→s.heap.get? b=some o→h'.get? b=some o:=fun b o hb e=>(sb.2 b hb).trans e;obtain⟨o,ho,hc,m,hdat⟩:=id ht;refine mC (pX (mC (bD ?_)));unfold Builtin.Dict.pairItems;refine mC (wpAny_typeOf (T:="tuple") ⟨o,kp a o hai ho,hc⟩ ?_);rw[mK (by decide)];refine mC (aE (kp a o hai ho) hdat (mM ?_));show wpAny _ _ (holding [key,kv.2] (dictSet d key kv.2)) _ _ _;refine pX (wpAny_dictSet_pairs hk (hd.sameBut sb hdi) (fun h2 hd2 sb2=>?_) (by lia));have kp2:∀b o,b≠d→b≠it→s.heap.get? b=some o→h2.get? b=some o:=fun b o hb hi' e=>(sb2.2 b hb).trans (kp b o hi' e);have hc':((i:Int)+1)=((i+1:Nat):Int):=by lia
  rw[hc'];refine mM ⟨tW vG _,ih (i+1) _ (stored kvs kv.1 kv.2) (by lia) (by lia) ?hn ?_ ?_ ?_ hd2 ?_ ?_⟩
  case hn=>
   obtain⟨oi,hoi,hci,_⟩:=id hit;obtain⟨od,_,_,hod,hcd,_⟩:=hd.sameBut sb hdi;exact(hh.ext hoi hci kp).ext hod hcd.1 fun b o hb e=>(sb2.2 b hb).trans e
  ·exact st'.at fun o e=>(sb2.2 it (Ne.symm hdi)).trans e
  ·obtain⟨ol,e1,e2⟩:=hl
   exact⟨ol,kp2 l ol (Ne.symm hdl) (Ne.symm hil) e1,e2⟩
  ·intro j k v e
   obtain⟨a',key',x1,x2,x3,⟨o',y1,y2⟩,x5⟩:=hp j k v e;exact⟨a',key',x1,x2,x3,⟨o',kp2 a' o' x2 x3 y1,y2⟩,x5⟩
  ·have:(stored kvs kv.1 kv.2).length≤kvs.length+1:=by
    unfold stored;split<;>simp
   lia
  ·intro h3 tk hd3 k3
   refine hR h3 tk ?_ fun b o hb hi' e=>k3 b o hb hi' (kp2 b o hb hi' e);have e:ps.drop i=kv::ps.drop (i+1):=by
    obtain⟨hlt',e'⟩:=nE.mp hkv;rw[aA hlt',e']
   rw[e,aS];exact hd3
end
section
variable{X:Cx}
theorem zIw{P:Program}{w:World}{H:Hp}{h:Heap}(ok:HOk P w H h):∀{kvs:List (Key×V)}{ys:List V}{its:List Value},Vals ys its→kvs.length=ys.length→(∀(j:Nat) kv,kvs[j]? =some kv→∃a,ys[j]? =some (.ref a)∧H a=some (.tup [kV kv.1,kv.2]))→
  ∃ps:List (Key×Value),KV kvs ps∧∀(j:Nat) k v,ps[j]? =some (k,v)→∃a key,its[j]? =some (.ref a)∧IsTup h a #[key,v]∧(yL P w).is k key=true
 | [],[],_, .nil,_,_=>⟨[], .nil,fun j k v e=>by simp at e⟩
 | kv::kvs,y::ys,_, .cons r t,hl,hp=>by
  obtain⟨ps,rel,h2⟩:=zIw ok (kvs:=kvs) t (by simpa using hl) fun j kv' e=>by
   obtain⟨a,e1,e2⟩:=hp (j+1) kv' (by simpa using e);exact⟨a,by simpa using e1,e2⟩
  obtain⟨a,e1,e2⟩:=hp 0 kv rfl;simp only[pJ,Option.some.injEq] at e1;subst e1;cases r;obtain⟨_,its2,rv,pl⟩:=(show ObjOk P w H h a (.tup [kV kv.1,kv.2]) from ok a _ e2);obtain⟨u1,u2,e3,r1,r2⟩:=zDc rv;subst e3;refine⟨(kv.1,u2)::ps, .cons ⟨rfl,r2⟩ rel,fun j k v e=>?_⟩
  cases j with
  | zero=>
   simp only[pJ,Option.some.injEq,Prod.mk.injEq] at e;obtain⟨rfl,rfl⟩:=e;exact⟨a,u1,rfl,pl,zDi r1⟩
  | succ j=>simpa using h2 j k v (by simpa using e)
 | [],_::_,_,_,hl,_=>by simp at hl
 | _::_,[],_,_,hl,_=>by simp at hl
theorem zAw(hc:X.cool=true):xS X (.type "dict") (fun xs H Q=>∃(p:Addr)(ys:List V)(kvs:List (Key×V)),xs= [.ref p]∧H p=some (.lst ys)∧kvs.length=ys.length∧(∀(j:Nat) kv,kvs[j]? =some kv→∃a,ys[j]? =some (.ref a)∧H a=some (.tup [kV kv.1,kv.2]))∧
  ∀l,H l=none→Q (.ref l) (upd H l (.dK (vE [] kvs)))):=by
 intro pins s σ H xs us Q I r h;obtain⟨p,ys,kvs,rfl,hq,hlen,hpair,q⟩:=h;obtain⟨u,rfl,rx⟩:=wR r;cases rx;obtain⟨hz,its,n,rv,hg⟩:=(show ObjOk X.prog X.w H s.heap p (.lst ys) from I.hok p _ hq);obtain⟨ps,rel,hps⟩:=zIw I.hok rv hlen hpair;have hl1:=rv.length;have hl2:=rel.length;have hplt:p<s.heap.objs.size:=mR hg;refine callType_codes (Q₁:=fun obj s₁=>obj= .ref s.heap.objs.size∧s₁={s with heap:=s.heap.push {cls:=.type "dict",data:=.dict #[]}}) F.kt_called_dict (F.kt_typeCall_dict_1 _) F.entry_dict_init (kt_code_dict_new _ ⟨rfl,rfl⟩) ?_;rintro obj s₁ ⟨rfl,rfl⟩;have hnew:(s.heap.push {cls:=.type "dict",data:=.dict #[]}).DictOf (yL X.prog X.w) s.heap.objs.size []:=Heap.DictOf.new s.heap;have hg1:=mE {cls:=.type "dict",data:=.dict #[]} hg;refine⟨hnew.typeIs,F.args_dict_init_2 _ _, ?_⟩;unfold Builtin.«dict.__init__»;refine mC ?_;unfold Builtin.Dict.selfAndRest;refine mC (wpAny_notOrdered_dict hnew.typeIs ?_);show wpAny _ _ (pure (s.heap.objs.size,[Value.ref p])) _ _ _;refine mM ?_;show wpAny _ _ (Builtin.Dict.updateFrom "dict.__init__" s.heap.objs.size (.ref p) [] .none) _ _ _;unfold Builtin.Dict.updateFrom;refine mC (wpAny_typeOf (T:="list") ⟨_,hg1,rfl⟩ ?_);rw[mK (by decide)];refine mC (zTr hg1 zHj (by decide+kernel) (A:=X.A.in1.in1) ((I.hn hc).keeps fun b o e=>mE _ e) (fun h2 tk2 k2=>?_));rw[mK (by rfl)];refine mC (bV (mC (cB (items:=its.toArray) ⟨_,k2 _ _ hg1,rfl,n,rfl⟩ ?_)));have k1:∀b o,s.heap.get? b=some o→h2.get? b=some o:=fun b o e=>k2 b o (mE _ e);have hd2:s.heap.objs.size<h2.objs.size:=mR (k2 _ _ (mX _ rfl));have hpl:∀b o,h2.get? b=some o→(h2.push {cls:=.type "list_iterator",data:=.fields #[.ref p, .int 0 0]}).get? b=some o:=fun b o e=>mE _ e;refine mM ⟨tW vG _,zXg (A:=X.A.in1) (yL X.prog X.w) (d:=s.heap.objs.size) (it:=h2.objs.size) (l:=p) (items:=its.toArray) (ps:=ps) (nL hd2) (pK hplt) (pK (cX hplt hd2)) (by simp;lia) _ 0 _ [] rfl (pB _) ((I.hn hc).keeps fun b o e=>hpl _ _ (k1 _ _ e)) ?_ ?_ ?_ ?_ ?_ ?_⟩
 ·exact⟨_,mX _ rfl,rfl,rfl⟩
 ·exact⟨_,hpl _ _ (k2 _ _ hg1),rfl,n,rfl⟩
 ·intro j k v e
  obtain⟨a,key,e1,⟨o,e2,e3⟩,e4⟩:=hps j k v e;have hlt:=mR e2;exact⟨a,key,by simpa using e1,nL hlt,nL (cX hlt hd2),⟨o,hpl _ _ (k1 _ _ e2),e3⟩,e4⟩
 ·obtain⟨o,es,ep,ho,rest⟩:=hnew
  exact⟨o,es,ep,hpl _ _ (k2 _ _ ho),rest⟩
 ·simp;lia
 ·intro h3 tk3 hd3 k3
  rw[rZ] at hd3;have k4:∀b o,s.heap.get? b=some o→h3.get? b=some o:=fun b o e=>k3 b o (nL (mR e)) (nL (cX (mR e) hd2)) (hpl _ _ (k1 _ _ e));refine⟨rfl, .ref s.heap.objs.size,_,I.laid (t':=tk3) k4 (mD _) (o:=.dK (vE [] kvs)) ?_,rfl,q _ (I.hok.fresh (mD _))⟩;have hm:(vE [] kvs).length≤kvs.length:=by
   have:=qS kvs []
   simpa using this
  exact zGr (by lia) (sX.mpr (Ne.symm (nL I.big))) (KV.merge rel .nil) hd3
end
structure Bl2(mg:Str→Option Value):Prop extends Bl mg where
 max:mg "max" =none
 min:mg "min" =none
 sorted:mg "sorted" =none
def mxI(b z:Int):Int:=if z>b then z else b
def mxD(k:Int):List Int→Int
 | []=>k
 | b::r=>r.foldl mxI b
theorem zWd(a d:Value):argsOk "max" ⟨[a],[("default",d)]⟩:=by unfold argsOk;kernel_rfl
section
variable{prog:Program}{w:World}{A:Around}
theorem zXe{it l S:Addr}{items:List Value}{ns:List Int}(hi:Vals (ns.map V.int) items)(hSi:S≠it)(hSl:S≠l)(hil:it≠l)(dv:Value){R:Result→Shared→Prop}:
  ∀(n i:Nat)(s:Shared)(c:Nat)(b:Int)(tb:Tok),ns.length - i=n→i≤ns.length→Hn A s.heap→s.heap.IsListIter it l i→s.heap.IsList l items.toArray→s.heap.get? S=some {cls:=.type "list",dict:=none,data:=.seq #[.int b tb, .int b tb] c,slots:=#[]}→
   (∀h' tk t,(∀x o,x≠S→x≠it→s.heap.get? x=some o→h'.get? x=some o)→R (.ok (.ret (.int ((ns.drop i).foldl mxI b) t))) {s with heap:=h',toks:=tk})→
   codeAny (model prog w) A (.builtin "max.loop" ⟨[.ref it, .none, .ref S],[("default",dv)]⟩) R s:=by
 have hnm:(toString "max" ++toString ".loop" :String)= "max.loop":=by decide
 intro n
 induction n with
 | zero=>
  intro i s c b tb hn hin hh st hl hS hR;refine bK eJ ?_;rw[tZ tD _];show wpAny _ A.in1 (seqItems? (.ref S)>>=_) _ _ s;refine mC (aE hS rfl ?_);have hlen:=hi.length;rw[mJ] at hlen;refine mC (bD (vY (A:=A.in1) hh st hl (by simp;lia) fun h' eb=>?_));show wpAny _ A.in1 (updateSeq S (fun _=>#[])>>=_) _ _ _;refine mC (aP (eb S _ hSi hS) rfl (mC (aY (mM ?_))));have q:=hR (h'.update S (Obj.mapSeq fun _=>#[])) s.toks tb fun x o hx hxi e=>(mO _ _ (Ne.symm hx)).trans (eb x o hxi e);rw[rV (by lia)] at q;exact q
 | succ n ih=>
  intro i s c b tb hn hin hh st hl hS hR;have hlt:i<ns.length:=by lia
  have hlen:=hi.length;rw[mJ] at hlen;obtain⟨z,hz⟩:∃z,ns[i]? =some z:=⟨ns[i],by simp[hlt]⟩;obtain⟨u,ht,t,rfl⟩:=hi.get (i:=i) (x:=.int z) (by rw[nI,hz];rfl);have ed:ns.drop i=z::ns.drop (i+1):=by
   obtain⟨h1,e1⟩:=nE.mp hz;rw[aA h1,e1]
  refine bK eJ ?_;rw[tZ tD _];show wpAny _ A.in1 (seqItems? (.ref S)>>=_) _ _ s;refine mC (aE hS rfl ?_);refine mC (bD (tI st hl (x:=.int z t) (by simpa using ht) fun h' st' sb=>?_));have kp:∀x o,x≠it→s.heap.get? x=some o→h'.get? x=some o:=fun x o hx e=>(sb.2 x hx).trans e;have hS':=kp S _ hSi hS;obtain⟨oi,hoi,hci,_⟩:=id st;have hh':Hn A h':=hh.ext hoi hci kp;have hl':h'.IsList l items.toArray:=by
   obtain⟨o,e1,e2⟩:=hl;exact⟨o,kp l o (Ne.symm hil) e1,e2⟩
  show wpAny _ A.in1 (tryCatch (holding [Value.int z t,Value.int z t] (richCompare .Gt (.int z t) (.int b tb)>>=_)) _>>=_) _ _ _;refine mC (bD (pX (mC (show wpAny (model prog w) A.in1 (compareOp .Gt (.int z t) (.int b tb)) _ _ _ from gt_int ?_))));refine mC (pX (pG (mC (aY (mM ?_)))))
  by_cases hb:z>b
  ·rw[mZ hb,mK rfl]
   refine mC (aP hS' rfl (mC (aY ?_)));rw[hnm];refine mM ⟨tW tD _,ih (i+1) _ _ z t (by lia) (by lia) (hh'.ext hS' rfl fun b o hb e=>(mO _ _ (Ne.symm hb)).trans e) ?_ ?_ (rA _ hS' rfl) fun h2 tk t2 k2=>?_⟩
   ·exact st'.at fun o e=>(mO _ _ hSi).trans e
   ·obtain⟨o,e1,e2⟩:=hl'
    exact⟨o,(mO _ _ hSl).trans e1,e2⟩
   ·have q:=hR h2 tk t2 fun x o hx hxi e=>k2 x o hx hxi ((mO _ _ (Ne.symm hx)).trans (kp x o hxi e))
    rw[ed,aS,show mxI b z=z from mK hb] at q;exact q
  ·rw[nJ hb,mI mW]
   refine mC (aY ?_);rw[hnm];refine mM ⟨tW tD _,ih (i+1) _ _ b tb (by lia) (by lia) hh' st' hl' hS' fun h2 tk t2 k2=>?_⟩;have q:=hR h2 tk t2 fun x o hx hxi e=>k2 x o hx hxi (kp x o hxi e);rw[ed,aS,show mxI b z=b from mI hb] at q;exact q
theorem zUn{it l S:Addr}{items:List Value}{ns:List Int}{s:Shared}{c:Nat}(hh:Hn A s.heap)(hi:Vals (ns.map V.int) items)(hSi:S≠it)(hSl:S≠l)(hil:it≠l)(dv:Value){R:Result→Shared→Prop}
  (st:s.heap.IsListIter it l 0) (hl:s.heap.IsList l items.toArray) (hS:s.heap.get? S=some {cls:=.type "list",dict:=none,data:=.seq #[] c,slots:=#[]})
  (hR:∀h' tk v,(∀x o,x≠S→x≠it→s.heap.get? x=some o→h'.get? x=some o)→(match ns with | []=>v=dv | b::r=>∃t,v= .int (r.foldl mxI b) t)→R (.ok (.ret v)) {s with heap:=h',toks:=tk}):
  codeAny (model prog w) A (.builtin "max.loop" ⟨[.ref it, .none, .ref S],[("default",dv)]⟩) R s:=by
 have hnm:(toString "max" ++toString ".loop" :String)= "max.loop":=by decide
 have hlen:=hi.length;rw[mJ] at hlen;refine bK eJ ?_;rw[tZ tD _];show wpAny _ A.in1 (seqItems? (.ref S)>>=_) _ _ s;refine mC (aE hS rfl ?_)
 cases ns with
 | nil=>
  refine mC (bD (vY (A:=A.in1) hh st hl (by simp at hlen;simp[hlen]) fun h' eb=>?_));refine mC (bV (mM ?_));exact hR h' s.toks dv (fun x o _ hx e=>eb x o hx e) rfl
 | cons z r=>
  obtain⟨u,ht,t,rfl⟩:=hi.get (i:=0) (x:=.int z) rfl;refine mC (bD (tI st hl (x:=.int z t) (by simpa using ht) fun h' st' sb=>?_));have kp:∀x o,x≠it→s.heap.get? x=some o→h'.get? x=some o:=fun x o hx e=>(sb.2 x hx).trans e;have hS':=kp S _ hSi hS;obtain⟨oi,hoi,hci,_⟩:=id st;have hh':Hn A h':=hh.ext hoi hci kp;show wpAny _ A.in1 (updateSeq S (fun _=>#[.int z t, .int z t])>>=_) _ _ _;refine mC (aP hS' rfl ?_);rw[hnm];refine mM ⟨tW tD _,zXe hi hSi hSl hil dv _ 1 _ _ z t rfl (by simp) (hh'.ext hS' rfl fun b o hb e=>(mO _ _ (Ne.symm hb)).trans e) ?_ ?_ (rA _ hS' rfl) fun h2 tk t2 k2=>?_⟩
  ·exact st'.at fun o e=>(mO _ _ hSi).trans e
  ·obtain⟨o,e1,e2⟩:=hl
   exact⟨o,(mO _ _ hSl).trans (kp l o (Ne.symm hil) e1),e2⟩
  ·exact hR h2 tk _ (fun x o hx hxi e=>k2 x o hx hxi ((mO _ _ (Ne.symm hx)).trans (kp x o hxi e))) ⟨t2,rfl⟩
end
section
variable{X:Cx}
def zJf(K:W.Frag):V→V→Hp→VK→Prop:=fun x y H Q=>∃(p:Addr)(ns:List Int)(k:Int),x= .ref p∧y= .int k∧SqL K H p (ns.map V.int)∧Q (.int (mxD k ns)) H
theorem zQg(hc:X.cool=true){pins:List (Addr×Obj)}{s:Shared}{σ:St}{H:Hp}{x y:V}{u dv:Value}{Q:VK}(I:Inv X pins σ H s)(rx:RelV x u)(ry:RelV y dv)(h:zJf X.K x y H Q):
  wpAny (model X.prog X.w) X.A (call (.builtin "max") [u] [("default",dv)]) (EP X pins σ Q) X.xe s:=by
 obtain⟨p,ns,k,rfl,rfl,hq,q⟩:=h;cases rx;obtain⟨its,rv,pl,hz⟩:=I.list hq;have hl:=pl.isList;have hplt:p<s.heap.objs.size:=by obtain⟨_,e,_⟩:=hl;exact mR e
 have hnm:(toString "max" ++toString ".loop" :String)= "max.loop":=by decide
 refine bF (cZ F.plain_max F.entry_max ?_);simp only[checkBuiltinCall,F.kind_max];have hgo:wpAny (model X.prog X.w) X.A.in1 (Builtin.«max» ⟨[.ref p],[("default",dv)]⟩) (fun fin s'=>match fin with
   | .done f=>(match (Except.ok f:Result) with | .ok (.ret v)=>EP X pins σ Q v s' | .ok _=>False | .error e=>X.xe e s')
   | .again c'=>c'.quiet=true∧codeAny (model X.prog X.w) X.A c' (fun r s'=>match r with | .ok (.ret v)=>EP X pins σ Q v s' | .ok _=>False | .error e=>X.xe e s') s') X.xe s:=by
  show wpAny _ X.A.in1 (Builtin.Builtins.bindParams "max" ["key","default"] 0 ⟨[],[("default",dv)]⟩>>=_) _ _ s;refine mC (wpAny_of_eq (show Builtin.Builtins.bindParams "max" ["key","default"] 0 ⟨[],[("default",dv)]⟩=pure [none,some dv] from rfl) ?_);refine mC (mM ?_);refine mC (cB hl ?_);refine mC (sP ?_);rw[hnm];have hk:∀b o,s.heap.get? b=some o→((s.heap.push {cls:=.type "list_iterator",data:=.fields #[.ref p, .int 0 0]}).push {cls:=.type "list",data:=.seq #[]}).get? b=some o:=fun b o e=>mE _ (mE _ e);have hsz:(s.heap.push {cls:=.type "list_iterator",data:=.fields #[.ref p, .int 0 0]}).objs.size=s.heap.objs.size+1:=rP ..;refine mM ⟨tW tD _,zUn (A:=X.A) (it:=s.heap.objs.size) (l:=p) (S:=(s.heap.push {cls:=.type "list_iterator",data:=.fields #[.ref p, .int 0 0]}).objs.size) (c:=0) ((I.hn hc).keeps hk) rv (by rw[hsz];exact pK (tE _)) (by rw[hsz];exact pK (sQ hplt)) (pK hplt) dv ?_ ?_ (mX _ rfl) fun h' tk v k2 hv=>?_⟩
  ·exact⟨_,mE _ (mX _ rfl),rfl,rfl⟩
  ·obtain⟨o,e1,e2⟩:=hl
   exact⟨o,hk _ _ e1,e2⟩
  ·have I2:Inv X pins σ H {s with heap:=h',toks:=tk}:=I.kept fun b o e=>k2 b o (by rw[hsz];exact nL (sQ (mR e))) (nL (mR e)) (hk b o e)
   cases ns with
   | nil=>exact⟨.int k,H,I2,by rw[show v=dv from hv];exact ry,q⟩
   | cons b r=>
    obtain⟨t,e⟩:=hv;exact⟨.int (r.foldl mxI b),H,I2,⟨t,e⟩,q⟩
 cases hsig:Manifest.signature? "max" with
 | none=>exact mM hgo
 | some sig=>
  have ha:=zWd (.ref p) dv;simp only[argsOk,hsig] at ha;have h2:Bind.checkArgs "max" sig ⟨[.ref p],[("default",dv)]⟩=pure ():=ha;show wpAny _ X.A.in1 (Bind.checkArgs "max" sig ⟨[.ref p],[("default",dv)]⟩) _ _ s;rw[h2];exact mM hgo
variable{e d:Expr}{te td:TE}{p kp pos:Pos}
def zVo(K:W.Frag)(te td:TE):TE:=fun σ H Q=>te σ H fun x H1=>td σ H1 fun y H2=>zJf K x y H2 Q
theorem zWf(hc:X.cool=true)(hg:Gl X "max")(hm:X.mg "max" =none)(ha:PA X [e] (zAy te zHx))(hd:PE X d td)(he:backTo pos (starEach [e] X.env)=(false,eval e X.env)::backTo pos (starEach [] X.env):=by rfl)(hpl:(backTo pos (starEach [e] X.env)).any (·.1)=false:=by rfl):
  PE X (.Call (.Name "max" p) [e] [⟨some "default",d,kp⟩] pos) (zVo X.K te td):=by
 intro pins s σ H Q I h;refine rE (gW I hg hm yAx ?_ (by decide) (by decide));refine callWith_kw ?_ he hpl;refine thn (ha pos pins s σ H (fun vs H1=>match vs with | [x]=>td σ H1 (fun y H2=>zJf X.K x y H2 Q)| _=>False) I h) fun us s1 ⟨vs,H1,I1,r1,q1⟩=>?_
 match vs,q1,r1 with
 | [x],q1,r1=>
  obtain⟨u,rfl,rx⟩:=wR r1;refine kws_cons (thn (hd pins s1 σ H1 _ I1 q1) fun dv s2 ⟨y,H2,I2,ry,q2⟩=>kws_nil ?_);exact zQg hc I2 rx ry q2
end
end L2
namespace L2
open PySem PySem.Spec PyProof.Rows
mutual
def T.dep:T→Nat
 | .lst ts=>T.deps ts+1
 | .dic _ ts=>T.deps ts+1
 | .tup ts=>T.deps ts+1
 | .non=>0
 | .bl _=>0
 | .int _=>0
 | .str _=>0
def T.deps:List T→Nat
 | []=>0
 | t::ts=>max (T.dep t) (T.deps ts)
end
mutual
def T.pure:T→Prop
 | .tup _=>False
 | .lst ts=>T.pures ts
 | .dic ks ts=>ks.Nodup∧T.pures ts
 | .non=>True
 | .bl _=>True
 | .int _=>True
 | .str _=>True
def T.pures:List T→Prop
 | []=>True
 | t::ts=>T.pure t∧T.pures ts
end
theorem T.deps_le{t:T}:∀{ts:List T},t∈ts→T.dep t≤T.deps ts
 | [],h=>nomatch h
 | u::ts,h=>by
  show T.dep t≤max (T.dep u) (T.deps ts);rcases mG.mp h with e | e
  ·subst e;exact Nat.le_max_left _ _
  ·exact nN (T.deps_le e) (Nat.le_max_right _ _)
section
variable{P:Program}{w:World}
open AutoSeq1 (wpAny_loadPart')
open MeetsSeq MeetsSeq2 MeetsSeq3 SeqRoads2 SeqAt
end
section
variable{X:Cx}{pins:List (Addr×Obj)}{σ:St}{H:Hp}{s:Shared}
theorem qI{ks:List (List Nat)}(h:ks.Nodup):(ks.map nK).Nodup:=by
 induction ks with
 | nil=>exact sC
 | cons k r ih=>
  rw[nW] at h;rw[mY,nW];refine⟨fun hm=>?_,ih h.2⟩;obtain⟨k',hk,e⟩:=nM.mp hm;exact h.1 (zDk e▸hk)
def rEq0(K:W.Frag)(neg:Bool):R2:=fun x y H Q=>∃a b xs,x= .ref a∧y= .ref b∧SqL K H a xs∧SqL K H b []∧Q (.bl (if neg then !xs.isEmpty else xs.isEmpty)) H
theorem zXt(hu:X.A.units<cLine):OpR X (compareOp .NotEq) (rEq0 X.K true):=by
 intro pins s σ H x y v u Q I rx ry h;obtain⟨a,b,xs,rfl,rfl,ha,hb,q⟩:=h;cases rx;cases ry;obtain⟨us,r1,pl1,_⟩:=I.list ha;obtain⟨vs,r2,pl2,_⟩:=I.list hb;cases r2
 cases xs with
 | nil=>
  cases r1;exact SeqAt.RcNeAt.lists (e:=fun _=>true) pl1.isList pl2.isList rfl hu (fun j h1=>absurd h1 (by simp)) X.prog X.w X.xe _ ⟨.bl false,H,I,rfl,q⟩
 | cons x xs=>
  have n1:=r1.length;exact SeqAt.RcNeAt.lists_lengths pl1.isList pl2.isList (by simp[←n1]) hu X.prog X.w X.xe _ ⟨.bl true,H,I,rfl,q⟩
end
end L2
namespace L2
open PySem PySem.Spec PyProof.Rows
mutual
def T.sz:T→Nat
 | .lst ts=>T.szs ts+1
 | .dic _ ts=>T.szs ts+1
 | .tup ts=>T.szs ts+1
 | .non=>1
 | .bl _=>1
 | .int _=>1
 | .str _=>1
def T.szs:List T→Nat
 | []=>0
 | t::ts=>T.sz t+T.szs ts
end
mutual
def Occ(H:Hp)(d:Addr):V→T→Prop
 | v, .lst ts=>v= .ref d∨∃a vs,v= .ref a∧H a=some (.lst vs)∧Occs H d vs ts
 | v, .dic _ ts=>v= .ref d∨∃a ps,v= .ref a∧H a=some (.dK ps)∧Occs H d (ps.map (·.2)) ts
 | v, .tup ts=>v= .ref d∨∃a vs,v= .ref a∧H a=some (.tup vs)∧Occs H d vs ts
 | _, .non=>False
 | _, .bl _=>False
 | _, .int _=>False
 | _, .str _=>False
def Occs(H:Hp)(d:Addr):List V→List T→Prop
 | v::vs,t::ts=>Occ H d v t∨Occs H d vs ts
 | _,_=>False
end
mutual
theorem Rep.away{H:Hp}{d:Addr}{o:HO}:∀(x:V)(t:T),Rep H x t→¬Occ H d x t→Rep (upd H d o) x t
 | _, .non,h,_=>h
 | _, .bl _,h,_=>h
 | _, .int _,h,_=>h
 | _, .str _,h,_=>h
 | x, .lst ts,⟨a,vs,e,ha,hs⟩,n=>by
  have ne:a≠d:=fun z=>n (.inl (by rw[e,z]));exact⟨a,vs,e,by rw[zO ne];exact ha,Reps.away vs ts hs fun z=>n (.inr ⟨a,vs,e,ha,z⟩)⟩
 | x, .dic ks ts,⟨a,ps,e,ha,hk,hs⟩,n=>by
  have ne:a≠d:=fun z=>n (.inl (by rw[e,z]));exact⟨a,ps,e,by rw[zO ne];exact ha,hk,Reps.away _ ts hs fun z=>n (.inr ⟨a,ps,e,ha,z⟩)⟩
 | x, .tup ts,⟨a,vs,e,ha,hs⟩,n=>by
  have ne:a≠d:=fun z=>n (.inl (by rw[e,z]));exact⟨a,vs,e,by rw[zO ne];exact ha,Reps.away vs ts hs fun z=>n (.inr ⟨a,vs,e,ha,z⟩)⟩
theorem Reps.away{H:Hp}{d:Addr}{o:HO}:∀(xs:List V)(ts:List T),Reps H xs ts→¬Occs H d xs ts→Reps (upd H d o) xs ts
 | _,[],h,_=>h
 | _,t::ts,⟨x,xr,e,h1,h2⟩,n=>by
  subst e;exact⟨x,xr,rfl,Rep.away x t h1 fun z=>n (.inl z),Reps.away xr ts h2 fun z=>n (.inr z)⟩
end
mutual
theorem Occ.sub{H:Hp}{d:Addr}:∀(x:V)(t:T),Rep H x t→Occ H d x t→∃t',Rep H (.ref d) t'∧T.sz t'≤T.sz t
 | _, .non,_,h=>h.elim
 | _, .bl _,_,h=>h.elim
 | _, .int _,_,h=>h.elim
 | _, .str _,_,h=>h.elim
 | x, .lst ts,hr,h=>by
  rcases h with e |⟨a,vs,e,ha,h⟩
  ·exact⟨.lst ts,e▸hr,mD _⟩
  ·obtain⟨a',vs',e',ha',hs⟩:=hr
   rw[e] at e';cases e';rw[ha] at ha';cases ha';obtain⟨t',q,l⟩:=Occs.sub vs ts hs h;exact⟨t',q,tX l⟩
 | x, .dic ks ts,hr,h=>by
  rcases h with e |⟨a,vs,e,ha,h⟩
  ·exact⟨.dic ks ts,e▸hr,mD _⟩
  ·obtain⟨a',vs',e',ha',_,hs⟩:=hr
   rw[e] at e';cases e';rw[ha] at ha';cases ha';obtain⟨t',q,l⟩:=Occs.sub _ ts hs h;exact⟨t',q,tX l⟩
 | x, .tup ts,hr,h=>by
  rcases h with e |⟨a,vs,e,ha,h⟩
  ·exact⟨.tup ts,e▸hr,mD _⟩
  ·obtain⟨a',vs',e',ha',hs⟩:=hr
   rw[e] at e';cases e';rw[ha] at ha';cases ha';obtain⟨t',q,l⟩:=Occs.sub vs ts hs h;exact⟨t',q,tX l⟩
theorem Occs.sub{H:Hp}{d:Addr}:∀(xs:List V)(ts:List T),Reps H xs ts→Occs H d xs ts→∃t',Rep H (.ref d) t'∧T.sz t'≤T.szs ts
 | xs,[],_,h=>by cases xs<;>exact h.elim
 | _,t::ts,⟨x,xr,e,h1,h2⟩,h=>by
  subst e;rcases h with h | h
  ·obtain⟨t',q,l⟩:=Occ.sub x t h1 h
   exact⟨t',q,nN l (eK _ _)⟩
  ·obtain⟨t',q,l⟩:=Occs.sub xr ts h2 h
   exact⟨t',q,nN l (tT _ _)⟩
end
theorem zNr:∀{a b:List (List Nat)},a.map nK=b.map nK→a=b
 | [],[],_=>rfl
 | [],_::_,h=>by simp at h
 | _::_,[],h=>by simp at h
 | x::a,y::b,h=>by
  rw[mY,mY] at h;injection h with h1 h2;rw[zDk h1,zNr h2]
mutual
theorem Rep.one{H:Hp}:∀(t:T)(x:V)(t':T),Rep H x t→Rep H x t'→t=t'
 | .non,x,t',h,h'=>by
  cases (show x= .non from h)
  cases t' with
  | non=>rfl
  | bl b=>cases (show V.non= .bl b from h')
  | int b=>cases (show V.non= .int b from h')
  | str b=>cases (show V.non= .str (tx b) from h')
  | lst ts=>obtain⟨a,vs,e,_⟩:=h';cases e
  | dic ks ts=>obtain⟨a,vs,e,_⟩:=h';cases e
  | tup ts=>obtain⟨a,vs,e,_⟩:=h';cases e
 | .bl c,x,t',h,h'=>by
  cases (show x= .bl c from h)
  cases t' with
  | non=>cases (show V.bl c= .non from h')
  | bl b=>cases (show V.bl c= .bl b from h');rfl
  | int b=>cases (show V.bl c= .int b from h')
  | str b=>cases (show V.bl c= .str (tx b) from h')
  | lst ts=>obtain⟨a,vs,e,_⟩:=h';cases e
  | dic ks ts=>obtain⟨a,vs,e,_⟩:=h';cases e
  | tup ts=>obtain⟨a,vs,e,_⟩:=h';cases e
 | .int c,x,t',h,h'=>by
  cases (show x= .int c from h)
  cases t' with
  | non=>cases (show V.int c= .non from h')
  | bl b=>cases (show V.int c= .bl b from h')
  | int b=>cases (show V.int c= .int b from h');rfl
  | str b=>cases (show V.int c= .str (tx b) from h')
  | lst ts=>obtain⟨a,vs,e,_⟩:=h';cases e
  | dic ks ts=>obtain⟨a,vs,e,_⟩:=h';cases e
  | tup ts=>obtain⟨a,vs,e,_⟩:=h';cases e
 | .str c,x,t',h,h'=>by
  cases (show x= .str (tx c) from h)
  cases t' with
  | non=>cases (show V.str (tx c)= .non from h')
  | bl b=>cases (show V.str (tx c)= .bl b from h')
  | int b=>cases (show V.str (tx c)= .int b from h')
  | str b=>
   have e:V.str (tx c)= .str (tx b):=h';injection e with e;have e2:ts (tx c)=ts (tx b):=by rw[e]
   rw[xD,xD] at e2;rw[e2]
  | lst ts=>obtain⟨a,vs,e,_⟩:=h';cases e
  | dic ks ts=>obtain⟨a,vs,e,_⟩:=h';cases e
  | tup ts=>obtain⟨a,vs,e,_⟩:=h';cases e
 | .lst us,x,t',⟨a,vs,e,ha,hs⟩,h'=>by
  subst e
  cases t' with
  | non=>cases (show V.ref a= .non from h')
  | bl b=>cases (show V.ref a= .bl b from h')
  | int b=>cases (show V.ref a= .int b from h')
  | str b=>cases (show V.ref a= .str (tx b) from h')
  | lst ts=>
   obtain⟨a',vs',e',ha',hs'⟩:=h';cases e';rw[ha] at ha';cases ha';rw[Reps.one us vs ts hs hs']
  | dic ks ts=>obtain⟨a',vs',e',ha',_⟩:=h';cases e';rw[ha] at ha';cases ha'
  | tup ts=>obtain⟨a',vs',e',ha',_⟩:=h';cases e';rw[ha] at ha';cases ha'
 | .dic js us,x,t',⟨a,vs,e,ha,hk,hs⟩,h'=>by
  subst e
  cases t' with
  | non=>cases (show V.ref a= .non from h')
  | bl b=>cases (show V.ref a= .bl b from h')
  | int b=>cases (show V.ref a= .int b from h')
  | str b=>cases (show V.ref a= .str (tx b) from h')
  | lst ts=>obtain⟨a',vs',e',ha',_⟩:=h';cases e';rw[ha] at ha';cases ha'
  | dic ks ts=>
   obtain⟨a',vs',e',ha',hk',hs'⟩:=h';cases e';rw[ha] at ha';cases ha';rw[Reps.one us _ ts hs hs',zNr (hk.symm.trans hk')]
  | tup ts=>obtain⟨a',vs',e',ha',_⟩:=h';cases e';rw[ha] at ha';cases ha'
 | .tup us,x,t',⟨a,vs,e,ha,hs⟩,h'=>by
  subst e
  cases t' with
  | non=>cases (show V.ref a= .non from h')
  | bl b=>cases (show V.ref a= .bl b from h')
  | int b=>cases (show V.ref a= .int b from h')
  | str b=>cases (show V.ref a= .str (tx b) from h')
  | lst ts=>obtain⟨a',vs',e',ha',_⟩:=h';cases e';rw[ha] at ha';cases ha'
  | dic ks ts=>obtain⟨a',vs',e',ha',_⟩:=h';cases e';rw[ha] at ha';cases ha'
  | tup ts=>
   obtain⟨a',vs',e',ha',hs'⟩:=h';cases e';rw[ha] at ha';cases ha';rw[Reps.one us vs ts hs hs']
theorem Reps.one{H:Hp}:∀(us:List T)(xs:List V)(ts:List T),Reps H xs us→Reps H xs ts→us=ts
 | [],xs,ts,h,h'=>by
  cases (show xs= [] from h)
  cases ts with
  | nil=>rfl
  | cons t ts=>obtain⟨x,r,e,_⟩:=h';cases e
 | u::us,xs,ts,⟨x,r,e,h1,h2⟩,h'=>by
  subst e
  cases ts with
  | nil=>cases (show x::r= [] from h')
  | cons t ts=>
   obtain⟨x',r',e',h1',h2'⟩:=h';cases e';rw[Rep.one u x t h1 h1',Reps.one us r ts h2 h2']
end
theorem Reps.dic_away{H:Hp}{d:Addr}{o:HO}{ps:List (Key×V)}{ks:List (List Nat)}{ts:List T}(hd:H d=some (.dK ps))(hk:ps.map (·.1)=ks.map nK)(h:Reps H (ps.map (·.2)) ts):Reps (upd H d o) (ps.map (·.2)) ts:=by
 refine Reps.away _ ts h fun z=>?_;obtain⟨t',q,l⟩:=Occs.sub _ ts h z;have e:=Rep.one (.dic ks ts) (.ref d) t' ⟨d,ps,rfl,hd,hk,h⟩ q;rw[←e] at l;exact absurd l (Nat.not_le_of_lt (tE _))
theorem uF:∀{vs:List (Key×V)}{i:Nat}{k:Key}{y:V},(vs.map (·.1)).Nodup→vs[i]? =some (k,y)→qL vs k=some y
 | [],i,k,y,_,h=>by simp at h
 | p::vs,0,k,y,_,h=>by
  simp only[pJ,Option.some.injEq] at h;subst h;exact zAa rfl
 | p::vs,i+1,k,y,nd,h=>by
  rw[mY,nW] at nd;have h':vs[i]? =some (k,y):=by simpa using h
  have ne:¬p.1=k:=fun e=>nd.1 (nM.mpr ⟨(k,y),mQ h',e.symm⟩);rw[kM ne];exact uF nd.2 h'
theorem jR:∀(more kvs:List (Key×V)),((kvs++more).map (·.1)).Nodup→vE kvs more=kvs++more
 | [],kvs,_=>by show kvs=_;rw[pY]
 | p::r,kvs,h=>by
  show vE (vP kvs p.1 p.2) r=_;have hn:qL kvs p.1=none:=by
   cases e:qL kvs p.1 with
   | none=>rfl
   | some v=>
    have hm:=zXf e;rw[nA,bA] at h;exact absurd rfl (h.2.2 p.1 hm p.1 (by simp))
  rw[zSi _ hn,jR r (kvs++ [(p.1,p.2)]) (by rw[rR];exact h),rR]
  rfl
mutual
theorem Nice.dep:∀(t:T){d:Nat},Nice d t→T.dep t≤d
 | .non,_,_=>pB _
 | .bl _,_,_=>pB _
 | .int _,_,_=>pB _
 | .str _,_,_=>pB _
 | .lst ts,d,h=>by
  have:=NiceL.dep ts h.2.2;have:=h.1;show T.deps ts+1≤d
  lia
 | .dic ks ts,d,h=>by
  have:=NiceL.dep ts h.2.2.2.2.2;have:=h.1;show T.deps ts+1≤d
  lia
 | .tup _,_,h=>h.elim
theorem NiceL.dep:∀(ts:List T){d:Nat},NiceL d ts→T.deps ts≤d
 | [],_,_=>pB _
 | t::ts,_,h=>Nat.max_le.mpr ⟨Nice.dep t h.1,NiceL.dep ts h.2⟩
end
theorem qT(d:Nat):1≤5 ^ d:=Nat.one_le_pow _ _ (by decide)
mutual
theorem Nice.sz:∀(t:T){d:Nat},Nice d t→T.sz t≤5 ^ d
 | .non,d,_=>qT d
 | .bl _,d,_=>qT d
 | .int _,d,_=>qT d
 | .str _,d,_=>qT d
 | .lst ts,d,h=>by
  obtain⟨h1,h2,h3⟩:=h;obtain⟨e,rfl⟩:∃e,d=e+1:=⟨d - 1,by lia⟩;have:=NiceL.sz ts h3;have p:=qT e;show T.szs ts+1≤5 ^ (e+1);rw[bS] at this;have q:ts.length*5 ^ e≤4*5 ^ e:=dA _ h2;rw[Nat.pow_succ];lia
 | .dic ks ts,d,h=>by
  obtain⟨h1,h2,_,_,_,h3⟩:=h;obtain⟨e,rfl⟩:∃e,d=e+1:=⟨d - 1,by lia⟩;have:=NiceL.sz ts h3;have p:=qT e;show T.szs ts+1≤5 ^ (e+1);rw[bS] at this;have q:ts.length*5 ^ e≤4*5 ^ e:=dA _ h2;rw[Nat.pow_succ];lia
 | .tup _,_,h=>h.elim
theorem NiceL.sz:∀(ts:List T){d:Nat},NiceL d ts→T.szs ts≤ts.length*5 ^ d
 | [],_,_=>pB _
 | t::ts,d,h=>by
  have a:=Nice.sz t h.1;have b:=NiceL.sz ts h.2;show T.sz t+T.szs ts≤(ts.length+1)*5 ^ d;rw[Nat.succ_mul];lia
end
theorem zOg{H:Hp}{a:Addr}{xs:List V}(h:H a=some (.tup xs)):tyS H (.ref a)=some "tuple":=by
 show(match H a with | some (.lst _)=>some "list" | some (.tup _)=>some "tuple" | some (.dK _)=>some "dict" | _=>none)=_;rw[h]
theorem jH{H:Hp}{a:Addr}{xs:List V}(h:H a=some (.lst xs)):tyS H (.ref a)=some "list":=by
 show(match H a with | some (.lst _)=>some "list" | some (.tup _)=>some "tuple" | some (.dK _)=>some "dict" | _=>none)=_;rw[h]
theorem jO{H:Hp}{a:Addr}{xs:List (Key×V)}(h:H a=some (.dK xs)):tyS H (.ref a)=some "dict":=by
 show(match H a with | some (.lst _)=>some "list" | some (.tup _)=>some "tuple" | some (.dK _)=>some "dict" | _=>none)=_;rw[h]
theorem zAc{H H':Hp}(g:Same H H'){v:V}{t:String}(h:tyS H v=some t):tyS H' v=some t:=by
 cases v with
 | ref a=>
  have h':(match H a with | some (.lst _)=>some "list" | some (.tup _)=>some "tuple" | some (.dK _)=>some "dict" | _=>none)=some t:=h
  cases e:H a with
  | none=>rw[e] at h';cases h'
  | some o=>
   rw[e] at h'
   cases o with
   | lst xs=>cases h';exact jH (g _ _ e)
   | tup xs=>cases h';exact zOg (g _ _ e)
   | dK kvs=>cases h';exact jO (g _ _ e)
   | _=>cases h'
 | _=>exact h
theorem Same.put{H H':Hp}{p:Addr}(g:Same H H')(h:H p=none)(o:HO):Same H (upd H' p o):=fun b u e=>by
 rw[zO (zX e h)];exact g b u e
theorem T.pures_mem{t:T}:∀{ts:List T},T.pures ts→t∈ts→T.pure t
 | [],_,h=>nomatch h
 | u::ts,h,hm=>(mG.mp hm).elim (fun e=>e▸h.1) (T.pures_mem h.2)
theorem yB{α:Type}{l:List α}{i:Nat}{a:α}(h:l[i]? =some a):l.take (i+1)=l.take i++ [a]:=by rw[cC,h];rfl
theorem T.sz_pos:∀t:T,1≤T.sz t
 | .non=>mD _
 | .bl _=>mD _
 | .int _=>mD _
 | .str _=>mD _
 | .lst _=>tT _ _
 | .dic _ _=>tT _ _
 | .tup _=>tT _ _
theorem T.szs_len:∀ts:List T,ts.length≤T.szs ts
 | []=>mD _
 | t::ts=>by
  have a:=T.sz_pos t;have b:=T.szs_len ts;show ts.length+1≤T.sz t+T.szs ts
  lia
theorem T.szs_le{t:T}:∀{ts:List T},t∈ts→T.sz t≤T.szs ts
 | [],h=>nomatch h
 | u::ts,h=>by
  show T.sz t≤T.sz u+T.szs ts;rcases mG.mp h with e | e
  ·subst e;exact eK _ _
  ·exact nN (T.szs_le e) (tT _ _)
theorem qX{H H':Hp}{d:Addr}{o:Obj}{ps:List (Key×V)}(hd:H d=some (.dK ps))(g:Same (upd H d (.frz o (.dK ps))) H'):Same H (L2.thaw H H'):=zEz fun b u e=>by
 by_cases hb:b=d
 ·subst hb
  rw[hd] at e;cases e;exact .inr ⟨⟨o,g _ _ zE⟩,by intro o v z;cases z⟩
 ·exact .inl (g _ _ (by rw[zO hb];exact e))
def T.kids:T→List T
 | .lst us=>us
 | .dic _ us=>us
 | _=>[]
def T.next(ts:List T):List T:=(ts.map T.kids).flatten
theorem T.szs_append:∀(a b:List T),T.szs (a++b)=T.szs a+T.szs b
 | [],b=>by show T.szs b=0+T.szs b;lia
 | t::a,b=>by
  show T.sz t+T.szs (a++b)=T.sz t+T.szs a+T.szs b;rw[T.szs_append a b];lia
theorem Reps.append{H:Hp}{ys:List V}{vs:List T}(h':Reps H ys vs):∀{xs:List V}{us:List T},Reps H xs us→Reps H (xs++ys) (us++vs)
 | xs,[],h=>by
  cases (show xs= [] from h);exact h'
 | _,u::us,⟨x,r,e,h1,h2⟩=>by
  subst e;exact⟨x,r++ys,rfl,h1,Reps.append h' h2⟩
def T.holds(t:T):Bool:=zN (tyT t) "list" || zN (tyT t) "dict"
def zSf(t:TS):TS:=fun D σ H=>∃M:St→Hp→Prop,t {D with nx:=M} σ H∧∀σ' H',M σ' H'→D.nx σ' H'
theorem zGd{X:Cx}{st:Stmt}{t:TS}(h:PS X st t):PS X st (zSf t):=by
 intro pins s σ H D I ⟨M,q,m⟩;refine thn (h pins s σ H _ I q) fun f s1 z=>?_
 cases f with
 | next=>obtain⟨σ',H',J,q⟩:=z;exact⟨σ',H',J,m _ _ q⟩
 | brk=>exact z
 | cont=>exact z
 | ret u=>exact z
section
variable{X:Cx}
theorem zNo{P:Program}{w:World}:∀{vs:List (Key×Value)}{ks:List Str}{us:List Value},vs.map (·.1)=ks.map Sum.inr→us.length=vs.length→(∀(j:Nat)(v:Value),us[j]? =some v→∃k x,vs[j]? =some (k,x)∧(yL P w).is k v=true)→StrsAre us ks
 | [],[],[],_,_,_=>.nil
 | p::vs,k::ks,u::us,e,hl,h=>by
  rw[mY,mY] at e;injection e with e1 e2;obtain⟨k',x,e3,hk⟩:=h 0 u rfl;simp only[pJ,Option.some.injEq] at e3;rw[e3] at e1;have e4:k'=Sum.inr k:=e1;rw[e4] at hk;obtain⟨t,et⟩:=(show∃t,u=Value.str k t from zHi hk);subst et;exact .cons k t (zNo e2 (by simpa using hl) fun j v hv=>by simpa using h (j+1) v (by simpa using hv))
 | [],_::_,_,e,_,_=>by simp at e
 | _::_,[],_,e,_,_=>by simp at e
 | [],[],_::_,_,hl,_=>by simp at hl
 | _::_,_::_,[],_,hl,_=>by simp at hl
theorem zNn:∀{us:List Value}{ss:List Str},StrsAre us ss→Vals (ss.map V.str) us
 | _,_, .nil=>.nil
 | _,_, .cons x t r=>.cons ⟨t,rfl⟩ (zNn r)
theorem zDz(hc:X.calm=true):xS X (.builtin "sorted") (fun xs H Q=>∃(p:Addr)(kvs:List (Key×V))(ks:List Str),xs= [.ref p]∧Rd H p (.dK kvs)∧kvs.map (·.1)=ks.map Sum.inr∧ks.length<64∧
  ∀l ss,H l=none→ss.Perm ks→sortedS ss=true→Q (.ref l) (upd H l (.lst (ss.map V.str)))):=by
 intro pins s σ H xs us Q I r h;obtain⟨p,kvs,ks,rfl,hq,hk,h64,q⟩:=h;obtain⟨u,rfl,rx⟩:=wR r;cases rx;obtain⟨z,hd,vs,rel,dd⟩:=qU I.hok hq;obtain⟨ep,hat⟩:=dd.dictAt;have hl:=rel.length;refine PySem.Calls.call_function_entry kind_sorted plain_sorted entry_sorted (args_sorted1 _) ?_;unfold Builtin.«sorted»;refine mC (m:=checkCount "sorted" 1 1 _) (mM ?_);refine mC (W.kdu_collect (A:=X.A.in1) (W.kdl_dict (knd:=yL X.prog X.w) (kvs:=vs) (ep:=ep) hd) (show X.A.in1.handled=none from I.ok.hd.1 hc) hat (by lia) fun h' tk acc hkp hacc=>?_);have hlen:acc.toList.length=vs.length:=by rw[aI];exact hacc.1
 have hS:StrsAre acc.toList ks:=zNo (P:=X.prog) (w:=X.w) (by rw[←rel.keys];exact hk) hlen fun j v e=>hacc.2 j v (by rw[←tS];exact e);have hkl:ks.length=vs.length:=by
  have:=congrArg List.length hk;simp only[mJ] at this
  lia
 refine mC (wpAny_newList ?_ (by rw[hlen];lia));have hoL:(h'.push (seqObj "list" acc.toList.toArray 0)).get? h'.objs.size=some (seqObj "list" acc.toList.toArray 0):=mX _ rfl;refine mC (pX (rX slot_list_sort ⟨_,hoL,rfl⟩ entry_list_sort (list_sort_treeK strKind_oneLt hoL hS.keysOf (fun v₁ v₂ rest e=>keyKind_strs (by rw[←e];exact hS)) (by lia) fun st' a1 a2=>⟨_,rfl, ?_⟩) (args_list_sort _)));refine mM ⟨_,rfl, ?_⟩;obtain⟨ss',h1,h2,h3⟩:=sorted_out_str hS a1 a2;have I':Inv X pins σ H {s with heap:=h',toks:=tk}:=I.kept (t':=tk) hkp;have hL:h'.objs.size<(h'.push (seqObj "list" acc.toList.toArray 0)).objs.size:=mR hoL;obtain⟨e,he⟩:=sortedHeap_at (out:=(arrOf st').map (·.2)) hoL;have rS:Vals (ss'.map V.str) ((arrOf st').map (·.2)).toList:=zNn h1;have hp:=h2.length_eq;refine⟨.ref h'.objs.size,_,I'.laid (a:=h'.objs.size) (t':=tk) (h':=sortedHeap (h'.push (seqObj "list" acc.toList.toArray 0)) h'.objs.size acc.toList ((arrOf st').map (·.2))) (fun b u eb=>?_) (mD _) (o:=.lst (ss'.map V.str)) ?_,rfl,q _ ss' (I'.hok.fresh (mD _)) h2 h3⟩
 ·have lt:b<h'.objs.size:=mR eb
  exact(sortedHeap_old (nL lt) (cX lt hL)).trans (mE _ eb)
 ·exact⟨by rw[mJ];lia,_,e,rS,by rw[Array.toArray_toList];exact he⟩
end
section
variable{X:Cx}
end
def leK(a b:List Nat):Bool:=!decide (b<a)
theorem zFj(a b c:List Nat)(h1:leK a b=true)(h2:leK b c=true):leK a c=true:=by
 have x1:a≤b:=by simpa [leK] using h1
 have x2:b≤c:=by simpa [leK] using h2
 have:=List.le_trans x1 x2
 simpa [leK] using this
theorem zQi(a b:List Nat):(leK a b || leK b a)=true:=by
 rcases List.le_total a b with h | h
 ·have:leK a b=true:=by simpa [leK] using h
  rw[this];rfl
 ·have:leK b a=true:=by simpa [leK] using h
  rw[this,bU]
theorem zSn{a b:List Nat}(h1:leK a b=true)(h2:leK b a=true):a=b:=by
 have x1:a≤b:=by simpa [leK] using h1
 have x2:b≤a:=by simpa [leK] using h2
 exact List.le_antisymm x1 x2
def uW(ks:List (List Nat)):List (List Nat):=ks.mergeSort leK
theorem jG(ks:List (List Nat)):(uW ks).Perm ks:=List.mergeSort_perm ks leK
theorem zGl(ks:List (List Nat)):(uW ks).Pairwise (fun a b=>leK a b=true):=List.pairwise_mergeSort zFj zQi ks
theorem zDh:∀{a b:List (List Nat)},a.Perm b→a.Pairwise (fun a b=>leK a b=true)→b.Pairwise (fun a b=>leK a b=true)→a=b
 | [],b,p,_,_=>(List.nil_perm.mp p).symm
 | x::a,[],p,_,_=>absurd p.length_eq (by simp)
 | x::a,y::b,p,h1,h2=>by
  rw[dR] at h1 h2;have hx:x∈y::b:=p.mem_iff.mp mF;have hy:y∈x::a:=p.mem_iff.mpr mF;have e:x=y:=by
   rcases mG.mp hx with z | z
   ·exact z
   ·rcases mG.mp hy with z' | z'
    ·exact z'.symm
    ·exact zSn (h1.1 y z') (h2.1 x z)
  subst e;rw[zDh p.cons_inv h1.2 h2.2]
theorem zAv:∀(p:Str)(l:List Str),risingS p l=true→((p::l).map ts).Pairwise (fun a b=>leK a b=true)
 | p,[],_=>List.pairwise_singleton _ _
 | p,x::r,h=>by
  have h':(!ltCps x.cps.toList p.cps.toList && risingS x r)=true:=h;rw[nZ] at h';have ih:=zAv x r h'.2;have hpx:leK (ts p) (ts x)=true:=by
   have:=h'.1;rw[ltCps_eq] at this;exact this
  rw[mY,dR];refine⟨fun y hy=>?_,ih⟩;rw[mY] at hy ih;rw[dR] at ih;rcases mG.mp hy with z | z
  ·rw[z];exact hpx
  ·exact zFj _ _ _ hpx (ih.1 y z)
theorem zGh{l:List Str}(h:sortedS l=true):(l.map ts).Pairwise (fun a b=>leK a b=true):=by
 cases l with
 | nil=>exact List.Pairwise.nil
 | cons p r=>exact zAv p r h
theorem zGy{ss:List Str}{ks:List (List Nat)}(hp:ss.Perm (ks.map tx))(hs:sortedS ss=true):ss=(uW ks).map tx:=by
 have e:ss.map ts=uW ks:=by
  refine zDh ?_ (zGh hs) (zGl ks);have z:=hp.map ts;rw[pQ] at z;have e2:ks.map (ts∘tx)=ks:=by
   conv=>rhs;rw[←List.map_id ks]
   exact rL fun k _=>xD k
  rw[e2] at z;exact z.trans (jG ks).symm
 have e3:(ss.map ts).map tx=ss:=by
  rw[pQ]
  conv=>rhs;rw[←List.map_id ss]
  exact rL fun k _=>kJ k
 rw[←e3,e]
inductive C where
 | non | bl (b:Bool)| int (i:Int)| str (x:List Nat)| row (xs:List C)| rcd (xs:List C)| odd
def C.ord:C→Nat
 | .non=>0
 | .bl _=>1
 | .int _=>2
 | .str _=>3
 | .row _=>4
 | .rcd _=>5
 | .odd=>6
def yD(k:List Nat):List (List Nat)→List T→T
 | k'::ks,c::cs=>if k'=k then c else yD k ks cs
 | _,_=>.tup []
mutual
def T.few:T→Prop
 | .dic ks ts=>ks.Nodup∧ks.length<64∧ks.length=ts.length∧T.fews ts
 | .lst ts=>ts.length≤100000∧T.fews ts
 | .tup _=>False
 | .non=>True
 | .bl _=>True
 | .int _=>True
 | .str _=>True
def T.fews:List T→Prop
 | []=>True
 | t::ts=>T.few t∧T.fews ts
end
theorem T.fews_mem{t:T}:∀{ts:List T},T.fews ts→t∈ts→T.few t
 | [],_,h=>nomatch h
 | u::ts,h,hm=>(mG.mp hm).elim (fun e=>e▸h.1) (T.fews_mem h.2)
theorem zDw{k:List Nat}:∀{ks:List (List Nat)}{ts:List T}{i:Nat}{t:T},ks.Nodup→ks[i]? =some k→ts[i]? =some t→yD k ks ts=t
 | [],_,i,_,_,h,_=>by simp at h
 | k'::ks,[],i,_,_,_,h=>by simp at h
 | k'::ks,u::ts,0,t,nd,h1,h2=>by
  simp only[pJ,Option.some.injEq] at h1 h2;subst h1 h2;exact mK rfl
 | k'::ks,u::ts,i+1,t,nd,h1,h2=>by
  rw[nW] at nd;have h1':ks[i]? =some k:=by simpa using h1
  have ne:¬k'=k:=fun e=>nd.1 (e▸mQ h1');show(if k'=k then u else yD k ks ts)=t;rw[mI ne];exact zDw nd.2 h1' (by simpa using h2)
theorem wS{k:List Nat}:∀{ks:List (List Nat)}{ts:List T},k∈ks→ks.length=ts.length→yD k ks ts∈ts
 | [],_,h,_=>nomatch h
 | k'::ks,[],_,h=>by simp at h
 | k'::ks,u::ts,h,hl=>by
  show(if k'=k then u else yD k ks ts)∈u::ts;split
  ·exact mF
  ·rename_i ne
   rcases mG.mp h with e | e
   ·exact absurd e.symm ne
   ·exact mH _ (wS e (by simpa using hl))
theorem mem_sortK{k:List Nat}{ks:List (List Nat)}:k∈uW ks↔k∈ks:=(jG ks).mem_iff
theorem Rep.at_name{H:Hp}{ps:List (Key×V)}{ks:List (List Nat)}{us:List T}(nk:ks.Nodup)(hk:ps.map (·.1)=ks.map fun k=>(Sum.inr (tx k):Key))(hs:Reps H (ps.map (·.2)) us){k:List Nat}(hm:k∈ks):
  ∃v,qL ps (Sum.inr (tx k))=some v∧Rep H v (yD k ks us):=by
 obtain⟨j,hj⟩:=List.mem_iff_getElem?.mp hm;have hp:(ps.map (·.1))[j]? =some (Sum.inr (tx k):Key):=by rw[hk,nI,hj];rfl
 rw[nI] at hp
 cases hpj:ps[j]? with
 | none=>rw[hpj] at hp;cases hp
 | some kv=>
  rw[hpj] at hp;have ek:kv.1=(Sum.inr (tx k):Key):=mV hp;have hpj':ps[j]? =some ((Sum.inr (tx k):Key),kv.2):=by rw[hpj,←ek]
  obtain⟨t,ht,hr⟩:=hs.get (i:=j) (v:=kv.2) (by rw[nI,hpj];rfl);refine⟨kv.2,uF (by rw[hk];exact qI nk) hpj', ?_⟩;rw[zDw nk hj ht];exact hr
def LtM(P:Program)(w:World)(A:Around)(s:Shared)(u v:Value)(b:Bool):Prop:=∀(E:Value→Shared→Prop)(Q:Value→Shared→Prop),Q (.bool b) s→wpAny (model P w) A (richCompare .Lt u v) Q E s
def EqB(P:Program)(w:World)(A:Around)(s:Shared)(u v:Value)(b:Bool):Prop:=∀(E:Value→Shared→Prop)(Q:Bool→Shared→Prop),Q b s→wpAny (model P w) A (eqBool u v) Q E s
inductive Zc (P:Program) (w:World) (A:Around) (s:Shared):List Value→List Value→Int→Prop
 | nil:Zc P w A s [] [] 0
 | less {y:Value} {ys:List Value}:Zc P w A s [] (y::ys) (-1)
 | more {x:Value} {xs:List Value}:Zc P w A s (x::xs) [] 1
 | eq {x y:Value} {xs ys:List Value} {c:Int}:EqB P w A s x y true→Zc P w A s xs ys c→Zc P w A s (x::xs) (y::ys) c
 | ne {x y:Value} {xs ys:List Value} {c:Int}:EqB P w A s x y false→LtM P w A s x y (decide (c<0))→c≠0→Zc P w A s (x::xs) (y::ys) c
section
variable{P:Program}{w:World}{A:Around}{s:Shared}{E:Value→Shared→Prop}
end
section
variable{X:Cx}{pins:List (Addr×Obj)}{σ:St}{H:Hp}{s:Shared}
end
def rawC:C→T
 | .str x=>.str x
 | _=>.non
mutual
def rk:C→T
 | .non=>.tup [.int 0]
 | .bl b=>.tup [.int 1, .bl b]
 | .int i=>.tup [.int 2, .int i]
 | .str x=>.tup [.int 3, .str x]
 | .row cs=>.tup [.int 4, .tup (rks cs)]
 | .rcd cs=>.tup [.int 5, .tup (rkps cs)]
 | .odd=>.non
def rks:List C→List T
 | []=>[]
 | c::cs=>rk c::rks cs
def rkps:List C→List T
 | []=>[]
 | c::cs=>rkq c::rkps cs
def rkq:C→T
 | .row cs=>.tup (rkl cs)
 | .non=>.non
 | .bl _=>.non
 | .int _=>.non
 | .str _=>.non
 | .rcd _=>.non
 | .odd=>.non
def rkl:List C→List T
 | []=>[]
 | c::cs=>rawC c::rks cs
end
mutual
def C.ok:C→Prop
 | .odd=>False
 | .row cs=>C.oks cs
 | .rcd cs=>C.okps cs
 | .non=>True
 | .bl _=>True
 | .int _=>True
 | .str _=>True
def C.oks:List C→Prop
 | []=>True
 | c::cs=>C.ok c∧C.oks cs
def C.okps:List C→Prop
 | []=>True
 | c::cs=>C.okq c∧C.okps cs
def C.okq:C→Prop
 | .row cs=>C.okl cs
 | .non=>False
 | .bl _=>False
 | .int _=>False
 | .str _=>False
 | .rcd _=>False
 | .odd=>False
def C.okl:List C→Prop
 | []=>False
 | c::cs=>(∃k,c= .str k)∧cs.length=1∧C.oks cs
end
theorem T.deps_of{n:Nat}{ts:List T}(h:∀t∈ts,T.dep t≤n):T.deps ts≤n:=by
 induction ts with
 | nil=>exact pB _
 | cons t ts ih=>exact Nat.max_le.mpr ⟨h t mF,ih fun u hu=>h u (mH _ hu)⟩
section
variable{X:Cx}
end
section
variable{X:Cx}{e k:Expr}{te:TE}{tk:TO}{pos p2:Pos}
end
mutual
def T.calm:T→Prop
 | .int i=>-(10 ^ 12)≤i∧i≤10 ^ 12
 | .str x=>x.length≤100
 | .lst ts=>T.calms ts
 | .dic _ ts=>T.calms ts
 | .tup ts=>T.calms ts
 | .non=>True
 | .bl _=>True
def T.calms:List T→Prop
 | []=>True
 | t::ts=>T.calm t∧T.calms ts
end
structure Fit(d z:Nat)(t:T):Prop where
 few:T.few t
 calm:T.calm t
 dep:T.dep t≤d
 sz:T.sz t≤z
theorem qC:∀(n:Nat)(t:T),T.dep t≤n→T.few t→T.pure t:=by
 intro n
 induction n with
 | zero=>
  intro t hd hf
  cases t with
  | lst ts=>exact absurd hd (Nat.not_succ_le_zero _)
  | dic ks ts=>exact absurd hd (Nat.not_succ_le_zero _)
  | tup ts=>exact hf.elim
  | _=>exact mN
 | succ n ih=>
  have all:∀ts:List T,T.deps ts≤n→T.fews ts→T.pures ts:=by
   intro ts
   induction ts with
   | nil=>intros;exact mN
   | cons t ts ih2=>
    intro hd hf;have hd':max (T.dep t) (T.deps ts)≤n:=hd;exact⟨ih t (by lia) hf.1,ih2 (by lia) hf.2⟩
  intro t hd hf
  cases t with
  | lst ts=>exact all ts (Nat.le_of_succ_le_succ hd) hf.2
  | dic ks ts=>exact⟨hf.1,all ts (Nat.le_of_succ_le_succ hd) hf.2.2.2⟩
  | tup ts=>exact hf.elim
  | _=>exact mN
section
variable{P:Program}{w:World}
end
section
variable{X:Cx}
end
theorem zDp(xs:List V)(i:Nat):jU xs none (some (i:Int))=xs.take i:=by
 unfold jU;rw[HT.sIx_nat];show(xs.drop 0).take (min i xs.length - 0)=_;rw[rZ,eL]
 by_cases h:i≤xs.length
 ·rw[aV h]
 ·rw[aG (by lia),nQ,pH (by lia)]
theorem uE(xs:List V)(i:Nat):jU xs (some (i:Int)) none=xs.drop i:=by
 unfold jU;rw[HT.sIx_nat];show(xs.drop (min i xs.length)).take (xs.length - min i xs.length)=_
 by_cases h:i≤xs.length
 ·rw[aV h,pH (by rw[rG];lia)]
 ·rw[aG (by lia),eM,cG (by lia),dX]
theorem uT(xs:List V):jU xs none (some (-1))=xs.take (xs.length - 1):=by
 unfold jU;show(xs.drop 0).take ((-1+(xs.length:Int)).toNat - 0)=_;rw[rZ,eL]
 congr 1
 lia
theorem Reps.take{H:Hp}:∀{xs:List V}{us:List T}(i:Nat),Reps H xs us→Reps H (xs.take i) (us.take i)
 | xs,us,0,_=>by rw[List.take_zero,List.take_zero];exact rfl
 | xs,[],i+1,h=>by cases (show xs= [] from h);exact rfl
 | xs,u::us,i+1,⟨x,r,e,h1,h2⟩=>by
  subst e;rw[List.take_succ_cons,List.take_succ_cons];exact⟨x,_,rfl,h1,Reps.take i h2⟩
theorem Reps.drop{H:Hp}:∀{xs:List V}{us:List T}(i:Nat),Reps H xs us→Reps H (xs.drop i) (us.drop i)
 | xs,us,0,h=>by rw[rZ,rZ];exact h
 | xs,[],i+1,h=>by cases (show xs= [] from h);exact rfl
 | xs,u::us,i+1,⟨x,r,e,h1,h2⟩=>by
  subst e;rw[List.drop_succ_cons,List.drop_succ_cons];exact Reps.drop i h2
section
variable{X:Cx}{pins:List (Addr×Obj)}{σ σ':St}{H H':Hp}{s s':Shared}
end
theorem zTa{X:Cx}{K:W.Frag}(h:X.K=K):IxR X (zTq K):=by subst h;exact ix_list
end L2
namespace L2
open PySem PySem.Spec PyProof.Rows PySem.Builtin PySem.Builtin.Str
section
variable{prog:Program}{w:World}{A:Around}{E:Value→Shared→Prop}{s:Shared}{x y:Str}{t u:Tok}{Q:Value→Shared→Prop}
theorem zOo(hy:(y.length==0)=false)(hx:x.length≤1000000)
  (q:∀(l:List (Str×Tok))(k:Nat),l.map (·.1)=Txt.split x y→Q (.ref s.heap.objs.size) {s with heap:=s.heap.push {cls:=.type "list",data:=.seq (strValues l).toArray},toks:=k}):
  wpAny (model prog w) A (call (.builtin "str.split") [.str x t, .str y u]) Q E s:=by
 have hz:x.length≤sizeLine:=by rw[mU];lia
 cases c1:(decide (x.length<y.length)|| decide (PySem.Builtin.Str.strKind x<PySem.Builtin.Str.strKind y)) with
 | true=>
  refine aQ eN (bW _ _ _) eC (dS _ _)
   (meets_str_split_cannot_occur x y t u c1) ?_
  exact q [(x,t)] s.toks (by unfold Txt.split;rw[mK c1];rfl)
 | false=>
  have n1:¬((decide (x.length<y.length)|| decide (PySem.Builtin.Str.strKind x<PySem.Builtin.Str.strKind y))=true):=by rw[c1];exact mW
  cases c2:(occurrences x y 0 x.length (x.length+1)).isEmpty with
  | true=>
   refine aQ eN (bW _ _ _) eC (dS _ _)
    (meets_str_split_not_found x y t u c1 hy c2) ?_
   exact q [(x,t)] s.toks (by unfold Txt.split;rw[mI n1,mK c2];rfl)
  | false=>
   have n2:¬((occurrences x y 0 x.length (x.length+1)).isEmpty=true):=by rw[c2];exact mW
   have hn:(partsBetween x (occurrences x y 0 x.length (x.length+1)) y.length).length≤sizeLine:=by
    have:=StrLaws.occ_length_le x y 0 x.length (x.length+1);rw[bJ,mU];lia
   refine aQ eN (bW _ _ _) eC (dS _ _)
    (meets_str_split_sep x y t u c1 hy c2 hz hn) ?_
   have z:=q (numbered s.toks (partsBetween x (occurrences x y 0 x.length (x.length+1)) y.length)) (s.toks+(partsBetween x (occurrences x y 0 x.length (x.length+1)) y.length).length)
    ((numbered_texts _ _).trans (by unfold Txt.split;rw[mI n1,mI n2]))
   rw[←strsFrom_eq] at z;exact z
end
theorem zIo(x y z:Str):(Txt.replace x y z).length≤x.length+(x.length+1)*z.length:=by
 unfold Txt.replace;split
 ·lia
 ·have h1:=StrLaws.occ_length_le x y 0 x.length (x.length+1)
  have hy:(glued y (partsBetween x (occurrences x y 0 x.length (x.length+1)) y.length)).length=x.length:=by rw[StrLaws.glued_between_self]
  rw[size_glued,bJ,bS] at hy;rw[size_glued,bJ,bS];have h2:(occurrences x y 0 x.length (x.length+1)).length*z.length≤(x.length+1)*z.length:=dA _ h1
  lia
section
variable{X:Cx}
def yCv:V→List V→Hp→VK→Prop:=fun x vs H Q=>∃(z y:Str),x= .str z∧vs= [.str y]∧y.length≠0∧z.length≤1000000∧∀l,H l=none→Q (.ref l) (upd H l (.lst ((Txt.split z y).map V.str)))
theorem zCp:∀(l:List (Str×Tok)),Vals ((l.map (·.1)).map V.str) (strValues l)
 | []=>.nil
 | p::l=>.cons ⟨p.2,rfl⟩ (zCp l)
theorem zIs:MtR X "str.split" yCv:=by
 intro pins s σ H x vs v us Q I rx rv h;obtain⟨z,y,rfl,rfl,hy,hz,q⟩:=h;obtain⟨t,rfl⟩:=rx;obtain⟨u,rfl,t',rfl⟩:=rv.one;refine zOo (by simp[hy]) hz fun l k e=>?_;have hf:H s.heap.objs.size=none:=I.hok.fresh (mD _);refine⟨.ref s.heap.objs.size,upd H s.heap.objs.size (.lst ((Txt.split z y).map V.str)),I.laid (fun b u e=>mE _ e) (mD _) ?_,rfl,q _ hf⟩;refine⟨?_,strValues l,0, ?_,mX _ rfl⟩
 ·have:=split_le z y
  rw[mJ,mU];lia
 ·rw[←e];exact zCp l
def PEt(X:Cx)(e:Expr)(t:TE):Prop:=
 ∀(pins:List (Addr×Obj))(s:Shared)(σ:St)(H:Hp)(Q:VK),Inv X pins σ H s→0<s.toks→t σ H Q→wpAny (model X.prog X.w) X.A (eval e X.env) (EP X pins σ Q) X.xe s
def tRepl(i:Nat)(y z:Str):TE:=fun σ H Q=>∃x,σ[i]? =some (some (.str x))∧x.length≤1000000∧Q (.str (Txt.replace x y z)) H
theorem zIy{x:Str}{i:Nat}{y z:Str}{j1 j2:Nat}{p0 p1 p2 apos cpos:Pos}(hN:X.N[i]? =some x)(hv:Vis X.env.scope x)(hyz:(y==z)=false)(hz:z.length≤14)
  (hline:(apos.endLine==cpos.line)=true:=by rfl) (hd:(x==("__debug__" :Str))=false:=by decide) (hcd:(x==("__classdict__" :Str))=false:=by decide):
  PEt X (.Call (.Attribute (.Name x p0) "replace" apos) [.Constant (.str y) j1 p1, .Constant (.str z) j2 p2] [] cpos) (tRepl i y z):=by
 intro pins s σ H Q I h0 h;obtain⟨vx,e,hl,q⟩:=h;refine wpAny_Call_method_late rfl rfl hline rfl ?_;obtain⟨m,hn,hlk⟩:=I.loc;obtain⟨u,⟨t,ru⟩,l⟩:=hlk i x (.str vx) hN e hv;subst ru;have fin:MethodOn X.prog X.w X.A "replace" cpos (.str vx t) (backTo cpos (starEach [.Constant (.str y) j1 p1, .Constant (.str z) j2 p2] X.env)) (EP X pins σ Q) X.xe s:=by
  refine⟨"str","str.replace",F.plainAttrs_str,F.slot_str_replace,F.type_str_replace,bW _ _ _,(fun _ e=>nomatch e), ?_⟩;refine tK rfl (cW ?_);refine bP (bO (k:=j1) (pos:=p1) (bP (bO (k:=j2) (pos:=p2) (eA ?_))));refine SC.replaceW (Nat.pos_iff_ne_zero.mp h0) (Nat.succ_ne_zero _) (fun c=>absurd (show s.toks=s.toks+1 from c) (by lia)) hyz (by lia) hz fun t' k=>?_;exact⟨.str (Txt.replace vx y z),H,I.tok _,⟨_,rfl⟩,q⟩
 rcases l with⟨hk,hm⟩|⟨hk,c,hc,hcell⟩
 ·exact cS (cT I.ok.kind hk hn hm fin) hd
 ·rcases hk with hk | hk
  ·exact cS (dJ I.ok.kind hk hc hcell fin) hd
  ·exact cS (wpAny_loadName_free I.ok.kind hk hc hcell fin hcd) hd
end
structure Bl3(mg:Str→Option Value):Prop extends Bl2 mg where
 abs:mg "abs" =none
end L2
namespace L2
open PySem PySem.Spec PyProof.Rows
def yO(ns:List Int)(k:Int):Int:=
 let m:=if ns= [] then k*7919 else(k*7919+k / ns.length*104729+ns.getD (k % ns.length).toNat 0*48271)% 1000003
 (m*m / 11+13*m)% 1000003
theorem jB(ns:List Int)(k:Int):0≤yO ns k:=aW _ (by decide)
theorem kG(ns:List Int)(k:Int):yO ns k<1000003:=tP _ (by decide)
def zPw(m:Int):Int:=if m % 3=0 then m / 3 % 41 - 20 else if m % 3=1 then m ^ 4 % 2000000000001 - 1000000000000
 else([1000000000000,-1000000000000,999999999999,0,1,-1,100000000000,999]:List Int).getD (m / 3 % 8).toNat 0
theorem uI{α:Type}{xs:List α}{i:Int}(d:α)(h0:0≤i)(h1:i<xs.length):xs.getD i.toNat d∈xs:=by
 have h:i.toNat<xs.length:=by lia
 rw[nS,nF h];exact aH h
theorem zWy(m:Int): -(10 ^ 12)≤zPw m∧zPw m≤10 ^ 12:=by
 unfold zPw;split
 ·lia
 ·split
  ·have h1:=aW (m ^ 4) (show(2000000000001:Int)≠0 by decide)
   have h2:=tP (m ^ 4) (show(0:Int)<2000000000001 by decide)
   lia
  ·have h:=uI (xs:=([1000000000000,-1000000000000,999999999999,0,1,-1,100000000000,999]:List Int)) (i:=m / 3 % 8) 0 (by lia) (by simp only[mS,nX];lia)
   revert h
   generalize ([1000000000000,-1000000000000,999999999999,0,1,-1,100000000000,999]:List Int).getD (m / 3 % 8).toNat 0=z;intro h;simp only[mG,tF,dN] at h;rcases h with rfl | rfl | rfl | rfl | rfl | rfl | rfl | rfl<;>decide
def chF(i:Int):Nat:=(letL++qM).getD i.toNat 0
theorem zHk{i:Int}(h0:0≤i)(h1:i<36):atI (letL++qM) i=some (chF i):=vW h0 (by show i<((36:Nat):Int);lia)
theorem yAw{i:Int}(h0:0≤i)(h1:i<36):chF i∈letL++qM:=uI 0 h0 (by show i<((36:Nat):Int);lia)
theorem zMq{i:Int}(h0:0≤i)(h1:i<26):chF i∈letL:=by
 obtain⟨c,e,h⟩:=yDd h0 h1;rw[zHk h0 (by lia)] at e;cases e;exact h
def zAl(m:Int):Int:=([1,1+m / 3 % 4,1+m / 3 % 12]:List Int).getD (m % 3).toNat 0
theorem zOh(m:Int):1≤zAl m∧zAl m≤12:=by
 unfold zAl;have h:=uI (xs:=([1,1+m / 3 % 4,1+m / 3 % 12]:List Int)) (i:=m % 3) 0 (by lia) (by simp only[mS,nX];lia)
 revert h
 generalize ([1,1+m / 3 % 4,1+m / 3 % 12]:List Int).getD (m % 3).toNat 0=z;intro h;simp only[mG,tF,dN] at h;rcases h with rfl | rfl | rfl<;>lia
theorem zVu(m:Int):atI [V.int 1,V.int (1+m / 3 % 4),V.int (1+m / 3 % 12)] (m % 3)=some (.int (zAl m)):=by
 rw[vW (d:=V.int 0) (by lia) (by simp only[mS,nX];lia)];unfold zAl;rcases(by lia:m % 3=0∨m % 3=1∨m % 3=2) with e | e | e<;>rw[e]<;>rfl
def zCl(m:Int)(n:Nat):List Nat:=(List.range n).map fun(i:Nat)=>chF ((m / 7+(0+(i:Int))*(1+m / 11 % 35))% 36)
def kK(m:Int):List Nat:=
 if m / 36 % 2=1 then List.replicate (m / 72 % zAl m).toNat 97++ [chF (m / 864 % 26)]++List.replicate (zAl m - m / 72 % zAl m - 1).toNat 97
 else chF (m / 72 % 26)::zCl m (zAl m - 1).toNat
theorem kQ(m:Int):yJ (kK m)=true:=by
 obtain⟨n1,n12⟩:=zOh m;unfold kK;split
 ·have a0:=aW (m / 72) (show zAl m≠0 by lia)
  have a1:=tP (m / 72) (show 0<zAl m by lia);have hcl:=zMq (i:=m / 864 % 26) (by lia) (by lia);refine zAk ?_ ?_ ?_
  ·simp only[mL,sA,nB];lia
  ·cases e:(m / 72 % zAl m).toNat with
   | zero=>exact⟨_,_,rfl,hcl⟩
   | succ k=>exact⟨97,_,rfl,zMc⟩
  ·intro d hd
   simp only[nD,List.mem_replicate,mP] at hd;rcases hd with(⟨_,rfl⟩| rfl)|⟨_,rfl⟩
   ·exact zAb zMc
   ·exact zAb hcl
   ·exact zAb zMc
 ·have hcl:=zMq (i:=m / 72 % 26) (by lia) (by lia)
  refine zAk ?_ ⟨_,_,rfl,hcl⟩ ?_
  ·simp only[mS,zCl,mJ,eD];lia
  ·intro d hd
   rcases mG.mp hd with z | z
   ·rw[z];exact zAb hcl
   ·obtain⟨i,_,rfl⟩:=nM.mp z
    exact yAw (by lia) (by lia)
def sgF(i:Int):Nat:=sgnL.getD i.toNat 0
theorem zUb{i:Int}(h0:0≤i)(h1:i<94):atI sgnL i=some (sgF i):=vW h0 (by show i<((94:Nat):Int);lia)
theorem zRk{i:Int}(h0:0≤i)(h1:i<94):sgF i∈sgnL:=uI 0 h0 (by show i<((94:Nat):Int);lia)
def zEa(m:Int):Int:=([m / 5 % 4,m / 5 % 9,m / 5 % 31]:List Int).getD (m % 3).toNat 0
theorem zNx(m:Int):0≤zEa m∧zEa m≤30:=by
 unfold zEa;have h:=uI (xs:=([m / 5 % 4,m / 5 % 9,m / 5 % 31]:List Int)) (i:=m % 3) 0 (by lia) (by simp only[mS,nX];lia)
 revert h
 generalize ([m / 5 % 4,m / 5 % 9,m / 5 % 31]:List Int).getD (m % 3).toNat 0=z;intro h;simp only[mG,tF,dN] at h;rcases h with rfl | rfl | rfl<;>lia
theorem zWs(m:Int):atI [V.int (m / 5 % 4),V.int (m / 5 % 9),V.int (m / 5 % 31)] (m % 3)=some (.int (zEa m)):=by
 rw[vW (d:=V.int 0) (by lia) (by simp only[mS,nX];lia)];unfold zEa;rcases(by lia:m % 3=0∨m % 3=1∨m % 3=2) with e | e | e<;>rw[e]<;>rfl
def zMk(m:Int)(n:Nat):List Nat:=(List.range n).map fun(i:Nat)=>sgF ((m / 7+(0+(i:Int))*(1+m / 13 % 93))% 94)
def zIk(m:Int):List Nat:=
 if m / 155 % 3=1 then List.replicate (zEa m / 2).toNat 39++List.replicate (zEa m - zEa m / 2).toNat (sgF (m / 465 % 94)) else zMk m (zEa m).toNat
theorem zUr(m:Int):zAi (zIk m)=true:=by
 obtain⟨n0,n30⟩:=zNx m;unfold zIk;split
 ·refine zEp ?_ ?_
  ·simp only[mL,sA];lia
  ·intro d hd
   simp only[nD,List.mem_replicate] at hd;rcases hd with⟨_,rfl⟩|⟨_,rfl⟩
   ·exact yCj
   ·exact zRk (by lia) (by lia)
 ·refine zEp ?_ ?_
  ·simp only[zMk,mJ,eD];lia
  ·intro d hd
   obtain⟨i,_,rfl⟩:=nM.mp hd;exact zRk (by lia) (by lia)
theorem uA{α:Type}(f:Nat→α)(i:Nat):(List.range (i+1)).map f=(List.range i).map f++ [f i]:=by rw[List.range_succ,nA];rfl
def yF(n:List Nat)(t:T):List (List Nat)→List T→List T
 | k::ks,u::us=>(if k=n then t else u)::yF n t ks us
 | _,us=>us
def xZ(p:List (List Nat)×List T)(n:List Nat)(t:T):List (List Nat)×List T:=if n∈p.1 then(p.1,yF n t p.1 p.2) else(p.1++ [n],p.2++ [t])
theorem xE(n:List Nat)(t:T):∀(ks:List (List Nat))(us:List T),(yF n t ks us).length=us.length
 | [],us=>by unfold yF;rfl
 | _::_,[]=>rfl
 | k::ks,u::us=>by
  show(yF n t ks us).length+1=us.length+1;rw[xE n t ks us]
theorem qW(n:List Nat)(t:T):∀(ks:List (List Nat))(us:List T)(u:T),u∈yF n t ks us→u∈us∨u=t
 | [],us,u,h=>by unfold yF at h;exact .inl h
 | _::_,[],u,h=>.inl h
 | k::ks,v::us,u,h=>by
  have h':u∈(if k=n then t else v)::yF n t ks us:=h;rcases mG.mp h' with z | z
  ·split at z
   ·exact .inr z
   ·exact .inl (by rw[z];exact mF)
  ·exact(qW n t ks us u z).imp (mH _) id
theorem Reps.replT{H:Hp}{n:List Nat}{v:V}{t:T}(hv:Rep H v t):∀{ps:List (Key×V)}{ks:List (List Nat)}{us:List T},ps.map (·.1)=ks.map nK→Reps H (ps.map (·.2)) us→Reps H ((ps.map fun kv=>if kv.1=nK n then(kv.1,v) else kv).map (·.2)) (yF n t ks us)
 | [],[],us,_,h=>by
  have e:yF n t [] us=us:=by unfold yF;rfl
  rw[e];exact h
 | [],_::_,_,e,_=>by simp at e
 | _::_,[],_,e,_=>by simp at e
 | p::ps,k::ks,[],_,h=>by
  have h':(p::ps).map (·.2)= []:=h;cases h'
 | p::ps,k::ks,u::us,e,⟨v',r,e0,h1,h2⟩=>by
  have e':p.2::ps.map (·.2)=v'::r:=e0;injection e' with e1 e2;subst e1 e2;have e3:p.1::ps.map (·.1)=nK k::ks.map nK:=e;injection e3 with e4 e5;have ih:=Reps.replT (n:=n) hv e5 h2
  by_cases hk:k=n
  ·refine⟨v,_, ?_, ?_,ih⟩
   ·rw[mY,mK (by rw[e4,hk]),mY]
   ·rw[mK hk];exact hv
  ·refine⟨p.2,_, ?_, ?_,ih⟩
   ·rw[mY,mI (by rw[e4];exact fun z=>hk (zDk z)),mY]
   ·rw[mI hk];exact h1
theorem zKe{H:Hp}{ps:List (Key×V)}{p:List (List Nat)×List T}{n:List Nat}{v:V}{t:T}(hk:ps.map (·.1)=p.1.map nK)(hR:Reps H (ps.map (·.2)) p.2)(hv:Rep H v t):
  (vP ps (nK n) v).map (·.1)=(xZ p n t).1.map nK∧Reps H ((vP ps (nK n) v).map (·.2)) (xZ p n t).2:=by
 have hm:(ps.any fun kv=>decide (kv.1=nK n))=true↔n∈p.1:=by
  rw[cJ];constructor
  ·rintro⟨kv,hkv,e⟩
   have:nK n∈ps.map (·.1):=nM.mpr ⟨kv,hkv,eB e⟩;rw[hk] at this;obtain⟨k,h1,h2⟩:=nM.mp this;rw[←zDk h2];exact h1
  ·intro h
   have:nK n∈ps.map (·.1):=by rw[hk];exact nM.mpr ⟨n,h,rfl⟩
   obtain⟨kv,h1,h2⟩:=nM.mp this;exact⟨kv,h1,mZ h2⟩
 unfold vP xZ
 by_cases h:n∈p.1
 ·rw[mK (hm.mpr h),mK h]
  refine⟨?_,Reps.replT hv hk hR⟩;show _=p.1.map nK;rw[←hk,pQ];apply rL;intro q _;show(if q.1=nK n then(q.1,v) else q).1=q.1;split<;>rfl
 ·rw[mI (fun z=>h (hm.mp z)),mI h]
  exact⟨by rw[nA,hk,nA];rfl,by rw[nA];exact Reps.snoc hv hR⟩
def uS(nm:Nat→List Nat)(us:List T):Nat→List (List Nat)×List T
 | 0=>([],[])
 | i+1=>xZ (uS nm us i) (nm i) (us.getD i .non)
theorem zGa(nm:Nat→List Nat)(us:List T)(hn:∀i,yJ (nm i)=true):∀i,i≤us.length→(uS nm us i).1.Nodup∧(∀n∈(uS nm us i).1,yJ n=true)∧(∀u∈(uS nm us i).2,u∈us)∧(uS nm us i).1.length=(uS nm us i).2.length∧(uS nm us i).1.length≤i
 | 0,_=>⟨sC,fun _ h=>(nomatch h),fun _ h=>(nomatch h),rfl,mD _⟩
 | i+1,hi=>by
  obtain⟨h1,h2,h3,h4,h5⟩:=zGa nm us hn i (by lia);have hin:us.getD i .non∈us:=by
   rw[nS,nF (by lia)];exact aH _
  unfold uS xZ;split
  ·exact⟨h1,h2,fun u hu=>(qW _ _ _ _ u hu).elim (h3 u) (fun e=>by rw[e];exact hin),by rw[xE];exact h4,tX h5⟩
  ·rename_i hm
   refine⟨zBv h1 hm,fun n hn'=>?_,fun u hu=>?_,by simp[h4],by simp only[mL,nB];lia⟩
   ·rcases nD.mp hn' with q | q
    ·exact h2 n q
    ·rw[mP.mp q];exact hn i
   ·rcases nD.mp hu with q | q
    ·exact h3 u q
    ·rw[mP.mp q];exact hin
def jA(m kd:Int):T:=if kd=0 then([.non, .bl true, .bl false]:List T).getD (m / 9 % 3).toNat .non else if kd<3 then .int (zPw (m / 9)) else .str (zIk (m / 9))
theorem zCa(m kd:Int)(d:Nat):Nice d (jA m kd):=by
 unfold jA;split
 ·rcases(by lia:m / 9 % 3=0∨m / 9 % 3=1∨m / 9 % 3=2) with e | e | e<;>rw[e]<;>exact mN
 ·split
  ·exact zWy _
  ·exact zUr _
theorem zKk{H:Hp}(m:Int):∃v,atI [V.non,V.bl true,V.bl false] (m / 9 % 3)=some v∧Rep H v (jA m 0):=by
 have e0:jA m 0=([.non, .bl true, .bl false]:List T).getD (m / 9 % 3).toNat .non:=mK rfl;rw[e0];rcases(by lia:m / 9 % 3=0∨m / 9 % 3=1∨m / 9 % 3=2) with e | e | e<;>rw[e]
 ·exact⟨.non,rfl,rfl⟩
 ·exact⟨.bl true,rfl,rfl⟩
 ·exact⟨.bl false,rfl,rfl⟩
def zDx(ns:List Int)(k:Int)(j:Nat):List Nat:=kK (yO ns (k*5+1+(0+(j:Int)))/ 9+(0+(j:Int)))
def thT(ns:List Int):Nat→Int→T
 | 0,k=>jA (yO ns k) (yO ns k % 5)
 | e+1,k=>if yO ns k % 9<5 then jA (yO ns k) (yO ns k % 9) else
  if yO ns k % 9<7 then .lst ((List.range (yO ns k / 9 % 5).toNat).map fun(j:Nat)=>thT ns e (k*5+1+(0+(j:Int))))
  else .dic (uS (zDx ns k) ((List.range (yO ns k / 9 % 5).toNat).map fun(j:Nat)=>thT ns e (k*5+1+(0+(j:Int)))) (yO ns k / 9 % 5).toNat).1 (uS (zDx ns k) ((List.range (yO ns k / 9 % 5).toNat).map fun(j:Nat)=>thT ns e (k*5+1+(0+(j:Int)))) (yO ns k / 9 % 5).toNat).2
theorem kO(ns:List Int):∀(d:Nat)(k:Int),Nice d (thT ns d k)
 | 0,k=>zCa _ _ _
 | e+1,k=>by
  unfold thT;split
  ·exact zCa _ _ _
  ·have hN:NiceL e ((List.range (yO ns k / 9 % 5).toNat).map fun(j:Nat)=>thT ns e (k*5+1+(0+(j:Int)))):=NiceL_iff.mpr fun t ht=>by
    obtain⟨j,_,rfl⟩:=nM.mp ht;exact kO ns e _
   have hl:((List.range (yO ns k / 9 % 5).toNat).map fun(j:Nat)=>thT ns e (k*5+1+(0+(j:Int)))).length=(yO ns k / 9 % 5).toNat:=by simp
   have hle:(yO ns k / 9 % 5).toNat≤4:=by lia
   split
   ·exact⟨by lia,by lia,hN⟩
   ·obtain⟨h1,h2,h3,h4,h5⟩:=zGa (zDx ns k) _ (fun j=>kQ _) (yO ns k / 9 % 5).toNat (Nat.le_of_eq hl.symm)
    exact⟨by lia,by lia,h4,h1,h2,NiceL_iff.mpr fun u hu=>NiceL_iff.mp hN u (h3 u hu)⟩
end L2
namespace L2
open PySem PySem.Spec PyProof.Rows PySem.Builtin PySem.Builtin.Str
theorem vZ{k:List Nat}(h:yJ k=true):k.length≤12:=by
 unfold yJ at h;simp only[nZ,pC] at h
 lia
theorem zXc{i:Int}(h: -(10 ^ 12)≤i∧i≤10 ^ 12):(Str.ofString (toString i)).length≤14:=by
 rw[ofString_len];have z:∀m:Nat,m≤10 ^ 12→(Nat.repr m).length≤13:=fun m hm=>(Nat.length_repr_le_iff (by decide)).mpr (dQ hm (by decide))
 cases i with
 | ofNat m=>
  have hm:m≤10 ^ 12:=by
   have:=h.2;have e:(Int.ofNat m)=(m:Int):=rfl
   lia
  exact nN (z m hm) (by decide)
 | negSucc m=>
  have hm:m+1≤10 ^ 12:=by
   have:=h.1;have e:Int.negSucc m= -((m:Int)+1):=by lia
   lia
  show("-" ++Nat.repr (m+1)).length≤14;rw[String.length_append];have h1:("-" :String).length=1:=by decide
  have:=z _ hm
  lia
theorem zQa{b:Int}(h1: -(10 ^ 12)≤b)(h2:b≤10 ^ 12):b.natAbs.log2<1920:=by
 by_cases h:b.natAbs=0
 ·rw[h];decide
 ·refine(Nat.log2_lt h).mpr (dQ (show b.natAbs≤10 ^ 12 by lia) (nH (show 10 ^ 12<2 ^ 40 by decide) (Nat.pow_le_pow_right (by decide) (by decide))))
end L2
namespace L2
open PySem PySem.Spec PyProof.Rows
theorem zVq:bootBuiltins "range" =some (.type "range"):=by decide+kernel
def zXo(p:Addr)(n:Int):HO:=.ext fun h=>∃t u v,IsRange h p 0 n 1 t u v
section
variable{X:Cx}
theorem zKu:xS X (.type "range") (fun xs H Q=>∃n,xs= [.int n]∧∀p,H p=none→Q (.ref p) (upd H p (zXo p n))):=by
 intro pins s σ H xs us Q I r h;obtain⟨n,rfl,q⟩:=h;obtain⟨u,rfl,t,rfl⟩:=wR r;refine call_range_1 ?_;refine⟨.ref s.heap.objs.size,_,I.laid (t':=s.toks+1+1) (fun b o e=>mE _ e) (mD _) (o:=zXo s.heap.objs.size n) ?_,rfl,q _ (I.hok.fresh (mD _))⟩;exact⟨⟨_,_,_,mX _ rfl⟩,⟨_,mX _ rfl⟩,fun h1 h2 ⟨t,u,v,e⟩ k=>⟨t,u,v,k _ e⟩⟩
theorem zFs:∀(us:List Value)(k:Nat),(∀(j:Nat)(v:Value),us[j]? =some v→∃t,v= .int (0+((k+j:Nat):Int)*1) t)→Vals ((List.range' k us.length).map fun(i:Nat)=>V.int (i:Int)) us
 | [],_,_=>.nil
 | u::us,k,h=>by
  obtain⟨t,e⟩:=h 0 u rfl;subst e;rw[mS,List.range'_succ,mY];refine .cons ⟨t, ?_⟩ (zFs us (k+1) fun j v hv=>?_)
  ·show Value.int _ t=Value.int _ t
   congr 1
   lia
  ·obtain⟨t',e'⟩:=h (j+1) v (by simpa using hv)
   exact⟨t',by rw[e'];congr 2;lia⟩
theorem zKh(hc:X.calm=true):xS X (.type "list") (fun xs H Q=>∃p n,xs= [.ref p]∧H p=some (zXo p n)∧0≤n∧n≤100000∧∀l,H l=none→Q (.ref l) (upd H l (.lst ((List.range n.toNat).map fun(i:Nat)=>V.int (i:Int))))):=by
 intro pins s σ H xs us Q I r h;obtain⟨p,n,rfl,hp,n0,n1,q⟩:=h;obtain⟨u,rfl,rx⟩:=wR r;cases rx;obtain⟨⟨t,u,v,hr⟩,_⟩:=(show ObjOk X.prog X.w H s.heap p (zXo p n) from I.hok p _ hp);refine call_list_range (n:=n.toNat) (I.ok.hd.1 hc) hr (small_one (by lia) (by lia) (by lia) (by lia)) ?_ (by lia) fun h' tk acc c' hk hg hi=>?_
 ·rw[rangeSize_one];split<;>lia
 refine⟨.ref s.heap.objs.size,_,I.laid (t':=tk) hk (mD _) (o:=.lst ((List.range n.toNat).map fun(i:Nat)=>V.int (i:Int))) ?_,rfl,q _ (I.hok.fresh (mD _))⟩;have hl:acc.toList.length=n.toNat:=by rw[aI];exact hi.1
 refine⟨by rw[mJ,eD,mU];lia,acc.toList,c', ?_,by simpa using hg⟩;have z:=zFs acc.toList 0 fun j v e=>by
  obtain⟨t',e'⟩:=hi.2 j v (by rw[←tS];exact e);exact⟨t',by rw[e'];congr 2;lia⟩
 rw[hl] at z;rw[List.range_eq_range'];exact z
def zNw(t u:TE):TE:=fun σ H Q=>t σ H Q∨u σ H Q
theorem zAe{e:Expr}{t u:TE}(h1:PE X e t)(h2:PE X e u):PE X e (zNw t u):=fun pins s σ H Q I h=>h.elim (h1 pins s σ H Q I) (h2 pins s σ H Q I)
end
def scv:T→V
 | .int i=>.int i
 | .str x=>.str (tx x)
 | _=>.non
def yX:T→List T
 | .lst us=>(List.range us.length).map fun(i:Nat)=>T.int (i:Int)
 | .dic ks _=>(uW ks).map T.str
 | _=>[]
def kid:T→T→T
 | .lst us, .int i=>us.getD i.toNat .non
 | .dic ks us, .str k=>yD k ks us
 | _,_=>.non
def pth:Nat→T→List (List T)
 | 0,_=>[]
 | n+1,t=>[]::((yX t).map fun s=>(pth n (kid t s)).map (s:: ·)).flatten
def Sc(t:T):Prop:=(∃i,t= .int i)∨∃x,t= .str x
theorem Sc.rep{H:Hp}{t:T}(h:Sc t):Rep H (scv t) t:=by
 rcases h with⟨i,rfl⟩|⟨x,rfl⟩<;>rfl
theorem Sc.reps{H:Hp}:∀{ts:List T},(∀t∈ts,Sc t)→Reps H (ts.map scv) ts
 | [],_=>rfl
 | t::ts,h=>⟨scv t,ts.map scv,rfl,(h t mF).rep,Sc.reps fun u hu=>h u (mH _ hu)⟩
theorem zQn(t:T):∀s∈yX t,Sc s:=by
 intro s hs
 cases t with
 | lst us=>
  obtain⟨i,_,rfl⟩:=nM.mp hs;exact .inl ⟨_,rfl⟩
 | dic ks us=>
  obtain⟨i,_,rfl⟩:=nM.mp hs;exact .inr ⟨_,rfl⟩
 | _=>cases hs
theorem zNv{n:Nat}{t:T}{p:List T}(h:p∈pth (n+1) t):p= []∨∃s r,p=s::r∧s∈yX t∧r∈pth n (kid t s):=by
 have h':p∈ []::((yX t).map fun s=>(pth n (kid t s)).map (s:: ·)).flatten:=h;rcases mG.mp h' with z | z
 ·exact .inl z
 ·obtain⟨l,hl,hp⟩:=List.mem_flatten.mp z
  obtain⟨s,hs,rfl⟩:=nM.mp hl;obtain⟨r,hr,rfl⟩:=nM.mp hp;exact .inr ⟨s,r,rfl,hs,hr⟩
theorem zHn:∀(n:Nat)(t:T)(p:List T),p∈pth n t→(∀s∈p,Sc s)∧p.length<n
 | 0,_,_,h=>nomatch h
 | n+1,t,p,h=>by
  rcases zNv h with rfl |⟨s,r,rfl,hs,hr⟩
  ·exact⟨fun _ h=>(nomatch h),by simp⟩
  ·obtain⟨h1,h2⟩:=zHn n _ r hr
   refine⟨fun u hu=>?_,by simp only[mS];lia⟩;rcases mG.mp hu with z | z
   ·rw[z];exact zQn t s hs
   ·exact h1 u z
theorem uX(f:T→List (List T)):∀(l:List T),((l.map fun s=>(f s).map (s:: ·)).flatten).length=(l.map fun s=>(f s).length).sum
 | []=>rfl
 | s::l=>by simp only[mY,pP,mL,cH,uX f l,mJ]
theorem zJm{f g:T→Nat}:∀{l:List T},(∀s∈l,f s≤g s)→(l.map f).sum≤(l.map g).sum
 | [],_=>mD _
 | s::l,h=>by
  have h1:=h s mF;have h2:=zJm (l:=l) fun u hu=>h u (mH _ hu);simp only[mY,cH]
  lia
theorem zHp:∀(us:List T),(us.map T.sz).sum=T.szs us
 | []=>rfl
 | t::us=>by rw[mY,cH,zHp us];rfl
theorem zVd:∀(us:List T)(d:T),(List.range us.length).map (fun i=>us.getD i d)=us:=by
 intro us d;apply List.ext_getElem?;intro i;rw[nI]
 by_cases h:i<us.length
 ·rw[List.getElem?_range h,Option.map_some,nS,nF h];rfl
 ·rw[sB (by simp;lia),sB (by lia)];rfl
theorem zKt{us:List T}:∀{ks:List (List Nat)},ks.Nodup→ks.length=us.length→ks.map (fun k=>yD k ks us)=us:=by
 induction us with
 | nil=>
  intro ks _ h
  cases ks with
  | nil=>rfl
  | cons k ks=>cases h
 | cons w ws ih=>
  intro ks hn h
  cases ks with
  | nil=>cases h
  | cons k ks=>
   obtain⟨h1,h2⟩:=nW.mp hn;have e1:(yD k (k::ks) (w::ws))=w:=by show(if k=k then w else _)=w;rw[mK rfl]
   rw[mY,e1]
   congr 1
   have e2:ks.map (fun k'=>yD k' (k::ks) (w::ws))=ks.map (fun k'=>yD k' ks ws):=rL fun k' hk'=>by
    show(if k=k' then w else yD k' ks ws)=yD k' ks ws;rw[mI fun z=>h1 (by rw[z];exact hk')]
   rw[e2];exact ih h2 (by simpa using h)
theorem zSx(t:T)(h:T.few t):((yX t).map fun s=>T.sz (kid t s)).sum+1≤T.sz t:=by
 cases t with
 | lst us=>
  have e:((yX (.lst us)).map fun s=>T.sz (kid (.lst us) s))=us.map T.sz:=by
   show(((List.range us.length).map fun(i:Nat)=>T.int (i:Int)).map fun s=>T.sz (kid (.lst us) s))=_;rw[pQ]
   conv=>rhs;rw[←zVd us .non]
   rw[pQ]
   rfl
  rw[e,zHp];exact mD _
 | dic ks us=>
  obtain⟨nk,_,hl,_⟩:=h;have e:((yX (.dic ks us)).map fun s=>T.sz (kid (.dic ks us) s))=(uW ks).map fun k=>T.sz (yD k ks us):=by
   show(((uW ks).map T.str).map fun s=>T.sz (kid (.dic ks us) s))=_;rw[pQ]
   rfl
  rw[e,((jG ks).map _).sum_nat];have e2:(ks.map fun k=>T.sz (yD k ks us))=us.map T.sz:=by
   conv=>rhs;rw[←zKt nk hl]
   rw[pQ]
   rfl
  rw[e2,zHp];exact mD _
 | tup _=>exact h.elim
 | _=>exact mD _
theorem zMt{t s:T}(h:T.few t)(hs:s∈yX t):T.few (kid t s)∧T.dep (kid t s)<T.dep t∧T.sz (kid t s)<T.sz t:=by
 cases t with
 | lst us=>
  obtain⟨i,hi,rfl⟩:=nM.mp hs;have hi:=bC.mp hi;have e:kid (.lst us) (T.int (i:Int))=us[i]:=by
   show us.getD (i:Int).toNat .non=_;rw[nR,nS,nF hi];rfl
  rw[e];have hm:us[i]∈us:=aH hi;exact⟨T.fews_mem h.2 hm,cD (T.deps_le hm),cD (T.szs_le hm)⟩
 | dic ks us=>
  obtain⟨k,hk,rfl⟩:=nM.mp hs;obtain⟨nk,h64,hl,hf⟩:=h;have hm:yD k ks us∈us:=wS (mem_sortK.mp hk) hl;exact⟨T.fews_mem hf hm,cD (T.deps_le hm),cD (T.szs_le hm)⟩
 | _=>cases hs
theorem zBj:∀(n:Nat)(t:T),T.few t→(pth n t).length≤T.sz t
 | 0,_,_=>pB _
 | n+1,t,h=>by
  have e:(pth (n+1) t).length=((yX t).map fun s=>(pth n (kid t s)).length).sum+1:=by
   show(((yX t).map fun s=>(pth n (kid t s)).map (s:: ·)).flatten).length+1=_;rw[uX]
  have h1:((yX t).map fun s=>(pth n (kid t s)).length).sum≤((yX t).map fun s=>T.sz (kid t s)).sum:=zJm fun s hs=>zBj n _ (zMt h hs).1;have h2:=zSx t h
  lia
def zAx(n:Nat)(t:T)(i:Nat):List (List T):=[]::(((yX t).take i).map fun s=>(pth n (kid t s)).map (s:: ·)).flatten
theorem zPf(n:Nat)(t:T):zAx n t (yX t).length=pth (n+1) t:=by
 unfold zAx;rw[nQ];rfl
theorem zMf{n:Nat}{t s:T}{i:Nat}(h:(yX t)[i]? =some s):zAx n t (i+1)=zAx n t i++(pth n (kid t s)).map (s:: ·):=by
 unfold zAx;rw[yB h];simp
theorem zQf{n:Nat}{t:T}(i:Nat):(zAx n t i).length≤(pth (n+1) t).length:=by
 show _≤([]::((yX t).map fun s=>(pth n (kid t s)).map (s:: ·)).flatten).length;unfold zAx;rw[mS,mS,uX,uX];have e:((yX t).map fun s=>(pth n (kid t s)).length).sum=(((yX t).take i).map fun s=>(pth n (kid t s)).length).sum+(((yX t).drop i).map fun s=>(pth n (kid t s)).length).sum:=by
  conv=>lhs;rw[←tU i (yX t)]
  rw[nA,List.sum_append]
 lia
def Lay(H:Hp):List Addr→List (List V)→Prop
 | [],[]=>True
 | p::ps,v::vs=>H p=some (.lst v)∧Lay H ps vs
 | _,_=>False
theorem Lay.same{H H':Hp}(g:Same H H'):∀{ps:List Addr}{vs:List (List V)},Lay H ps vs→Lay H' ps vs
 | [],[],_=>mN
 | _::_,_::_,h=>⟨g _ _ h.1,Lay.same g h.2⟩
 | [],_::_,h=>h.elim
 | _::_,[],h=>h.elim
theorem Lay.away{H:Hp}{a:Addr}{o:HO}:∀{ps:List Addr}{vs:List (List V)},a∉ps→Lay H ps vs→Lay (upd H a o) ps vs
 | [],[],_,_=>mN
 | p::_,_::_,hn,h=>⟨by rw[zO fun z=>hn (by rw[←z];exact mF)];exact h.1,Lay.away (fun z=>hn (mH _ z)) h.2⟩
 | [],_::_,_,h=>h.elim
 | _::_,[],_,h=>h.elim
theorem Lay.append{H:Hp}{qs:List Addr}{ws:List (List V)}(h':Lay H qs ws):∀{ps:List Addr}{vs:List (List V)},Lay H ps vs→Lay H (ps++qs) (vs++ws)
 | [],[],_=>h'
 | _::_,_::_,h=>⟨h.1,Lay.append h' h.2⟩
 | [],_::_,h=>h.elim
 | _::_,[],h=>h.elim
theorem Lay.length{H:Hp}:∀{ps:List Addr}{vs:List (List V)},Lay H ps vs→ps.length=vs.length
 | [],[],_=>rfl
 | _::_,_::_,h=>by rw[mS,mS,Lay.length h.2]
 | [],_::_,h=>h.elim
 | _::_,[],h=>h.elim
theorem Lay.get{H:Hp}:∀{ps:List Addr}{vs:List (List V)}{i:Nat}{p:Addr},Lay H ps vs→ps[i]? =some p→∃v,vs[i]? =some v∧H p=some (.lst v)
 | [],[],i,p,_,e=>by simp at e
 | q::ps,v::vs,0,p,h,e=>by
  simp at e;exact⟨v,rfl,by rw[←e];exact h.1⟩
 | q::ps,v::vs,i+1,p,h,e=>by
  obtain⟨w,e1,e2⟩:=Lay.get (i:=i) h.2 (by simpa using e);exact⟨w,by simpa using e1,e2⟩
 | [],_::_,_,_,h,_=>h.elim
 | _::_,[],_,_,h,_=>h.elim
theorem Lay.there{H:Hp}{p:Addr}:∀{ps:List Addr}{vs:List (List V)},Lay H ps vs→p∈ps→∃o,H p=some o
 | [],_,_,h=>nomatch h
 | q::ps,v::vs,h,hm=>by
  rcases mG.mp hm with z | z
  ·exact⟨_,by rw[z];exact h.1⟩
  ·exact Lay.there h.2 z
 | _::_,[],h,_=>h.elim
theorem yAr{α:Type}{xs:List α}{i:Nat}{x:α}(h:xs[i]? =some x):atI xs (i:Int)=some x:=yM h
theorem zVy{K:W.Frag}{σ:St}{H:Hp}{Q:VK}{i j:Nat}{v:V}{t s:T}(hi:σ[i]? =some (some v))(hj:σ[j]? =some (some (scv s)))(hv:Rep H v t)(hf:T.few t)(hs:s∈yX t)(q:∀c,Rep H c (kid t s)→Q c H):
  zNw (tOp (zTq K) (zBh i) (zBh j)) (zMy (zBh i) (zBh j)) σ H Q:=by
 cases t with
 | lst us=>
  obtain⟨m,hm,rfl⟩:=nM.mp hs;have hm:=bC.mp hm;obtain⟨a,xs,rfl,ha,hx⟩:=hv;have hml:m<xs.length:=by rw[hx.length];exact hm
  obtain⟨t',ht',hr'⟩:=hx.get (i:=m) (v:=xs[m]) (by simp[hml]);have e:kid (.lst us) (T.int (m:Int))=t':=by
   show us.getD (m:Int).toNat .non=_;rw[nR,nS,ht'];rfl
  refine .inl ⟨_,hi,_,hj,yK (SqL.of ha) (v:=xs[m]) (yAr (by simp[hml])) (q _ ?_)⟩;rw[e];exact hr'
 | dic ks us=>
  obtain⟨k,hk,rfl⟩:=nM.mp hs;obtain⟨a,ps,rfl,ha,hkk,hx⟩:=hv;obtain⟨nk,h64,hle,hf⟩:=hf;obtain⟨c,hc1,hc2⟩:=Rep.at_name nk hkk hx (mem_sortK.mp hk);exact .inr ⟨_,hi,_,hj,a,c,rfl, .inl ⟨ps,Sum.inr (tx k), .inl ha,rfl,hc1.symm⟩,q c hc2⟩
 | _=>cases hs
section
variable{X:Cx}{pins:List (Addr×Obj)}{σ:St}{H:Hp}{s:Shared}{h':Heap}
theorem Inv.turnedNew{fp:List Addr}{a:Addr}{o:HO}{t':Nat}(I:Inv X pins σ H s)(hf:∀b∈fp,zBx X pins H b)(k:∀b ob,b∉fp→s.heap.get? b=some ob→h'.get? b=some ob)(hp:s.heap.objs.size≤a)
  (new:ObjOk X.prog X.w (upd H a o) h' a o):Inv X pins σ (upd H a o) {s with heap:=h',toks:=t'}:=by
 have hn:H a=none:=I.hok.fresh hp;have nfp:∀b u,H b=some u→b∉fp:=fun b u e z=>by rw[(hf b z).1] at e;cases e
 have nea:∀b ob,s.heap.get? b=some ob→b≠a:=fun b ob e=>nL (nH (mR e) hp);refine I.step (g':=s.gens) (d':=s.drawn) (ch:=fp) (fun b hb=>?_) (fun b ob _ _ hc e _=>k b ob hc e) (fun b ob _ _ hc e _=>⟨ob.slots,k b ob hc e⟩) (fun b ob _ e n=>by rw[zO (nea b ob e)];exact n)
  (fun b ob hc e=>⟨ob,k b ob hc e⟩) (fun b xs e=>by rw[zO (zX e hn)];exact e) (fun b ob u e=>by rw[zO (zX e hn)];exact e) (fun b ps e=>⟨#[],by rw[zO (zX e hn),e];simp⟩) (fun m hm=>?_) (fun b u e=>?_) I.bare
 ·obtain⟨_,f1,_,f3,f4,f5⟩:=hf b hb
  exact⟨f3,f1,f4,f5⟩
 ·obtain⟨ob,es,ep,ho,r⟩:=hm
  exact⟨ob,es,ep,k _ ob (fun z=>(hf _ z).2.1 rfl) ho,r⟩
 ·by_cases hb:b=a
  ·subst hb;rw[zE] at e;cases e;exact new
  ·rw[zO hb] at e
   refine(I.hok b u e).stay (fun c v hc q=>k c v ?_ q) (fun c q=>by rw[zO (zX q hn)];exact q) fun c xs q=>by rw[zO (zX q hn)];exact q
   rcases hc with z | z
   ·rw[z];exact nfp b u e
   ·exact nfp c _ z
end
def Iti(d:Addr)(o:Obj)(kvs:List (Key×V)):It:=
 ⟨fun i H=>i<kvs.length∧H d=some (.frz o (.dK kvs)),fun i H y H'=>∃p kv,H p=none∧kvs[i]? =some kv∧y= .ref p∧H'=upd H p (.tup [kV kv.1,kv.2]),fun i H=>kvs.length≤i∧H d=some (.frz o (.dK kvs))⟩
theorem zTg:entryFor table "dict_itemiterator.__iter__" =some Builtin.«dict_keyiterator.__iter__»:=
 entryFor_alias (by kernel_rfl) rfl (by decide+kernel) (by kernel_rfl) (id':="dict_keyiterator.__iter__")
theorem zLt{P:Program}{w:World}{K:W.Frag}{elts:List Expr}{x1:Nat}{pos:Pos}(d it:Addr)(o:Obj)(kvs:List (Key×V)):
  zCn true P w K (.Tuple elts x1 pos) (Iti d o kvs) [it] it (fun i h=>∃es ep ok ov,o.data= .dict es ep∧IsItemIter h it d i kvs.length ep ok ov) where
 mem:=by simp
 obj:=fun i h st b hb=>by
  obtain⟨es,ep,ok,ov,_,e⟩:=st;have e':b=it:=by simpa using hb
  subst e';exact⟨_,e,fun v z=>by cases z⟩
 keep:=fun i h h' st k=>by
  obtain⟨es,ep,ok,ov,a,st⟩:=st;exact⟨es,ep,ok,ov,a,k it (by simp) _ st⟩
 item:=by
  intro X hP hw hK hc i pins s σ H E I hf st hg;subst hP hw hK;obtain⟨es,ep,ok,ov,hes,st⟩:=st;obtain⟨hi,hg⟩:=hg;obtain⟨vs,rel,hm,_,_⟩:=gJ I.hok hg hes;have hl:=rel.length;obtain⟨kv,hkv⟩:∃kv,kvs[i]? =some kv:=⟨kvs[i],by simp[hi]⟩;obtain⟨q,hq,hq1,hq2⟩:=KV.get rel hkv;rw[hl] at st;have hlt:it<s.heap.objs.size:=mR st;refine wpAny_pyNext_items_item (k:=q.1) (v:=q.2) st hm hq fun key h1 hk so ht hz keep=>⟨_,rfl, ?_⟩;refine wpAny_letOwnedTupleGo_items so fun h2 st2 sb=>?_;have sb:Heap.SameBut it h1 h2:=sb;have ht2:h2.get? s.heap.objs.size=some {cls:=.type "tuple",data:=.seq #[key,q.2]}:=(sb.2 _ (pK hlt)).trans ht;have hnew:H s.heap.objs.size=none:=I.hok.fresh (mD _);refine⟨.ref s.heap.objs.size,upd H s.heap.objs.size (.tup [kV kv.1,kv.2]),I.turnedNew (t':=s.toks) hf (fun b ob hb e=>?_) (mD _) ?_,rfl,⟨_,kv,hnew,hkv,rfl,rfl⟩,⟨es,ep,key,q.2,hes,by rw[hl];exact st2⟩,fun b hb=>?_⟩
  ·have hne:b≠it:=by simpa using hb
   exact(sb.2 b hne).trans (keep b ob hne e)
  ·refine⟨by rw[mU];simp,[key,q.2], .cons (by rw[hq1];exact zHi hk) (.cons hq2 .nil),⟨_,ht2,rfl,_,rfl⟩⟩
  ·have e:b=it:=by simpa using hb
   subst e;rw[zO (nL hlt)];exact(hf _ (by simp)).1
 done:=by
  intro X hP hw hK hc i pins s σ H E I hf st hg;subst hP hw hK;obtain⟨es,ep,ok,ov,hes,st⟩:=st;obtain⟨hi,hg⟩:=hg;obtain⟨vs,rel,hm,_,_⟩:=gJ I.hok hg hes;obtain⟨f0,f1,f2,f3,f4,f5⟩:=hf it (by simp);have hl:=rel.length;rw[hl] at st;exact zJo (I.hn hc) st hm (by simp;lia) fun h' eb=>⟨rfl,I.turned (t':=s.toks) (fun b o hb e=>eb b o hb e) f0 f1 f3 f4 f5⟩
 self:=fun A i s Q E st h=>by
  obtain⟨es,ep,ok,ov,_,st⟩:=st;have hT:s.TypeIs (.ref it) "dict_itemiterator":=⟨_,st,rfl⟩;refine wpAny_pyIter_slot hT dI (rX dI hT zTg ?_ (F.args_dict_itemiterator_iter_1 _));show wpAny _ _ (ret (.ref it)) _ _ s;exact mM ⟨_,rfl,"dict_itemiterator",_,hT,dH.lookup,h⟩
def zEc(p d:Addr):HO:=.ext fun h=>h.IsItemsView p d
def yBr:V→List V→Hp→VK→Prop:=fun x vs H Q=>∃d kvs,x= .ref d∧vs= []∧Rd H d (.dK kvs)∧∀p,H p=none→Q (.ref p) (upd H p (zEc p d))
def yBz(tl:TE):TI:=fun σ H R=>tl σ H fun x H1=>∃p d kvs,x= .ref p∧H1 p=some (zEc p d)∧((H1 d=some (.dK kvs)∧∀o,R (Iti d o kvs) (upd H1 d (.frz o (.dK kvs))))∨∃o,H1 d=some (.frz o (.dK kvs))∧R (Iti d o kvs) H1)
section
variable{X:Cx}
theorem zQm:MtR X "dict.items" yBr:=by
 intro pins s σ H x vs v us Q I rx rv h;obtain⟨d,kvs,rfl,rfl,hq,q⟩:=h;cases rx;cases rv;obtain⟨z,hd,ws,rel,dd⟩:=qU I.hok hq;refine call_meetsIn PySem.F.slot_dict_items dd.typeIs PySem.F.entry_dict_items (PySem.F.args_dict_items_1 _) (meets_dict_items (yL X.prog X.w) d hd) ⟨⟨ws,dd⟩, ?_⟩;refine⟨.ref s.heap.objs.size,_,I.laid (t':=s.toks) (fun b o e=>mE _ e) (mD _) (o:=zEc s.heap.objs.size d) ?_,rfl,q _ (I.hok.fresh (mD _))⟩;exact⟨⟨_,mX _ rfl,rfl,rfl⟩,⟨_,mX _ rfl⟩,fun h1 h2 ⟨o,e,r⟩ k=>⟨o,k o e,r⟩⟩
theorem zSb{elts:List Expr}{x1:Nat}{pos:Pos}{l:Expr}{tl:TE}(hl:PE X l tl)(hcl:X.cool=true:=by rfl):PI X (.Tuple elts x1 pos) l (yBz tl):=by
 intro pins s σ H R I h;refine thn (hl pins s σ H _ I h) fun v s1 ⟨x,H1,I1,r1,q1⟩=>?_;obtain⟨p,d,kvs,rfl,hp,q⟩:=q1;cases r1;obtain⟨hv,_⟩:=(show ObjOk X.prog X.w H1 s1.heap p (zEc p d) from I1.hok p _ hp);have fin:∀o H2,Inv X pins σ H2 s1→H2 d=some (.frz o (.dK kvs))→R (Iti d o kvs) H2→wpAny (model X.prog X.w) X.A (pyIter (.ref p)) (PIE X pins σ (.Tuple elts x1 pos) R) X.xe s1:=fun o H2 I2 e q=>by
  obtain⟨g,z,hd,vs,rel,o',es,ep,ho,c,hdat,r⟩:=(show ObjOk X.prog X.w H2 s1.heap d (.frz o (.dK kvs)) from I2.hok d _ e);rw[g] at ho;cases ho;have hm:s1.heap.DictAt (yL X.prog X.w) d vs ep:=⟨o,es,g,c,hdat,r⟩;refine wpAny_pyIter_items hv hm ?_;refine⟨s1.heap.objs.size,[s1.heap.objs.size],_,_,H2,rfl,I2.kept (t':=s1.toks) fun b o e=>mE _ e,⟨true,hcl,zLt d _ o kvs⟩,⟨es,ep, .none, .none,hdat, ?_⟩,fun b hb=>?_,q⟩
  ·rw[rel.length];exact mX _ rfl
  ·have e:b=s1.heap.objs.size:=by simpa using hb
   subst e;exact I2.fpOk (mD _) (I2.hok.fresh (mD _))
 rcases q with⟨e,q⟩|⟨o,e,q⟩
 ·obtain⟨z,hd,vs,rel,o,es,ep,ho,_⟩:=(show ObjOk X.prog X.w H1 s1.heap d (.dK kvs) from I1.hok d _ e)
  exact fin o _ (I1.freeze e ho) zE (q o)
 ·exact fin o _ I1 e q
end
abbrev g2(K:W.Frag):TG:=zSs K 2 (zJt (wY 0) (zJt (wY 1) zWe))
theorem zSk{F:List (Option V)}{x y:V}:yBn (some x::some y::F) (none::none::F):=⟨rfl,fun i v e=>by
 match i,e with
 | 0,e=>cases e
 | 1,e=>cases e
 | i+2,e=>exact e⟩
theorem zUy{K:W.Frag}{x y:Str}{F:List (Str×Nat)}{J:It}{n:Nat}{te:TE}{σ:St}{Q:VK}{H1:Hp}(Pv:Nat→List V→Hp→Prop)(hn:n≤sizeLine)(h0:Pv 0 [] H1)(hgo:∀i ys H,i<n→Pv i ys H→J.go i H)
  (hst:∀ys H,Pv n ys H→J.stop n H)
  (hs:∀i ys H z H2,i<n→ys.length≤i→Pv i ys H→J.yld i H z H2→∃a u v,z= .ref a∧SqT K H2 a [u,v]∧te (some u::some v::F.map (fun p=>(σ[p.2]?).join)) H2 fun r H4=>Pv (i+1) (ys++ [r]) H4)
  (hd:∀ys H,ys.length≤n→Pv n ys H→∀p,H p=none→Q (.ref p) (upd H p (.lst ys))):wF [x,y] F (g2 K) zAu te σ Q J H1:=by
 refine⟨fun i m ys H=>m=n - i∧i≤n∧Pv i ys H,⟨n,by simp,pB _,h0⟩, ?_⟩;rintro i m ys H ⟨rfl,hi,p⟩ hl
 by_cases hlt:i<n
 ·refine .inr ⟨hgo i ys H hlt p,by lia,Pv (i+1),fun ys' H'' q=>⟨n - (i+1),by lia,rfl,hlt,q⟩,fun z H2 hz=>?_⟩
  obtain⟨a,u,v,rfl,hq,ht⟩:=hs i ys H z H2 hlt hl p hz;refine⟨a,[u,v],rfl,hq,rfl,u,[v],rfl,v,[],rfl,rfl, ?_⟩;exact⟨zSk,ht⟩
 ·have e:i=n:=by lia
  subst e;exact .inl ⟨hst ys H p,hn,hd ys H hl p⟩
theorem zKs{K:W.Frag}{x y:Str}{F:List (Str×Nat)}{d:Addr}{o:Obj}{kvs:List (Key×V)}{te:TE}{σ:St}{Q:VK}{H1:Hp}(Pv:Nat→List V→Hp→Prop)(hn:kvs.length≤sizeLine)(h0:Pv 0 [] H1)(hz:∀i ys H,Pv i ys H→H d=some (.frz o (.dK kvs)))
  (hs:∀i kv ys H p,kvs[i]? =some kv→ys.length≤i→Pv i ys H→H p=none→te (some (kV kv.1)::some kv.2::F.map (fun p=>(σ[p.2]?).join)) (upd H p (.tup [kV kv.1,kv.2])) fun z H4=>Pv (i+1) (ys++ [z]) H4)
  (hd:∀ys H,ys.length≤kvs.length→Pv kvs.length ys H→∀p,H p=none→Q (.ref p) (upd H p (.lst ys))):wF [x,y] F (g2 K) zAu te σ Q (Iti d o kvs) H1:=
 zUy Pv hn h0 (fun i ys H h p=>⟨h,hz i ys H p⟩) (fun ys H p=>⟨mD _,hz _ ys H p⟩) (fun i ys H z H2 h1 h2 h3 h4=>by
  obtain⟨p,kv,hp,hkv,rfl,rfl⟩:=h4;exact⟨p,_,_,rfl, .of zE,hs i kv ys H p hkv h2 h3 hp⟩) hd
def tyR(H:Hp):V→Option String
 | .ref a=>match H a with
  | some (.frz _ (.dK _))=>some "dict"
  | _=>tyS H (.ref a)
 | v=>tyS H v
theorem zYf{H:Hp}{x:V}{t:String}(h:tyR H x=some t):t∈tyL:=by
 cases x with
 | ref a=>
  have h':(match H a with | some (.frz _ (.dK _))=>some "dict" | _=>tyS H (.ref a))=some t:=h
  split at h'
  ·cases h';simp[tyL]
  ·exact wW h'
 | non=>exact wW (H:=H) (show tyS H .non=some t from h)
 | bl b=>exact wW (H:=H) (show tyS H (.bl b)=some t from h)
 | int b=>exact wW (H:=H) (show tyS H (.int b)=some t from h)
 | str b=>exact wW (H:=H) (show tyS H (.str b)=some t from h)
 | byt b=>exact wW (H:=H) (show tyS H (.byt b)=some t from h)
 | flt b=>exact wW (H:=H) (show tyS H (.flt b)=some t from h)
 | ty b=>exact wW (H:=H) (show tyS H (.ty b)=some t from h)
theorem zLg{H:Hp}{x:V}{t:String}(h:tyS H x=some t):tyR H x=some t:=by
 cases x with
 | ref a=>
  show(match H a with | some (.frz _ (.dK _))=>some "dict" | _=>tyS H (.ref a))=some t
  split
  ·rename_i o kvs e
   have h':(match H a with | some (.lst _)=>some "list" | some (.tup _)=>some "tuple" | some (.dK _)=>some "dict" | _=>none)=some t:=h
   rw[e] at h';cases h'
  ·exact h
 | _=>exact h
theorem zXr{H:Hp}{a:Addr}{ps:List (Key×V)}(h:Rd H a (.dK ps)):tyR H (.ref a)=some "dict":=by
 rcases h with h |⟨o,h⟩
 ·exact zLg (jO h)
 ·show(match H a with | some (.frz _ (.dK _))=>some "dict" | _=>tyS H (.ref a))=some "dict"
  rw[h]
section
variable{X:Cx}
theorem vU{T:String}(hT:T∈tyL):xS X (.builtin "isinstance") (fun xs H Q=>∃x t,xs= [x, .ty T]∧tyR H x=some t∧Q (.bl (zN t T)) H):=by
 intro pins s σ H xs us Q I r h;obtain⟨x,t,rfl,ht,q⟩:=h
 cases x with
 | ref a=>
  have h':(match H a with | some (.frz _ (.dK _))=>some "dict" | _=>tyS H (.ref a))=some t:=ht
  split at h'
  ·rename_i o kvs e
   cases h';obtain⟨u,w',rfl,ru,rw'⟩:=zDc r;cases (show w'=Value.type T from rw');cases (show u=Value.ref a from ru);obtain⟨_,_,vs,_,p⟩:=qU I.hok (.inr ⟨o,e⟩);obtain⟨ob,es,ep,h1,h2,_⟩:=p;exact tO dO I.kIn ⟨ob,h1,h2.1⟩ (zAf (by simp[tyL]) hT) (fun z=>nomatch z) fun tk=>⟨.bl _,H,I.tok _,rfl,q⟩
  ·exact zBy hT pins s σ H _ us Q I r ⟨_,t,rfl,h',q⟩
 | _=>exact zBy hT pins s σ H _ us Q I r ⟨_,t,rfl,ht,q⟩
theorem zOk:xS X (.builtin "len") (fun xs H Q=>∃a kvs,xs= [V.ref a]∧Rd H a (.dK kvs)∧Q (.int kvs.length) H):=by
 intro pins s σ H xs us Q I r h;obtain⟨a,kvs,rfl,ha,q⟩:=h;obtain⟨u,rfl,ru⟩:=wR r;cases ru;exact zYi I ha fun t s' I'=>⟨.int kvs.length,H,I',⟨t,rfl⟩,q⟩
end
theorem Rd.same{H H':Hp}(g:Same H H'){a:Addr}{u:HO}(h:Rd H a u):Rd H' a u:=h.imp (g _ _) fun⟨o,e⟩=>⟨o,g _ _ e⟩
theorem zEw{k:Key}:∀{ps:List (Key×V)},k∉ps.map (·.1)→qL ps k=none
 | [],_=>rfl
 | p::ps,h=>by
  rw[kM fun e=>h (by simp[e])];exact zEw fun z=>h (mH _ z)
theorem zXi{X:Cx}{K:W.Frag}(hK:X.K=K){es:List Expr}{k:Nat}{pos:Pos}{t:TGs}{n:Nat}(hc:X.cool=true)(h:PGs X es t)
  (hn:(assignEach es X.env).length=n:=by rfl) (hst:(assignEach es X.env).findIdx? (·.1)=none:=by rfl):PG X (.Tuple es k pos) (zSs K n t):=by subst hK;exact zRg hc h hn hst
structure Bl4(mg:Str→Option Value):Prop extends Bl2 mg where
 enumerate:mg "enumerate" =none
mutual
def Sp1(H:Hp):V→T→List Addr→Prop
 | v, .non,D=>D= []∧v= .non
 | v, .bl b,D=>D= []∧v= .bl b
 | v, .int i,D=>D= []∧v= .int i
 | v, .str x,D=>D= []∧v= .str (tx x)
 | v, .lst ts,D=>∃a vs D',v= .ref a∧H a=some (.lst vs)∧D=a::D'∧a∉D'∧Sps H vs ts D'
 | v, .dic ks ts,D=>∃a ps D',v= .ref a∧H a=some (.dK ps)∧ps.map (·.1)=ks.map (fun k=>(Sum.inr (tx k):Key))∧D=a::D'∧a∉D'∧Sps H (ps.map (·.2)) ts D'
 | v, .tup ts,D=>∃a vs D',v= .ref a∧H a=some (.tup vs)∧D=a::D'∧a∉D'∧Sps H vs ts D'
def Sps(H:Hp):List V→List T→List Addr→Prop
 | vs,[],D=>vs= []∧D= []
 | vs,t::ts,D=>∃v r D1 D2,vs=v::r∧D=D1++D2∧Sp1 H v t D1∧Sps H r ts D2∧∀b∈D1,b∉D2
end
mutual
theorem Sp1.rep{H:Hp}:∀(v:V)(t:T)(D:List Addr),Sp1 H v t D→Rep H v t
 | _, .non,_,h=>h.2
 | _, .bl _,_,h=>h.2
 | _, .int _,_,h=>h.2
 | _, .str _,_,h=>h.2
 | _, .lst ts,_,⟨a,vs,D',h1,h2,_,_,h3⟩=>⟨a,vs,h1,h2,Sps.rep vs ts D' h3⟩
 | _, .dic ks ts,_,⟨a,ps,D',h1,h2,h3,_,_,h4⟩=>⟨a,ps,h1,h2,h3,Sps.rep _ ts D' h4⟩
 | _, .tup ts,_,⟨a,vs,D',h1,h2,_,_,h3⟩=>⟨a,vs,h1,h2,Sps.rep vs ts D' h3⟩
theorem Sps.rep{H:Hp}:∀(vs:List V)(ts:List T)(D:List Addr),Sps H vs ts D→Reps H vs ts
 | _,[],_,h=>h.1
 | _,t::ts,_,⟨v,r,D1,D2,h1,_,h2,h3,_⟩=>⟨v,r,h1,Sp1.rep v t D1 h2,Sps.rep r ts D2 h3⟩
end
mutual
theorem Sp1.keep{H H':Hp}:∀(v:V)(t:T)(D:List Addr),(∀b∈D,∀o,(∀ob u,o≠HO.frz ob u)→H b=some o→H' b=some o)→Sp1 H v t D→Sp1 H' v t D
 | _, .non,_,_,h=>h
 | _, .bl _,_,_,h=>h
 | _, .int _,_,_,h=>h
 | _, .str _,_,_,h=>h
 | _, .lst ts,_,k,⟨a,vs,D',h1,h2,e,n,h3⟩=>⟨a,vs,D',h1,k a (by rw[e];exact mF) _ (by intro ob u z;cases z) h2,e,n,Sps.keep vs ts D' (fun b hb=>k b (by rw[e];exact mH _ hb)) h3⟩
 | _, .dic ks ts,_,k,⟨a,ps,D',h1,h2,h3,e,n,h4⟩=>⟨a,ps,D',h1,k a (by rw[e];exact mF) _ (by intro ob u z;cases z) h2,h3,e,n,Sps.keep _ ts D' (fun b hb=>k b (by rw[e];exact mH _ hb)) h4⟩
 | _, .tup ts,_,k,⟨a,vs,D',h1,h2,e,n,h3⟩=>⟨a,vs,D',h1,k a (by rw[e];exact mF) _ (by intro ob u z;cases z) h2,e,n,Sps.keep vs ts D' (fun b hb=>k b (by rw[e];exact mH _ hb)) h3⟩
theorem Sps.keep{H H':Hp}:∀(vs:List V)(ts:List T)(D:List Addr),(∀b∈D,∀o,(∀ob u,o≠HO.frz ob u)→H b=some o→H' b=some o)→Sps H vs ts D→Sps H' vs ts D
 | _,[],_,_,h=>h
 | _,t::ts,_,k,⟨v,r,D1,D2,h1,e,h2,h3,n⟩=>⟨v,r,D1,D2,h1,e,Sp1.keep v t D1 (fun b hb=>k b (by rw[e];exact pT _ hb)) h2,Sps.keep r ts D2 (fun b hb=>k b (by rw[e];exact nP _ hb)) h3,n⟩
end
mutual
theorem Sp1.there{H:Hp}{b:Addr}:∀(v:V)(t:T)(D:List Addr),Sp1 H v t D→b∈D→∃o,H b=some o
 | _, .non,_,h,hb=>by rw[h.1] at hb;cases hb
 | _, .bl _,_,h,hb=>by rw[h.1] at hb;cases hb
 | _, .int _,_,h,hb=>by rw[h.1] at hb;cases hb
 | _, .str _,_,h,hb=>by rw[h.1] at hb;cases hb
 | _, .lst ts,_,⟨a,vs,D',h1,h2,e,n,h3⟩,hb=>by
  rw[e] at hb;rcases mG.mp hb with z | z
  ·exact⟨_,by rw[z];exact h2⟩
  ·exact Sps.there vs ts D' h3 z
 | _, .dic ks ts,_,⟨a,ps,D',h1,h2,h3,e,n,h4⟩,hb=>by
  rw[e] at hb;rcases mG.mp hb with z | z
  ·exact⟨_,by rw[z];exact h2⟩
  ·exact Sps.there _ ts D' h4 z
 | _, .tup ts,_,⟨a,vs,D',h1,h2,e,n,h3⟩,hb=>by
  rw[e] at hb;rcases mG.mp hb with z | z
  ·exact⟨_,by rw[z];exact h2⟩
  ·exact Sps.there vs ts D' h3 z
theorem Sps.there{H:Hp}{b:Addr}:∀(vs:List V)(ts:List T)(D:List Addr),Sps H vs ts D→b∈D→∃o,H b=some o
 | _,[],_,h,hb=>by rw[h.2] at hb;cases hb
 | _,t::ts,_,⟨v,r,D1,D2,h1,e,h2,h3,n⟩,hb=>by
  rw[e] at hb;rcases nD.mp hb with z | z
  ·exact Sp1.there v t D1 h2 z
  ·exact Sps.there r ts D2 h3 z
end
theorem Sp1.same{H H':Hp}(g:Same H H'){v:V}{t:T}{D:List Addr}(h:Sp1 H v t D):Sp1 H' v t D:=Sp1.keep v t D (fun b _ o _ e=>g b o e) h
theorem Sps.same{H H':Hp}(g:Same H H'){v:List V}{t:List T}{D:List Addr}(h:Sps H v t D):Sps H' v t D:=Sps.keep v t D (fun b _ o _ e=>g b o e) h
theorem Sps.snoc{H:Hp}{v:V}{t:T}{D1:List Addr}(h:Sp1 H v t D1):∀{vs:List V}{ts:List T}{D:List Addr},Sps H vs ts D→(∀b∈D,b∉D1)→Sps H (vs++ [v]) (ts++ [t]) (D++D1)
 | _,[],D,e,_=>by
  obtain⟨e1,e2⟩:=e;subst e1 e2;exact⟨v,[],D1,[],rfl,by simp,h,⟨rfl,rfl⟩,fun _ _ z=>nomatch z⟩
 | _,t'::ts,D,⟨v',r,E1,E2,h1,e,h2,h3,n⟩,hd=>by
  subst h1 e;refine⟨v',r++ [v],E1,E2++D1,rfl,by simp,h2,Sps.snoc h h3 fun b hb=>hd b (nP _ hb),fun b hb z=>?_⟩;rcases nD.mp z with c | c
  ·exact n b hb c
  ·exact hd b (pT _ hb) c
theorem xA{H H':Hp}(g:Same H H'){p:Addr}(h:H' p=none):H p=none:=by
 cases e:H p with
 | none=>rfl
 | some o=>rw[g _ _ e] at h;cases h
theorem Sps.thaw{H H':Hp}{vs:List V}{ts:List T}{D:List Addr}(h:Sps H' vs ts D):Sps (L2.thaw H H') vs ts D:=Sps.keep vs ts D (fun _ _ _ n e=>wI e n) h
section
variable{prog:Program}{w:World}{A:Around}{E:Value→Shared→Prop}{s:Shared}
end
section
variable{X:Cx}
end
section
variable{X:Cx}{a:Expr}{ta:TE}
def zYu(ta:TE):TE:=fun σ H Q=>ta σ H fun x H1=>∃b,x= .bl b∧Q (.bl (!b)) H1
theorem zXv{j:Nat}{pos':Pos}(ha:PE X a ta):PC X .IsNot a (.Constant (.bool true) j pos') (zYu ta):=by
 intro pins s σ H Q I h;refine thn (ha pins s σ H _ I h) fun v s1 ⟨x,H1,I1,r1,b,ex,q1⟩=>?_;subst ex;cases (show v=Value.bool b from r1);refine Constant_bool ?_;refine wpAny_isNot_plain (by cases b<;>rfl) ⟨.bl (!b),H1,I1, ?_,q1⟩;cases b<;>rfl
end
inductive U where
 | leaf (v:V)| lst (us:List U)| dic (ks:List Key) (us:List U)
def lfS:V→Bool
 | .non=>true
 | .bl _=>true
 | .int _=>true
 | .str _=>true
 | _=>false
def Lf(H:Hp)(x:V):Prop:=lfS x=true∨∃(a:Addr)(xs:List V),x= .ref a∧H a=some (.tup xs)
theorem Lf.same{H H':Hp}(g:∀b xs,H b=some (.tup xs)→H' b=some (.tup xs)){x:V}(h:Lf H x):Lf H' x:=h.imp id fun⟨a,xs,e,h⟩=>⟨a,xs,e,g _ _ h⟩
mutual
def Ru(H:Hp):V→U→Prop
 | v, .leaf x=>v=x∧Lf H x
 | v, .lst us=>∃a vs,v= .ref a∧H a=some (.lst vs)∧Rus H vs us
 | v, .dic ks us=>∃a ps,v= .ref a∧Rd H a (.dK ps)∧ps.map (·.1)=ks∧Rus H (ps.map (·.2)) us
def Rus(H:Hp):List V→List U→Prop
 | vs,[]=>vs= []
 | vs,u::us=>∃v r,vs=v::r∧Ru H v u∧Rus H r us
end
mutual
theorem Ru.mono{H H':Hp}(e:∀b xs,H b=some (.lst xs)→H' b=some (.lst xs))(e2:∀b xs,H b=some (.tup xs)→H' b=some (.tup xs))(e3:∀b ps,Rd H b (.dK ps)→Rd H' b (.dK ps)):∀(v:V)(u:U),Ru H v u→Ru H' v u
 | _, .leaf _,h=>⟨h.1,h.2.same e2⟩
 | _, .lst us,⟨a,vs,h1,h2,h3⟩=>⟨a,vs,h1,e _ _ h2,Rus.mono e e2 e3 vs us h3⟩
 | _, .dic ks us,⟨a,ps,h1,h2,h3,h4⟩=>⟨a,ps,h1,e3 _ _ h2,h3,Rus.mono e e2 e3 _ us h4⟩
theorem Rus.mono{H H':Hp}(e:∀b xs,H b=some (.lst xs)→H' b=some (.lst xs))(e2:∀b xs,H b=some (.tup xs)→H' b=some (.tup xs))(e3:∀b ps,Rd H b (.dK ps)→Rd H' b (.dK ps)):∀(vs:List V)(us:List U),Rus H vs us→Rus H' vs us
 | _,[],h=>h
 | _,u::us,⟨v,r,h1,h2,h3⟩=>⟨v,r,h1,Ru.mono e e2 e3 v u h2,Rus.mono e e2 e3 r us h3⟩
end
theorem Ru.same{H H':Hp}(g:Same H H'){v:V}{u:U}(h:Ru H v u):Ru H' v u:=Ru.mono (fun b xs=>g b _) (fun b xs=>g b _) (fun b ps h=>h.same g) v u h
theorem Rus.same{H H':Hp}(g:Same H H'){v:List V}{u:List U}(h:Rus H v u):Rus H' v u:=Rus.mono (fun b xs=>g b _) (fun b xs=>g b _) (fun b ps h=>h.same g) v u h
theorem Rus.length{H:Hp}:∀{vs:List V}{us:List U},Rus H vs us→vs.length=us.length
 | _,[],e=>by
  have e':_= []:=e;subst e';rfl
 | _,_::us,⟨v',r,h1,h2,h3⟩=>by
  subst h1;simp[Rus.length h3]
theorem Rus.get{H:Hp}:∀{vs:List V}{us:List U}{i:Nat}{v:V},Rus H vs us→vs[i]? =some v→∃u,us[i]? =some u∧Ru H v u
 | _,[],i,v,e,h=>by
  have e':_= []:=e;subst e';simp at h
 | _,u'::us,0,v,⟨v',r,h1,h2,h3⟩,h=>by
  subst h1;simp at h;subst h;exact⟨u',rfl,h2⟩
 | _,_::us,i+1,v,⟨v',r,h1,h2,h3⟩,h=>by
  subst h1;obtain⟨u,e,q⟩:=Rus.get (i:=i) (v:=v) h3 (by simpa using h);exact⟨u,by simpa using e,q⟩
theorem Rus.append{H:Hp}{ws:List V}{xs:List U}(h':Rus H ws xs):∀{vs:List V}{us:List U},Rus H vs us→Rus H (vs++ws) (us++xs)
 | _,[],e=>by
  have e':_= []:=e;subst e';exact h'
 | _,u'::us,⟨v',r,h1,h2,h3⟩=>by
  subst h1;exact⟨v',r++ws,rfl,h2,Rus.append h' h3⟩
theorem Rus.snoc{H:Hp}{v:V}{u:U}(h:Ru H v u){vs:List V}{us:List U}(hs:Rus H vs us):Rus H (vs++ [v]) (us++ [u]):=Rus.append (show Rus H [v] [u] from⟨v,[],rfl,h,rfl⟩) hs
mutual
def U.sz:U→Nat
 | .leaf _=>1
 | .lst us=>U.szs us+1
 | .dic _ us=>U.szs us+1
def U.szs:List U→Nat
 | []=>0
 | u::us=>U.sz u+U.szs us
end
mutual
def U.dep:U→Nat
 | .leaf _=>0
 | .lst us=>U.deps us+1
 | .dic _ us=>U.deps us+1
def U.deps:List U→Nat
 | []=>0
 | u::us=>max (U.dep u) (U.deps us)
end
mutual
def U.ok:U→Prop
 | .leaf v=>∀x,v= .str x→x.length≤1000
 | .lst us=>U.oks us
 | .dic ks us=>ks.Nodup∧ks.length=us.length∧(∀x,Sum.inr x∈ks→x.length≤1000)∧U.oks us
def U.oks:List U→Prop
 | []=>True
 | u::us=>U.ok u∧U.oks us
end
theorem U.oks_mem{u:U}:∀{us:List U},U.oks us→u∈us→U.ok u
 | [],_,h=>nomatch h
 | x::us,h,hm=>(mG.mp hm).elim (fun e=>e▸h.1) (U.oks_mem h.2)
theorem U.oks_of{us:List U}(h:∀u∈us,U.ok u):U.oks us:=by
 induction us with
 | nil=>exact mN
 | cons t ts ih=>exact⟨h t mF,ih fun u hu=>h u (mH _ hu)⟩
theorem U.szs_append:∀(a b:List U),U.szs (a++b)=U.szs a+U.szs b
 | [],b=>by simp[U.szs]
 | x::a,b=>by
  show U.sz x+U.szs (a++b)=U.sz x+U.szs a+U.szs b;rw[U.szs_append a b];lia
theorem U.szs_le{u:U}:∀{us:List U},u∈us→U.sz u≤U.szs us
 | [],h=>nomatch h
 | x::us,h=>by
  show U.sz u≤U.sz x+U.szs us;rcases mG.mp h with e | e
  ·rw[e];lia
  ·have:=U.szs_le e;lia
theorem U.sz_pos:∀u:U,1≤U.sz u
 | .leaf _=>mD _
 | .lst _=>tT _ _
 | .dic _ _=>tT _ _
theorem U.szs_len:∀us:List U,us.length≤U.szs us
 | []=>mD _
 | u::us=>by
  have:=U.szs_len us;have:=U.sz_pos u;show us.length+1≤U.sz u+U.szs us
  lia
def tyU:U→String
 | .leaf .non=>"NoneType"
 | .leaf (.bl _)=>"bool"
 | .leaf (.int _)=>"int"
 | .leaf (.str _)=>"str"
 | .leaf _=>"tuple"
 | .lst _=>"list"
 | .dic _ _=>"dict"
theorem Ru.ty{H:Hp}{v:V}:∀{u:U},Ru H v u→tyR H v=some (tyU u)
 | .leaf x,h=>by
  obtain⟨rfl,h |⟨a,xs,e,h⟩⟩:=h
  ·cases v<;>first | rfl | cases h
  ·subst e;exact zLg (zOg h)
 | .lst us,h=>by obtain⟨a,vs,e,h2,_⟩:=h;subst e;exact zLg (jH h2)
 | .dic ks us,h=>by obtain⟨a,vs,e,h2,_⟩:=h;subst e;exact zXr h2
section
variable{X:Cx}{pins:List (Addr×Obj)}{σ:St}{H:Hp}{s:Shared}
theorem zEq:OpR X (compareOp .LtE) (fun x y H Q=>∃i j,x= .str i∧y= .str j∧Q (.bl (!decide (ts j<ts i))) H):=by
 intro pins s σ H x y v u Q I rx ry h;obtain⟨i,j,rfl,rfl,q⟩:=h;obtain⟨t,rfl⟩:=rx;obtain⟨t',rfl⟩:=ry;exact PySem.P.le_str (yS I q rfl)
theorem zLz{T W:String}(hT:T∈tyL)(hU:W∈tyL):xS X (.builtin "isinstance") (fun xs H Q=>∃x t p,xs= [x, .ref p]∧H p=some (.tup [.ty T, .ty W])∧tyR H x=some t∧Q (.bl (zN t T || zN t W)) H):=by
 intro pins s σ H xs us Q I r h;obtain⟨x,t,p,rfl,hp,ht,q⟩:=h
 cases x with
 | ref a=>
  have h':(match H a with | some (.frz _ (.dK _))=>some "dict" | _=>tyS H (.ref a))=some t:=ht
  split at h'
  ·rename_i o kvs e
   cases h';obtain⟨u,w',rfl,ru,rw'⟩:=zDc r;cases (show w'=Value.ref p from rw');cases (show u=Value.ref a from ru);obtain⟨_,_,vs,_,pp⟩:=qU I.hok (.inr ⟨o,e⟩);obtain⟨ob,es,ep,h1,h2,_⟩:=pp;obtain⟨_,its,rv,pl⟩:=(show ObjOk X.prog X.w H s.heap p (.tup [.ty T, .ty W]) from I.hok p _ hp);obtain⟨v1,v2,ee,r1,r2⟩:=zDc rv;subst ee;cases (show v1=Value.type T from r1);cases (show v2=Value.type W from r2);obtain⟨o2,ho,hc,n,hd⟩:=pl;obtain⟨oc,od,odt,osl⟩:=o2;cases (show oc=Value.type "tuple" from hc);cases (show odt=Data.seq _ n from hd);refine PySem.W.kia_tup PySem.W.kitx_dict I.kIn ⟨ob,h1,h2.1⟩ ho (b:=zN "dict" T || zN "dict" W) ?_ (fun z=>nomatch z) fun tk=>⟨.bl _,H,I.tok _,rfl,q⟩
   have k1:=zAf (K:=X.K) (t:="dict") (by simp[tyL]) hT;have k2:=zAf (K:=X.K) (t:="dict") (by simp[tyL]) hU;simp only[PySem.W.kitAny,k1,k2];cases zN "dict" T<;>cases zN "dict" W<;>rfl
  ·exact gC hT hU pins s σ H _ us Q I r ⟨_,t,p,rfl,hp,h',q⟩
 | _=>exact gC hT hU pins s σ H _ us Q I r ⟨_,t,p,rfl,hp,ht,q⟩
end
section
variable{X:Cx}{o:Expr}{to:TE}{name:Str}{apos cpos:Pos}{id:String}{r:V→List V→Hp→VK→Prop}
def tBMR(r:V→List V→Hp→VK→Prop)(to:TE):TE:=fun σ H Q=>to σ H fun x H1=>(∃p kvs,x= .ref p∧Rd H1 p (.dK kvs))∧r x [] H1 Q
theorem yAn(pa:PlainAttrs "dict")(slot:Slot "dict" name id)(hty:typeOf (.builtin id)=pure (.type "method_descriptor"))(hm:MtR X id r)(ho:PE X o to)
  (hbase:attributeBase o name X.env (eval o X.env)=eval o X.env:=by rfl) (hline:(apos.endLine==cpos.line)=true:=by rfl):PE X (.Call (.Attribute o name apos) [] [] cpos) (tBMR r to):=by
 intro pins s σ H Q I h;refine wpAny_Call_method0_late hbase hline (thn (ho pins s σ H _ I h) fun v s1 ⟨x,H1,I1,r1,⟨p,kvs,ex,hp⟩,q1⟩=>?_);subst ex;cases r1;obtain⟨_,_,_,_,ob,_,_,e,ex,_⟩:=qU I1.hok hp;refine⟨"dict",id,pa,slot,hty,⟨ob,e,ex.1⟩,(fun a e2=>by cases e2;exact⟨ob,e,ex.2.1⟩),tK rfl (PySem.evalArgs_none (hm pins s1 σ H1 (.ref p) [] (.ref p) [] Q I1 rfl .nil q1))⟩
end
structure Bl5(mg:Str→Option Value):Prop extends Bl2 mg where
 abs:mg "abs" =none
 ord:mg "ord" =none
section
variable{X:Cx}{pins:List (Addr×Obj)}{σ:St}{H:Hp}{s:Shared}{h':Heap}
end
def Itz(K:W.Frag)(l m:Addr):It:=
  ⟨fun i H=>∃xs ys x y,SqL K H l xs∧SqL K H m ys∧xs[i]? =some x∧ys[i]? =some y,
   fun i H v H'=>∃p x y,H p=none∧v= .ref p∧(∀xs,SqL K H l xs→xs[i]? =some x)∧(∀ys,SqL K H m ys→ys[i]? =some y)∧H'=upd H p (.tup [x,y]),
   fun i H=>∃xs ys,SqL K H l xs∧SqL K H m ys∧(xs.length≤i∨ys.length≤i)⟩
def iZip(K:W.Frag)(ta:TA):TI:=fun σ H R=>ta σ H fun vs H1=>∃l m xs ys,vs= [.ref l, .ref m]∧SqL K H1 l xs∧SqL K H1 m ys∧R (Itz K l m) H1
structure Bl6(mg:Str→Option Value):Prop extends Bl2 mg where
 zip:mg "zip" =none
theorem wL{X:Cx}{K:W.Frag}(hK:X.K=K):IxR X (zRm K):=by subst hK;exact ix_tup
section
variable{X:Cx}{a:Expr}{ta:TE}
def tIsT(ta:TE):TE:=fun σ H Q=>ta σ H fun x H1=>∃b,x= .bl b∧Q (.bl b) H1
end
end L2
namespace HT
open PySem PyProof.Rows
open PySem.SeqAt
open PySem.AutoSeq1 (wpAny_loadPart')
open PySem.MeetsSeq PySem.MeetsSeq2 PySem.MeetsSeq3
section
variable{prog:Program}{w:World}{A:Around}{E:Value→Shared→Prop}{s:Shared}
end
end HT
namespace L2
open PySem PySem.Spec PyProof.Rows
end L2
namespace L2
open PySem PySem.Spec PyProof.Rows PySem.Builtin PySem.Builtin.Str
def jn(s:List Nat):List (List Nat)→List Nat
 | []=>[]
 | [x]=>x
 | x::y::r=>x++s++jn s (y::r)
theorem zSh(x y:Str):ts (x++y)=ts x++ts y:=by
 show(x.cps++y.cps).toList=_;rw[Array.toList_append]
theorem zBs(sep:Str):∀ps:List Str,ts (sep.join ps)=jn (ts sep) (ps.map ts)
 | []=>rfl
 | [x]=>rfl
 | x::y::r=>by
  show ts (x++sep++sep.join (y::r))=ts x++ts sep++jn (ts sep) ((y::r).map ts);rw[zSh,zSh,zBs sep (y::r)]
theorem zMz{c:Nat}:∀{x y a b:List Nat},c∉x→c∉y→x++c::a=y++c::b→x=y∧a=b
 | [],[],a,b,_,_,e=>⟨rfl,(List.cons.inj e).2⟩
 | [],d::y,a,b,_,h,e=>absurd (show c∈d::y by rw[(List.cons.inj e).1];exact mF) h
 | d::x,[],a,b,h,_,e=>absurd (show c∈d::x by rw[←(List.cons.inj e).1];exact mF) h
 | d::x,d'::y,a,b,h,h',e=>by
  obtain⟨e1,e2⟩:=List.cons.inj e;obtain⟨z1,z2⟩:=zMz (fun z=>h (mH _ z)) (fun z=>h' (mH _ z)) e2;exact⟨by rw[e1,z1],z2⟩
theorem zSm{c:Nat}:∀{ps qs:List (List Nat)},ps≠ []→qs≠ []→(∀p∈ps,c∉p)→(∀q∈qs,c∉q)→jn [c] ps=jn [c] qs→ps=qs
 | [],_,h,_,_,_,_=>absurd rfl h
 | _::_,[],_,h,_,_,_=>absurd rfl h
 | [x],[y],_,_,_,_,e=>by
  have e':x=y:=e;rw[e']
 | [x],y::z::r,_,_,h,_,e=>by
  have e':x=y++ [c]++jn [c] (z::r):=e;exact absurd (by rw[e'];simp) (h x mF)
 | x::z::r,[y],_,_,_,h,e=>by
  have e':x++ [c]++jn [c] (z::r)=y:=e;exact absurd (by rw[←e'];simp) (h y mF)
 | x::z::r,y::z'::r',_,_,h,h',e=>by
  have e':x++ [c]++jn [c] (z::r)=y++ [c]++jn [c] (z'::r'):=e;rw[rR,rR] at e';obtain⟨e1,e2⟩:=zMz (h x mF) (h' y mF) e';have ih:=zSm (c:=c) (ps:=z::r) (qs:=z'::r') (tG _ _) (tG _ _) (fun p hp=>h p (mH _ hp)) (fun p hp=>h' p (mH _ hp)) e2;rw[e1,ih]
theorem zDf:∀{ps qs:List Str},ps.map ts=qs.map ts→ps=qs
 | [],[],_=>rfl
 | [],_::_,e=>nomatch e
 | _::_,[],e=>nomatch e
 | p::ps,q::qs,e=>by
  obtain⟨e1,e2⟩:=List.cons.inj e;rw[uG e1,zDf e2]
theorem zSv(x:Str)(c:Nat):Txt.split x ⟨#[c]⟩≠ []:=by
 unfold Txt.split;split
 ·exact tG _ _
 ·split
  ·exact tG _ _
  ·intro h
   have:=congrArg List.length h;rw[bJ] at this;exact absurd this (Nat.succ_ne_zero _)
theorem zRe{x:Str}{c:Nat}{qs:List Str}(hq:qs≠ [])(hf:∀q∈qs,c∉ts q)(e:ts x=jn [c] (qs.map ts)):Txt.split x ⟨#[c]⟩=qs:=by
 refine zDf (zSm (c:=c) (fun z=>zSv x c (List.map_eq_nil_iff.mp z)) (fun z=>hq (List.map_eq_nil_iff.mp z)) ?_ ?_ ?_)
 ·intro p hp
  obtain⟨s,hs,rfl⟩:=nM.mp hp;exact StrLaws.split_free x c s hs
 ·intro p hp
  obtain⟨s,hs,rfl⟩:=nM.mp hp;exact hf s hs
 ·have h:=zBs ⟨#[c]⟩ (Txt.split x ⟨#[c]⟩)
  rw[StrLaws.join_split] at h;rw[←e,h]
def rpl(c:Nat)(z:List Nat)(d:Nat):List Nat:=if d=c then z else[d]
theorem jE{c:Nat}{z:List Nat}:∀{x:List Nat},c∉x→x.flatMap (rpl c z)=x
 | [],_=>rfl
 | d::x,h=>by
  have hd:d≠c:=fun e=>h (by rw[e];exact mF);rw[eE,jE fun e=>h (mH _ e)];unfold rpl;rw[mI hd];rfl
theorem zUk{c:Nat}{z:List Nat}:∀{ps:List (List Nat)},(∀p∈ps,c∉p)→(jn [c] ps).flatMap (rpl c z)=jn z ps
 | [],_=>rfl
 | [x],h=>jE (h x mF)
 | x::y::r,h=>by
  show(x++ [c]++jn [c] (y::r)).flatMap (rpl c z)=x++z++jn z (y::r);rw[sY,sY,jE (h x mF),zUk fun p hp=>h p (mH _ hp)];have: [c].flatMap (rpl c z)=z:=by simp[rpl]
  rw[this]
theorem zMi(x z:Str)(c:Nat):ts (Txt.replace x ⟨#[c]⟩ z)=(ts x).flatMap (rpl c (ts z)):=by
 have h:=zBs ⟨#[c]⟩ (Txt.split x ⟨#[c]⟩);rw[StrLaws.join_split] at h;rw[StrLaws.replace_one,zBs,h];refine(zUk (c:=c) fun p hp=>?_).symm;obtain⟨s,hs,rfl⟩:=nM.mp hp;exact StrLaws.split_free x c s hs
section
variable{X:Cx}
theorem jK:xS X (.type "int") (fun xs H Q=>∃x n,xs= [.str x]∧intText? x=some n∧x.length≤640∧Q (.int n) H):=by
 intro pins s σ H xs us Q I r h;obtain⟨x,n,rfl,hn,hl,q⟩:=h;obtain⟨u,rfl,t,rfl⟩:=r.one;exact W.KIN.call_text hn hl ⟨.int n,H,I.tok _,⟨_,rfl⟩,q⟩
def PSst(X:Cx)(sts:List Stmt)(t:TS):Prop:=
 ∀(pins:List (Addr×Obj))(s:Shared)(σ:St)(H:Hp)(D:gR),Inv X pins σ H s→0<s.toks→t D σ H→wpAny (model X.prog X.w) X.A (execs sts X.env) (SP X pins D) X.xe s
theorem zUs{i:Nat}{x:Str}{e:Expr}{te:TE}{pos pos':Pos}{rest:List Stmt}{u:TS}(hN:X.N.Nodup)(hi:X.N[i]? =some x)(hx:Loc X.env.scope x)(he:PEt X e te)(hr:PSs X rest u)(hs:swapsWith e (some (.Name x pos')) pos.line X.env=pure false:=by rfl)(hf:X.fn x=true∨X.env.scope.names.lookup x=some .local:=by first | exact .inl rfl | exact .inr rfl | assumption):
  PSst X (.Assign [.Name x pos'] e pos::rest) (zQr (zIj te (wY i)) u):=by
 intro pins s σ H D I h0 h;refine bE (dZ (thn (he pins s σ H _ I h0 h) fun v s1 ⟨y,H1,I1,r1,q1⟩=>?_) hs);exact kH I1 hN hi hx r1 (fun s2 I2=>hr pins s2 _ H1 D I2 q1) hf
theorem zPy{a e:Expr}{ta te:TE}{y:Str}{j:Nat}{p1 p2 p3 pos:Pos}{rest:List Stmt}{u:TS}(ha:PE X a ta)(hb:PE X e te)(hr:PSst X rest u)(hm:behindInMarks .Eq (.Constant (.str y) j p1)=false):
  PSs X (.If (.Compare a [.Eq] [.Constant (.str y) j p1] p2) [.Return (some e) p3] [] pos::rest) (zQr (fun D σ H=>ta σ H fun v H1=>∃z,v= .str z∧if z=y then zXy te D σ H1 else D.nx σ H1) u):=by
 intro pins s σ H D I h;refine bE (wpAny_If (cL (thn (ha pins s σ H _ I h) fun v s1 ⟨x,H1,I1,r1,z,ez,q1⟩=>?_) hm));subst ez;obtain⟨tk,rfl⟩:=r1;refine bO (eq_str (pG ?_));have I2:=I1.tok (s1.toks+1)
 by_cases e:z=y
 ·rw[mK e] at q1
  rw[beq_iff_eq.mpr e];refine thn (zF (zJ hb) pins _ σ H1 {D with nx:=fun _ _=>False} I2 q1) fun f s2 q=>?_
  cases f with
  | next=>
   obtain⟨_,_,_,q⟩:=q;exact q.elim
  | ret v=>exact q
  | brk=>exact q
  | cont=>exact q
 ·rw[mI e] at q1
  rw[show(z==y)=false from sX.mpr e];refine tQ ?_;exact hr pins _ σ H1 D I2 (Nat.succ_pos _) q1
end
end L2
namespace L2
open PySem PySem.Spec PyProof.Rows
theorem zOe{X:Cx}{K:W.Frag}(h:X.K=K):IxR X (rIx K):=by subst h;exact yCc
section
variable{X:Cx}
end
mutual
def T.okq:T→Prop
 | .lst us=>us.length≤200000∧T.okqs us
 | .tup us=>us.length≤200000∧T.okqs us
 | .dic ks us=>ks.Nodup∧ks.length=us.length∧us.length≤200000∧T.okqs us
 | .non=>True
 | .bl _=>True
 | .int _=>True
 | .str _=>True
def T.okqs:List T→Prop
 | []=>True
 | t::us=>T.okq t∧T.okqs us
end
theorem T.okqs_mem{t:T}:∀{us:List T},T.okqs us→t∈us→T.okq t
 | [],_,h=>nomatch h
 | u::us,h,hm=>(mG.mp hm).elim (fun e=>e▸h.1) (T.okqs_mem h.2)
mutual
theorem T.few_okq:∀t:T,T.few t→T.okq t
 | .lst us,h=>⟨nN h.1 (by decide),T.fews_okqs us h.2⟩
 | .dic ks us,h=>⟨h.1,h.2.2.1,by have:=h.2.1;have:=h.2.2.1;lia,T.fews_okqs us h.2.2.2⟩
 | .tup _,h=>h.elim
 | .non,_=>mN
 | .bl _,_=>mN
 | .int _,_=>mN
 | .str _,_=>mN
theorem T.fews_okqs:∀us:List T,T.fews us→T.okqs us
 | [],_=>mN
 | t::us,h=>⟨T.few_okq t h.1,T.fews_okqs us h.2⟩
end
mutual
def T.fewm(m:Nat):T→Prop
 | .dic ks us=>ks.Nodup∧ks.length≤m∧ks.length=us.length∧T.fewms m us
 | .lst us=>us.length≤100000∧T.fewms m us
 | .tup _=>False
 | .non=>True
 | .bl _=>True
 | .int _=>True
 | .str _=>True
def T.fewms(m:Nat):List T→Prop
 | []=>True
 | t::us=>T.fewm m t∧T.fewms m us
end
theorem T.fewms_mem{m:Nat}{t:T}:∀{us:List T},T.fewms m us→t∈us→T.fewm m t
 | [],_,h=>nomatch h
 | u::us,h,hm=>(mG.mp hm).elim (fun e=>e▸h.1) (T.fewms_mem h.2)
theorem T.fewms_of{m:Nat}{us:List T}(h:∀t∈us,T.fewm m t):T.fewms m us:=by
 induction us with
 | nil=>exact mN
 | cons t us ih=>exact⟨h t mF,ih fun u hu=>h u (mH _ hu)⟩
mutual
theorem T.fewm_mono{m m':Nat}(l:m≤m'):∀t:T,T.fewm m t→T.fewm m' t
 | .lst us,h=>⟨h.1,T.fewms_mono l us h.2⟩
 | .dic ks us,h=>⟨h.1,nN h.2.1 l,h.2.2.1,T.fewms_mono l us h.2.2.2⟩
 | .tup _,h=>h.elim
 | .non,_=>mN
 | .bl _,_=>mN
 | .int _,_=>mN
 | .str _,_=>mN
theorem T.fewms_mono{m m':Nat}(l:m≤m'):∀us:List T,T.fewms m us→T.fewms m' us
 | [],_=>mN
 | t::us,h=>⟨T.fewm_mono l t h.1,T.fewms_mono l us h.2⟩
end
mutual
theorem T.fewm_few{m:Nat}(l:m≤63):∀t:T,T.fewm m t→T.few t
 | .lst us,h=>⟨h.1,T.fewms_few l us h.2⟩
 | .dic ks us,h=>⟨h.1,by have:=h.2.1;lia,h.2.2.1,T.fewms_few l us h.2.2.2⟩
 | .tup _,h=>h.elim
 | .non,_=>mN
 | .bl _,_=>mN
 | .int _,_=>mN
 | .str _,_=>mN
theorem T.fewms_few{m:Nat}(l:m≤63):∀us:List T,T.fewms m us→T.fews us
 | [],_=>mN
 | t::us,h=>⟨T.fewm_few l t h.1,T.fewms_few l us h.2⟩
end
theorem zCk{ks:List (List Nat)}{us:List T}{n:List Nat}{t:T}(h:ks.length=us.length):(xZ (ks,us) n t).1.length=(xZ (ks,us) n t).2.length∧(xZ (ks,us) n t).2.length≤us.length+1:=by
 unfold xZ;split
 ·exact⟨by show ks.length=(yF n t ks us).length;rw[xE];exact h,by show(yF n t ks us).length≤_;rw[xE];exact rJ _⟩
 ·exact⟨by show(ks++ [n]).length=(us++ [t]).length;rw[mL,mL,h];rfl,by show(us++ [t]).length≤_;rw[mL];exact mD _⟩
theorem gS{ks:List (List Nat)}{us:List T}{n:List Nat}{t:T}(h:ks.Nodup):(xZ (ks,us) n t).1.Nodup:=by
 unfold xZ;split
 ·exact h
 ·rename_i hn
  show(ks++ [n]).Nodup;rw[bA];exact⟨h,by simp,fun a ha b hb z=>hn (by rw[←mP.mp hb,←z];exact ha)⟩
theorem uJ{ks:List (List Nat)}{us:List T}{n:List Nat}{t u:T}(h:u∈(xZ (ks,us) n t).2):u∈us∨u=t:=by
 unfold xZ at h;split at h
 ·exact qW _ _ _ _ _ h
 ·rcases nD.mp h with z | z
  ·exact .inl z
  ·exact .inr (mP.mp z)
def SmB(R:T→T→Prop):T→T→Prop
 | .lst us, .lst vs=>us.length=vs.length∧vs.length≤200000∧∀(i:Nat) a b,us[i]? =some a→vs[i]? =some b→R a b
 | .tup us, .tup vs=>us.length=vs.length∧vs.length≤200000∧∀(i:Nat) a b,us[i]? =some a→vs[i]? =some b→R a b
 | .dic ks us, .dic ls vs=>(ks.Nodup∧ls.Nodup∧ks.length=us.length∧ls.length=vs.length∧us.length=vs.length∧vs.length≤200000)∧∀k∈ls,k∈ks∧R (yD k ks us) (yD k ls vs)
 | .non, .non=>True
 | .bl a, .bl b=>a=b
 | .int a, .int b=>a=b
 | .str a, .str b=>a=b
 | _,_=>False
def Sm:Nat→T→T→Prop
 | 0,_,_=>False
 | n+1,t,u=>T.sz t≤T.sz u∧SmB (Sm n) t u
theorem Sm.sz{n:Nat}{t u:T}(h:Sm n t u):T.sz t≤T.sz u:=by
 cases n with
 | zero=>exact h.elim
 | succ n=>exact h.1
theorem Sm.refl:∀(n:Nat)(t:T),T.okq t→T.dep t<n→Sm n t t
 | 0,_,_,h=>absurd h (sJ _)
 | n+1, .lst us,hq,hd=>⟨mD _,rfl,hq.1,fun i a b h1 h2=>by
   rw[h1] at h2;cases h2;have hm:=mQ h1;have:=T.deps_le hm;have hd':T.deps us+1<n+1:=hd;exact Sm.refl n a (T.okqs_mem hq.2 hm) (by lia)⟩
 | n+1, .tup us,hq,hd=>⟨mD _,rfl,hq.1,fun i a b h1 h2=>by
   rw[h1] at h2;cases h2;have hm:=mQ h1;have:=T.deps_le hm;have hd':T.deps us+1<n+1:=hd;exact Sm.refl n a (T.okqs_mem hq.2 hm) (by lia)⟩
 | n+1, .dic ks us,hq,hd=>⟨mD _,⟨hq.1,hq.1,hq.2.1,hq.2.1,rfl,hq.2.2.1⟩,fun k hk=>⟨hk,by
   have hm:=wS hk hq.2.1;have:=T.deps_le hm;have hd':T.deps us+1<n+1:=hd;exact Sm.refl n _ (T.okqs_mem hq.2.2.2 hm) (by lia)⟩⟩
 | n+1, .non,_,_=>⟨mD _,mN⟩
 | n+1, .bl _,_,_=>⟨mD _,rfl⟩
 | n+1, .int _,_,_=>⟨mD _,rfl⟩
 | n+1, .str _,_,_=>⟨mD _,rfl⟩
end L2
namespace L2
open PySem PySem.W PySem.Spec PyProof.Rows
structure Dd(P:Program)(w:World)(K:PySem.W.Frag)(mg:Str→Option Value)(base:Heap)(k:Nat)(x:Str)(ps:List Str)(dvs:List V)(sp:Sp):Prop where
 ex:∃(f:Addr)(fd:FuncData)(ds:List Value),FnOk P w K mg base CX0 k f fd ps sp∧Binds K fd ps ds∧Vals dvs ds∧PySem.W.keepIn K (.ref f)=true∧mg x=some (.ref f)
section
variable{X:Cx}{k j:Nat}{x:Str}{ps:List Str}{dvs:List V}{sp:Sp}{e:Expr}{es:List Expr}{t:TA}{p pos:Pos}
end
structure FunD(K:PySem.W.Frag)(x qual:Str)(st:Stmt)(f:Addr)(fd:FuncData):Prop where
 ex:∃(oc:Value)(od:Option Addr)(dV kV doc pm:Value)(an:Option Addr)(cdv ct:Value)(osl:Array (Option Value)),
  fd=PySem.W.fnOf x qual (xG st) (yY st) (zH st) dV kV doc pm an cdv ct∧K.lookup f=some ⟨oc,od, .func fd,osl⟩∧PySem.W.codeIn K cdv qual=true
end L2
namespace L2
open PySem PySem.Spec PyProof.Rows
section
variable{X:Cx}
end
end L2
namespace L2
open PySem PySem.Builtin PySem.Builtin.Str
abbrev Tk:=Nat×List Nat
def stk(a b:Tk):Bool:=if b.2.take 1= [45]∧b.1=0 then false else if a.1=1 then decide (b.1=1)|| decide (b.1=0) else decide (a.1=b.1)&& !decide (a.1=3)
end L2
namespace L2
open PySem PySem.Spec PyProof.Rows
section
variable{P:Program}{w:World}{A:Around}{s:Shared}{E:Value→Shared→Prop}
end
section
variable{X:Cx}
end
end L2
namespace L2
open PySem PySem.Spec PyProof.Rows PySem.W
structure Kp(fs xs:List Addr)(h h':Heap):Prop where
 keep:∀b o,h.get? b=some o→b∉fs→b∉xs→h'.get? b=some o
 slot:∀b o,h.get? b=some o→b∈fs→b∉xs→∃sl,h'.get? b=some {o with slots:=sl}
theorem Kp.refl{fs xs:List Addr}{h:Heap}:Kp fs xs h h:=⟨fun _ _ e _ _=>e,fun _ o e _ _=>⟨o.slots,e⟩⟩
theorem Kp.trans{fs xs ys zs:List Addr}{h h1 h2:Heap}(a:Kp fs xs h h1)(b:Kp fs ys h1 h2)(hz:∀c,c∈xs∨(c∈ys∧h.get? c≠none)→c∈zs):Kp fs zs h h2 where
 keep c o e hf hx:=b.keep c o (a.keep c o e hf fun z=>hx (hz c (.inl z))) hf fun z=>hx (hz c (.inr ⟨z,by rw[e];exact fun z=>nomatch z⟩))
 slot c o e hf hx:=by
  obtain⟨sl,e1⟩:=a.slot c o e hf fun z=>hx (hz c (.inl z));obtain⟨sl2,e2⟩:=b.slot c _ e1 hf fun z=>hx (hz c (.inr ⟨z,by rw[e];exact fun z=>nomatch z⟩));exact⟨sl2,e2⟩
theorem zRx{base h h':Heap}{fs xs:List Addr}(k:Kp fs xs h h'):∀{l:List Env},(∀b∈frs l,b∈fs∧b∉xs)→h.FunFrames base l→h'.FunFrames base l
 | [],_,_=>by rw[Heap.FunFrames.eq_1];exact mN
 | env::l,hm,hf=>by
  rw[Heap.FunFrames.eq_2] at hf⊢;obtain⟨a,⟨L,o,e1,e2,e3,e4⟩,r⟩:=hf;have hL:L∈frs (env::l):=by unfold frs;rw[rB,e1];exact mF
  obtain⟨sl,e5⟩:=k.slot L o e3 (hm L hL).1 (hm L hL).2;exact⟨a,⟨L,_,e1,e2,e5,e4⟩,zRx k (fun b hb=>hm b (by unfold frs;rw[rB,e1];exact mH _ hb)) r⟩
def Fl(φ:Value→Prop)(h:Heap)(x T:Addr)(C:Value)(d:Option Addr)(a0 fl:Value):Prop:=∃(oe:Obj)(vs:Array Value)(oT:Obj)(ts:Array Value),h.get? x=some oe∧oe.cls=C∧oe.dict=d∧oe.data= .fields vs∧vs[0]? =some a0∧vs[1]? =some (.ref T)∧T≠x∧h.get? T=some oT∧oT.data= .fields ts∧ts[3]? =some fl∧∃cx,vs[2]? =some cx∧φ cx
theorem zYw{o:Obj}{vs:Array Value}(h:o.data= .fields vs)(f:Array Value→Array Value):Obj.mapFields f o={o with data:=.fields (f vs)}:=by
 obtain⟨c,d,da,sl⟩:=o;cases h
 rfl
section
variable{M:Model}{A:Around}{E:Value→Shared→Prop}{s:Shared}{env:Env}{outer:List Env}{x T L:Addr}{C a0 fl:Value}{d:Option Addr}{base:Heap}{Q:Unit→Shared→Prop}{φ:Value→Prop}
theorem zHg{h:Heap}{a:Addr}{o:Obj}{vs:Array Value}(e:h.get? a=some o)(hd:o.data= .fields vs)(i:Nat)(v:Value):(h.update a (Obj.mapFields fun xs=>xs.setIfInBounds i v)).get? a=some {o with data:=.fields (vs.setIfInBounds i v)}:=by
 rw[←zYw hd (fun xs=>xs.setIfInBounds i v)];exact rA _ e (by rw[zYw hd];rfl)
theorem qP(F:Fl φ s.heap x T C d a0 fl)(q:∀h',Fl φ h' x T C d a0 .none→Kp [] [T] s.heap h'→Q () {s with heap:=h'}):wpAny M A (setFlight (.ref x) none) Q E s:=by
 obtain⟨oe,vs,oT,ts,e1,e2,e3,e4,e5,e6,e7,e8,e9,e10,e11⟩:=F;unfold setFlight;refine mC (rC e1 e4 e6 ?_);rw[mK (by rfl)];have hsz:3<ts.size:=by
  obtain⟨z,_⟩:=rH.mp e10;exact z
 refine sZ e8 e9 hsz ?_;have hT:=zHg e8 e9 3 .none;refine q _ ⟨oe,vs,_,_,(mO _ _ e7).trans e1,e2,e3,e4,e5,e6,e7,hT,rfl, ?_,e11⟩ ⟨fun b o e _ hb=>(mO _ _ fun z=>hb (by rw[z];exact mF)).trans e,fun b o e hb=>nomatch hb⟩;show(ts.setIfInBounds 3 Value.none)[3]? =some Value.none;rw[bI hsz]
theorem zRn{oe:Obj}{vs:Array Value}{head:Value}{b:Bool}(hfr:A.frames=some (env::outer))(hfu:s.heap.FunFrames base (env::outer))(hL:env.frame=some L)(e1:s.heap.get? x=some oe)(hx:x∉frs (env::outer))(e4:oe.data= .fields vs)(e5:vs[0]? =some a0)(hs:1<vs.size)(e11:∃cx,vs[2]? =some cx∧φ cx)
  (q:∀h' T',Fl φ h' x T' oe.cls oe.dict a0 (rawInt L)→Kp (frs (env::outer)) [x] s.heap h'→s.heap.get? T'=none→Q () {s with heap:=h'}):
  wpAny M A (do
   let a ←PySem.frameOf env;let pl ←entryPlaceOf L b;let b ←EntryCells.newEntry head a .none (rawInt L) .none pl
   setField (.ref x) 1 b) Q E s:=by
 refine mC (wpAny_frameOf_fun hfr hfu hL fun h1 so=>?_);refine mC (wpAny_entryPlaceOf fun pl hpl=>?_);refine mC ?_;unfold EntryCells.newEntry newFields;have hpz:(([head,Value.ref L,Value.none,rawInt L,Value.none]++if pl.isEmpty=true then List.replicate 6 Value.none else pl).toArray).size≤sizeLine+2:=by
  have:(if pl.isEmpty=true then List.replicate 6 Value.none else pl).length≤6:=by
   rcases hpl with rfl |⟨a,b,c,d,c9,b10,_,rfl⟩<;>simp
  rw[nG,mL,mU];simp only[mS,nX]
  lia
 refine sP ?_ hpz;obtain⟨z1,z2,z3⟩:=so;have x1:h1.get? x=some oe:=by rw[z2 x hx];exact e1
 have hlt:x<h1.objs.size:=mR x1;refine sZ (mE _ x1) e4 hs ?_;have hnew:h1.objs.size≠x:=pK hlt;have hx2:=zHg (mE (o:={cls:=.type "traceback",data:=.fields ([head,Value.ref L,Value.none,rawInt L,Value.none]++if pl.isEmpty=true then List.replicate 6 Value.none else pl).toArray}) (h:=h1) x1) e4 1 (.ref h1.objs.size);refine q _ h1.objs.size ⟨_,_,_,_,hx2,rfl,rfl,rfl, ?_, ?_,hnew,(mO _ _ (Ne.symm hnew)).trans (mX _ rfl),rfl, ?_,e11.imp fun cx z=>⟨(sF (by decide)).trans z.1,z.2⟩⟩ ⟨fun b o e hb hb2=>?_,fun b o e hb hb2=>?_⟩ ?_
 ·rw[sF (by decide)];exact e5
 ·rw[bI hs]
 ·simp
 ·refine(mO _ _ fun z=>hb2 (by rw[z];exact mF)).trans (mE _ ?_)
  rw[z2 b hb];exact e
 ·obtain⟨sl,e'⟩:=z3 b o e
  exact⟨sl,(mO _ _ fun z=>hb2 (by rw[z];exact mF)).trans (mE _ e')⟩
 ·rw[z1]
  exact tY (mD _)
theorem zTd{oe:Obj}{vs:Array Value}(hfr:A.frames=some (env::outer))(hfu:s.heap.FunFrames base (env::outer))(hL:env.frame=some L)(e1:s.heap.get? x=some oe)(hx:x∉frs (env::outer))(e4:oe.data= .fields vs)(e5:vs[0]? =some a0)(e6:vs[1]? =some .none)(e11:∃cx,vs[2]? =some cx∧φ cx)
  (q:∀h' T',Fl φ h' x T' oe.cls oe.dict a0 (rawInt L)→Kp (frs (env::outer)) [x] s.heap h'→s.heap.get? T'=none→Q () {s with heap:=h'}):wpAny M A (noteFrame (.ref x) env) Q E s:=by
 have hs:1<vs.size:=by
  obtain⟨z,_⟩:=rH.mp e6;exact z
 unfold noteFrame;rw[hL];refine mC (rC e1 e4 e6 ?_);exact zRn hfr hfu hL e1 hx e4 e5 hs e11 q
theorem zOb(hfr:A.frames=some (env::outer))(hfu:s.heap.FunFrames base (env::outer))(hL:env.frame=some L)(hx:x∉frs (env::outer))(hT:T∉frs (env::outer))(F:Fl φ s.heap x T C d a0 .none)
  (q:∀h' T',Fl φ h' x T' C d a0 (rawInt L)→Kp (frs (env::outer)) [x,T] s.heap h'→s.heap.get? T'=none→Q () {s with heap:=h'}):wpAny M A (noteFrame (.ref x) env) Q E s:=by
 obtain⟨oe,vs,oT,ts,e1,e2,e3,e4,e5,e6,e7,e8,e9,e10,e11⟩:=F;have hs:1<vs.size:=by
  obtain⟨z,_⟩:=rH.mp e6;exact z
 have hsz:3<ts.size:=by
  obtain⟨z,_⟩:=rH.mp e10;exact z
 unfold noteFrame;rw[hL];refine mC (rC e1 e4 e6 ?_);rw[mK (by rfl)];refine mC (rC e8 e9 e10 ?_);rw[mI (by intro z;cases (eq_of_beq z))];refine mC (sZ e8 e9 hsz ?_);have k1:Kp (frs (env::outer)) [T] s.heap (s.heap.update T (Obj.mapFields fun x=>x.setIfInBounds 3 Value.none)):=⟨fun b o e _ hb=>(mO _ _ fun z=>hb (by rw[z];exact mF)).trans e,fun b o e hb hb2=>⟨o.slots,(mO _ _ fun z=>hb2 (by rw[z];exact mF)).trans e⟩⟩;have hfu2:(s.heap.update T (Obj.mapFields fun x=>x.setIfInBounds 3 Value.none)).FunFrames base (env::outer):=zRx k1 (fun b hb=>⟨hb,fun z=>hT (by rw[←mP.mp z];exact hb)⟩) hfu;have x2:(s.heap.update T (Obj.mapFields fun x=>x.setIfInBounds 3 Value.none)).get? x=some oe:=(mO _ _ e7).trans e1;have q':=zRn (E:=E) (M:=M) (A:=A) (head:=.ref T) (b:=true) (s:={s with heap:=s.heap.update T (Obj.mapFields fun x=>x.setIfInBounds 3 Value.none)}) (Q:=Q) hfr hfu2 hL x2 hx e4 e5 hs e11;rw[e2,e3] at q';refine q' fun h' T' f k n=>q h' T' f (k1.trans k fun c hc=>?_) ?_
 ·rcases hc with z | z
  ·rw[mP.mp z];simp
  ·rw[mP.mp z.1];simp
 ·cases e:s.heap.get? T' with
  | none=>rfl
  | some o=>
   by_cases z:T'=T
   ·subst z
    rw[zHg e8 e9] at n;cases n
   ·have:=k1.keep
    rw[(mO s.heap _ (Ne.symm z)).trans e] at n;cases n
end
section
variable{X:Cx}{pins:List (Addr×Obj)}{σ:St}{H H':Hp}{s s':Shared}{φ:Value→Prop}
theorem ObjOk.got{P:Program}{w:World}{h:Heap}{a:Addr}{o:HO}(x:ObjOk P w H h a o):∃ob,h.get? a=some ob:=by
 induction o with
 | lst xs=>obtain⟨_,its,n,_,e⟩:=x;exact⟨_,e⟩
 | tup xs=>obtain⟨_,its,_,ob,e,_⟩:=x;exact⟨_,e⟩
 | dK kvs=>obtain⟨_,_,vs,_,ob,es,ep,e,_⟩:=x;exact⟨_,e⟩
 | dT kvs=>obtain⟨_,_,xs,_,ob,es,ep,e,_⟩:=x;exact⟨_,e⟩
 | set S n=>obtain⟨ob,es,ep,t,e,_⟩:=x;exact⟨_,e⟩
 | ins C dx fs=>obtain⟨_,_,_,e,_⟩:=x;exact⟨_,e⟩
 | own y=>exact x
 | xd fs=>obtain⟨mA,⟨od,es,ep,e,_⟩,_⟩:=x;exact⟨_,e⟩
 | rng lo hi=>obtain⟨t,u,v,e⟩:=x;exact⟨_,e⟩
 | frz ob u ih=>exact⟨_,x.1⟩
 | tbl ps=>exact⟨_,(show h.get? a=some _ from x)⟩
 | met f y=>exact⟨_,(show h.get? a=some _ from x)⟩
 | ext φ=>exact x.2.1
theorem zHf{B h:Heap}:∀{l:List Env},h.FunFrames B l→∀b∈frs l,∃o,h.get? b=some o∧∀vs:Array Value,o.data≠ .fields vs
 | [],_,b,hb=>nomatch hb
 | env::l,hf,b,hb=>by
  rw[Heap.FunFrames.eq_2] at hf;obtain⟨_,⟨L,o,e1,_,e3,e4⟩,r⟩:=hf;unfold frs at hb;rw[rB,e1] at hb;rcases mG.mp hb with z | z
  ·rw[z];exact⟨o,e3,e4⟩
  ·exact zHf r b z
def CXE(φ:Value→Prop)(P:Program)(w:World):CXT:=fun outer H s E e s'=>∃(x T:Addr)(C:Value)(d:Option Addr)(a0:Value)(H':Hp),e= .ref x∧s'.os=s.os∧AllBare s'.gens∧Un (frs outer) [] H H' s.heap s'.heap∧HOk P w H' s'.heap∧
 s.heap.get? x=none∧s.heap.get? T=none∧H' x=none∧H' T=none∧Fl φ s'.heap x T C d a0 .none∧E C d H'
theorem zOa{fs xs:List Addr}{H0 H':Hp}{h0 h h':Heap}(u:Un fs [] H0 H' h0 h)(k:Kp fs xs h h')(h1:∀b∈xs,h0.get? b=none):Un fs [] H0 H' h0 h' where
 keep b o e n hf hx:=k.keep b o (u.keep b o e n hf hx) hf fun z=>by rw[h1 b z] at e;cases e
 slot b o e n hf hx:=by
  obtain⟨sl,e1⟩:=u.slot b o e n hf hx;obtain⟨sl2,e2⟩:=k.slot b _ e1 hf fun z=>by rw[h1 b z] at e;cases e
  exact⟨sl2,e2⟩
 free b o e n hx:=u.free b o e n hx
 there b o e hx:=by
  obtain⟨o',e'⟩:=u.there b o e hx;have nx:b∉xs:=fun z=>by rw[h1 b z] at e;cases e
  by_cases hf:b∈fs
  ·obtain⟨sl2,e2⟩:=k.slot b _ e' hf nx
   exact⟨_,e2⟩
  ·exact⟨o',k.keep b o' e' hf nx⟩
 tups:=u.tups
 frzs:=u.frzs
 tbls:=u.tbls
theorem zFv{P:Program}{w:World}{H:Hp}{fs xs:List Addr}{h h':Heap}(x:HOk P w H h)(k:Kp fs xs h h')(hf:∀b∈fs,H b=none)(hx:∀b∈xs,H b=none):HOk P w H h':=fun a o e=>
 (x a o e).stay (fun b u hb q=>by
  have hn:H b≠none:=by
   rcases hb with z | z
   ·rw[z,e];exact fun z=>nomatch z
   ·rw[z];exact fun z=>nomatch z
  exact k.keep b u q (fun z=>hn (hf b z)) fun z=>hn (hx b z)) (fun _ q=>q) fun _ _ q=>q
theorem kX{fs fs' xs:List Addr}{h h':Heap}(k:Kp fs xs h h')(hm:∀b,b∈fs→b∈fs'∨b∈xs):Kp fs' xs h h' where
 keep b o e hf hx:=k.keep b o e (fun z=>(hm b z).elim hf hx) hx
 slot b o e hf hx:=by
  by_cases z:b∈fs
  ·exact k.slot b o e z hx
  ·exact⟨o.slots,k.keep b o e z hx⟩
theorem zVw{E:XK}{e:Value}{EE:Value→Shared→Prop}(I:Inv X pins σ H s)(hs:X.stack=X.env::X.outer)(hf:X.env.frame=some X.env.locals)(hex:X.ex= [])(h:CXE φ X.prog X.w X.stack H s E e s'):
  wpAny (model X.prog X.w) X.A (leaving X.env e) (fun _ s3=>CXE φ X.prog X.w X.outer X.H₀ X.s₀ E e s3) EE s':=by
 obtain⟨x,T,C,d,a0,H',rfl,os,bare,un,hok,hx,hT,hHx,hHT,fl,q⟩:=h;have I2:Inv X pins σ H' s':=I.call' os un hok bare (fun b z=>absurd z (by simp));have old:∀b,s.heap.get? b=none→X.s₀.heap.get? b=none:=fun b hb=>by
  cases e:X.s₀.heap.get? b with
  | none=>rfl
  | some o=>
   obtain⟨o',e'⟩:=I.base.there b o e (by rw[hex];exact fun z=>nomatch z);rw[hb] at e';cases e'
 have hfs:frs X.stack=X.env.locals::X.fs:=by
  rw[hs];unfold frs;rw[rB,hf];rfl
 have hloc:X.s₀.heap.get? X.env.locals=none:=tY I.ok.above;have hfr:=I.ok.frames;rw[hs] at hfr;have nfr:∀b,s.heap.get? b=none→b∉frs X.stack:=fun b hb z=>by
  obtain⟨o,e,_⟩:=zHf I.stack b z;rw[hb] at e;cases e
 have nx:=nfr x hx;have nT:=nfr T hT;have st:=I2.stack;rw[hs] at nx nT st;unfold leaving;refine mC (zOb hfr st hf nx nT fl fun h1 T1 f1 k1 n1=>?_);refine qP f1 fun h2 f2 k2=>?_;rw[←hs] at k1;have hbase:=I2.base;rw[hex] at hbase;have hT1H:H' T1=none:=by
  cases e:H' T1 with
  | none=>rfl
  | some o=>
   obtain⟨ob,hob⟩:=ObjOk.got (I2.hok T1 o e);rw[n1] at hob;cases hob
 have hT1o:X.s₀.heap.get? T1=none:=by
  cases e:X.s₀.heap.get? T1 with
  | none=>rfl
  | some o=>
   obtain⟨o',e'⟩:=hbase.there T1 o e (fun z=>nomatch z);rw[n1] at e';cases e'
 have k3:Kp (frs X.stack) [x,T,T1] s'.heap h2:=k1.trans (kX k2 fun b hb=>nomatch hb) fun c hc=>by
  rcases hc with z | z
  ·rcases mG.mp z with z | z
   ·rw[z];simp
   ·rw[mP.mp z];simp
  ·rw[mP.mp z.1];simp
 have k4:Kp X.fs [x,T,T1,X.env.locals] s'.heap h2:=by
  have k5:Kp (frs X.stack) [x,T,T1,X.env.locals] s'.heap h2:=k3.trans Kp.refl (ys:=[]) fun c hc=>by
   rcases hc with z | z
   ·rcases mG.mp z with z | z
    ·rw[z];simp
    ·rcases mG.mp z with z | z
     ·rw[z];simp
     ·rw[mP.mp z];simp
   ·exact nomatch z.1
  refine kX k5 fun b hb=>?_;rw[hfs] at hb;rcases mG.mp hb with z | z
  ·rw[z];exact .inr (by simp)
  ·exact .inl z
 refine⟨x,T1,C,d,a0,H',rfl,I2.os,I2.bare,zOa hbase k4 fun b hb=>?_,zFv I2.hok k3 I2.stkFree fun b hb=>?_,old x hx,hT1o,hHx,hT1H,f2,q⟩
 ·rcases mG.mp hb with z | z
  ·rw[z];exact old x hx
  ·rcases mG.mp z with z | z
   ·rw[z];exact old T hT
   ·rcases mG.mp z with z | z
    ·rw[z];exact hT1o
    ·rw[mP.mp z];exact hloc
 ·rcases mG.mp hb with z | z
  ·rw[z];exact hHx
  ·rcases mG.mp z with z | z
   ·rw[z];exact hHT
   ·rw[mP.mp z];exact hT1H
end
end L2
namespace L2
open PySem PySem.Spec PyProof.Rows PySem.W
def zWn(nm:Str)(C N:Addr)(bm:List Value)(o:Obj):Prop:=∃(q:Str)(bs:List Value)(hdct:Bool)(sn:List Str)(sub:List Value)(ab:Bool)(col:Option Bool)(dd:Option Addr)(k0 k1 k2 k3 k5:Option Value),o=excClassObj nm q C N bs bm hdct sn sub ab col dd k0 k1 k2 k3 k5 "ValueError.__new__"
section
variable{M:Model}{A:Around}{E:Value→Shared→Prop}{s:Shared}{env:Env}
theorem zDs{nm:Str}{C N:Addr}{bm:List Value}{x:Sem Value}{Q:Flow→Shared→Prop}(hb:bm.contains (.type "BaseException")=true)(hh:A.handled=none)
  (h:wpAny M A x (fun v s1=>∃(e:Addr)(oe oC:Obj)(vs:Array Value),v= .ref e∧s1.heap.get? C=some oC∧zWn nm C N bm oC∧s1.heap.get? e=some oe∧oe.cls= .ref C∧oe.data= .fields vs∧vs[1]? =some .none∧E (.ref e) s1) E s):
  wpAny M A (raiseStmt env (some x) none) Q E s:=by
 unfold raiseStmt;refine mC (thn h fun v s1 ⟨e,oe,oC,vs,ev,hC,hX,he,hcl,hd,h1,q⟩=>?_);subst ev;obtain⟨q',bs,hdct,sn,sub,ab,col,dd,k0,k1,k2,k3,k5,rfl⟩:=hX;have hnc:∀c:ClassData,oe.data≠ .cls c:=fun c z=>by rw[hd] at z;cases z
 refine mC (mM ?_);refine mC (pX ?_);unfold excFromValue isExcClass;refine mC (mC (ks_wpAny_isType_inst he hnc ?_));rw[mI mW];refine mM ?_;rw[mI mW];unfold PySem.isInstance;refine mC (mC (tH he ?_));rw[hcl];refine wpAny_isSubtype_exc hC ?_;rw[show(Value.ref C::bm).contains (Value.type "BaseException")=true by
  rw[aX,hb,bU],mK rfl]
 refine mM ?_;refine mC (ks_wpAny_isType_inst he hnc ?_);rw[mI mW];unfold raisedInstance;refine mC (mC (tH he ?_));rw[hcl];refine mC (tH hC ?_);rw[mK (by rfl)];refine mM ?_;refine mC ?_;unfold setFlight;refine mC (rC he hd h1 ?_);rw[mI (by intro z;cases z)];refine mM ?_;exact wpAny_raiseNew_none hh q
end
end L2
namespace L2
open PySem PySem.Spec PyProof.Rows PySem.W
abbrev veMro:List Value:=[.type "ValueError", .type "Exception", .type "BaseException", .type "object"]
abbrev newExc(C t:Addr):Obj:={cls:=.ref C,data:=.fields #[.ref t, .none, .none, .none, .bool false, .none]}
theorem zVg(a:Args):(Code.builtin "type.__call__" a).quiet=true:=by
 unfold Code.quiet
 first | rfl | kernel_rfl | decide+kernel
theorem zOw(a:Args):(Code.builtin "ValueError.__new__" a).quiet=true:=by
 unfold Code.quiet
 first | rfl | kernel_rfl | decide+kernel
section
variable{prog:Program}{w:World}{A:Around}{K:Frag}{C fI N:Addr}{nm:Str}{bm:List Value}{o:Obj}
theorem yDi{R:Result→Shared→Prop}{rest:List Value}{h:Heap}{g:Array GenState}{d:Drawn}{t:Nat}{os:OsState}(hK:K.In h)(lk:K.lookup C=some o)(hX:zWn nm C N bm o)(ht:tailIn K veMro bm=true)(hi:findIn K (.ref C) "__init__" =some (some (.ref fI)))(hf:typeIn K (.ref fI)=some (.type "function"))(hz:rest.length≤100)
  (hh:codeAny (model prog w) (A.under (.builtin "type.__call__" ⟨.ref C::rest,[]⟩)) (.call (.ref fI) ⟨.ref (h.objs.size+1)::rest,[]⟩) (InitBack (h.objs.size+1) R) ⟨(h.push {cls:=.type "tuple",data:=.seq rest.toArray}).push (newExc C h.objs.size),g,d,t,os⟩):
  codeAny (model prog w) A (.call (.ref C) ⟨rest,[]⟩) R ⟨h,g,d,t,os⟩:=by
 have hC:h.get? C=some o:=hK _ _ lk;obtain⟨q',bs,hdct,sn,sub,ab,col,dd,k0,k1,k2,k3,k5,rfl⟩:=hX;have hT:=tail_of_in hK ht;refine codeAny_of_tree ?_;show wpAny _ _ (callAny (.ref C) ⟨rest,[]⟩) _ _ _;unfold callAny;refine mC (wpAny_load hC ?_);show wpAny _ _ (callAny.viaDunder (.ref C) ⟨rest,[]⟩) _ _ _;unfold callAny.viaDunder specialOf;refine mC (mC (tH hC ?_));rw[tc_lookup];refine mM ?_;dsimp only;rw[tc_bind];refine mC (mM ?_);dsimp only;refine mC ?_;unfold callAny.plainCallee;refine mM ?_;rw[mK (by rfl)];refine mM ⟨rfl, ?_⟩;refine codeAny_call_builtin_at (zVg _) F.entry_type_call (wpAny_check_type_call_sub hC ?_);show wpAny _ _ (Builtin.«type.__call__» ⟨.ref C::rest,[]⟩) _ _ _;unfold Builtin.«type.__call__»;dsimp only;rw[mI (by intro z;cases (eq_of_beq z))];refine mC (wpAny_mroOf_exc hC ?_);rw[mI (by intro z;cases z)];refine mC (wpAny_madeBy_exc hC ?_);dsimp only;refine mC (mM ?_);refine mC (pX (bF ?_));refine codeAny_call_builtin_code (zOw _) (wpAny_check_new_subT dB hT hC ?_);refine codeAny_exc_new_subT dB hT hC ?_ (by rw[mU];lia);have k1':∀b ob,h.get? b=some ob→((h.push {cls:=.type "tuple",data:=.seq rest.toArray}).push (newExc C h.objs.size)).get? b=some ob:=fun b ob e=>mE _ (mE _ e);have hsz:(h.push {cls:=.type "tuple",data:=.seq rest.toArray}).objs.size=h.objs.size+1:=rP ..;have he:((h.push {cls:=.type "tuple",data:=.seq rest.toArray}).push (newExc C h.objs.size)).get? (h.objs.size+1)=some (newExc C h.objs.size):=by
  rw[←hsz];exact mX _ rfl
 have hK2:K.In ((h.push {cls:=.type "tuple",data:=.seq rest.toArray}).push (newExc C h.objs.size)):=hK.keeps k1';have hC2:=k1' _ _ hC;unfold PySem.isInstance;refine mC (mC (tH he ?_));refine wpAny_isSubtype_exc hC2 ?_;rw[show(Value.ref C::bm).contains (Value.ref C)=true by simp,mI (by decide)];refine mC (pX ?_);unfold callSpecial? specialOf;refine mC (mC (tH he ?_));refine Looks.here (looks_findIn hK2 hi) ?_;dsimp only;refine pX (mC (Looks.here (bind_fn hK2 _ hf) ?_));dsimp only;refine mC (bF (sH hh fun r s' hr=>?_))
 cases r with
 | error e=>exact hr
 | ok fl=>
  cases fl with
  | ret v=>
   obtain⟨rfl,hr⟩:=hr;refine mM ?_;dsimp only;rw[mI (by intro z;cases z)];exact mM hr
  | next=>exact hr.elim
  | brk=>exact hr.elim
  | cont=>exact hr.elim
end
end L2
namespace L2
open PySem PySem.Spec PyProof.Rows PySem.W PySem.Builtin PySem.Builtin.ObjectAttr
section
variable{prog:Program}{w:World}{A:Around}{K:Frag}{C B x:Addr}{cd:ClassData}{ox:Obj}{name:Str}{v:Value}
theorem osa_x{R:Result→Shared→Prop}{s:Shared}{tk:Tok}(hK:K.In s.heap)(hc:clsIn K C=some cd)(hm:cd.mro= .ref C:: .ref B::veMro)(hd:cd.hasDict=true)(hx:s.heap.get? x=some ox)(hcl:ox.cls= .ref C)(hnc:∀c,ox.data≠ .cls c)(hdi:ox.dict=none)
  (hn:findIn K (.ref C) name=some none)
  (q:∀h' t',h'.get? x=some {ox with dict:=some s.heap.objs.size}→h'.Ns1 s.heap.objs.size (fun y=>if y=name then some v else none)→(∀b o,b≠x→s.heap.get? b=some o→h'.get? b=some o)→R (.ok (.ret .none)) {s with heap:=h',toks:=t'}):
  codeAny (model prog w) A (.call (.builtin "object.__setattr__") ⟨[.ref x, .str name tk,v],[]⟩) R s:=by
 have SF:=PySem.F.store_ValueError;obtain⟨h,g,dr,t,os⟩:=s;dsimp only at hK hx q;have tp:Looks (model prog w) h (typeOf (.ref x)) (.ref C):=by
  intro A Q E s k q;refine tH (k _ _ hx) ?_;rw[hcl];exact q
 have sub:Looks (model prog w) h (isInstance (.ref x) (.type "object")) true:=tp.andThen (looks_mroIn hK (by
  unfold mroIn;rw[hc,Option.bind_some,mI (by rw[hm];exact mW),hm,aX,aX,show veMro.contains (.type "object")=true by decide,bU,bU]))
 refine cZ SF.slot.plain SF.entry (@check_slot (model prog w) _ _ ⟨h,g,dr,t,os⟩ "object.__setattr__" "object" "__setattr__" (.ref x) [.str name tk,v] [] _ SF.kind SF.split sub (SF.args (.ref x) (.str name tk) v) ?_);have hmr:Looks (model prog w) h (mroOf (.ref C)) cd.mro:=(looks_clsIn hK hc).andThen .now;rw[osa_eq,refuse_eq];refine mC (mC (Looks.here tp (mC (Looks.here hmr ?_))));rw[hm,refuseLoop_ref,refuseLoop_ref,SF.passes];refine mM (mC (Looks.here tp (mC (Looks.here (looks_findIn hK hn) (mC ?_)))));refine mM ?_;dsimp only;unfold storeInOwnDict;refine mC (mM ?_);rw[mI (by intro z;cases (eq_of_beq z))];refine mC ?_;show wpAny _ _ (instanceDict x true) _ _ _;unfold instanceDict;refine mC (wpAny_loadPart hx ?_);obtain⟨oc,odi,oda,osl⟩:=ox;dsimp only at hcl hdi hnc;subst hcl hdi;dsimp only;refine mC (Looks.here (looks_clsIn hK hc) ?_);rw[hd];rw[mI (show¬((!true)=true) from mW),mI (by simp[typeHasDict])];have main:wpAny (model prog w) A.in1 (do
     let d ←alloc {cls:=Value.type "dict",data:=Data.dict #[]}
     update x fun o=>{cls:=o.cls,dict:=some d,data:=o.data,slots:=o.slots}
     dictMade (Value.ref C) x d)
   (fun a s'=>
   wpAny (model prog w) A.in1
    (match a with
    | some d=>storeInDict d (Value.str name tk) name v
    | none=>noDictFor (Value.ref x) (Value.ref C) name (none:Option Value).isSome)
    (fun fin s'=>
     match fin with
     | Fin.done f=>R (Except.ok f) s'
     | Fin.again c'=>c'.quiet=true∧codeAny (model prog w) A c' R s')
    (fun e s'=>R (Except.error e) s') s')
  (fun e s'=>R (Except.error e) s') {heap:=h,gens:=g,drawn:=dr,toks:=t,os:=os}:=by
  have hx₁:(h.push {cls:=.type "dict",data:=.dict #[]}).get? x=some _:=mE _ hx;have hxs:x≠h.objs.size:=nL (mR hx);refine mC (wpAny_alloc' ?_);refine mC (wpAny_update' hx₁ ?_);refine mM ?_;have hgd:((h.push {cls:=.type "dict",data:=.dict #[]}).update x fun o=>{cls:=o.cls,dict:=some h.objs.size,data:=o.data,slots:=o.slots}).get? h.objs.size=some {cls:=.type "dict",data:=.dict #[]}:=
   (Heap.get?_update_ne _ _ _ _ hxs.symm).trans (Heap.get?_push_at rfl rfl)
  have hnd:((h.push {cls:=.type "dict",data:=.dict #[]}).update x fun o=>{cls:=o.cls,dict:=some h.objs.size,data:=o.data,slots:=o.slots}).Ns h.objs.size (fun _=>none):=
   ⟨_,#[],_,hgd,rfl,fun e he=>absurd he (by simp),fun _=>rfl⟩
  show wpAny _ _ (storeInDict h.objs.size (.str name tk) name v) _ _ _;unfold storeInDict newKeyGuard;refine mC (mM (mC (wpAny_nsSet1 (Heap.Ns1.of_empty hnd) fun h' hn' hs=>?_)));obtain⟨oD,esD,epD,hoD,hdD,hcD⟩:=hn'.count (Within.cons name v Within.nil);refine mC (wpAny_lookBehind hoD (by rw[hdD];exact pastItsLine_dict (nN hcD (by rw[mS,nX,mU];lia))) ?_);refine mM ?_;have hfr:=(Heap.get?_some_iff.mp hx).2;refine q h' _ ((hs.2 x hxs).trans (rA _ hx₁ ?_)) hn' fun b o hb e=>?_
  ·cases oda<;>first | rfl | exact hfr
  ·exact(hs.2 b (nL (mR e))).trans ((Heap.get?_update_ne _ _ _ _ hb).trans (mE _ e))
 cases oda with
 | cls c=>exact absurd rfl (hnc c)
 | _=>exact main
theorem set_x{E:Value→Shared→Prop}{Q:Unit→Shared→Prop}{s:Shared}(hK:K.In s.heap)(hc:clsIn K C=some cd)(hm:cd.mro= .ref C:: .ref B::veMro)(hd:cd.hasDict=true)(hx:s.heap.get? x=some ox)(hcl:ox.cls= .ref C)(hnc:∀c,ox.data≠ .cls c)(hdi:ox.dict=none)
  (hs:findIn K (.ref C) "__setattr__" =some (some (.builtin "object.__setattr__"))) (hn:findIn K (.ref C) name=some none)
  (q:∀h' t',h'.get? x=some {ox with dict:=some s.heap.objs.size}→h'.Ns1 s.heap.objs.size (fun y=>if y=name then some v else none)→(∀b o,b≠x→s.heap.get? b=some o→h'.get? b=some o)→Q () {s with heap:=h',toks:=t'}):
  wpAny (model prog w) A (setAttr (.ref x) name v) Q E s:=by
 have hno:notCls ox=true:=by
  unfold notCls;obtain⟨oc,odi,oda,osl⟩:=ox
  cases oda with
  | cls c=>exact absurd rfl (hnc c)
  | _=>rfl
 refine set_plain (od:=none) hK ⟨hx,hcl,hno,by rw[hdi];trivial⟩ hs ?_;exact osa_x (s:={s with toks:=s.toks+1}) hK hc hm hd hx hcl hnc hdi hn fun h' t' a b c=>q h' t' a b c
end
end L2
namespace L2
open PySem PySem.Spec PyProof.Rows PySem.W
structure zLj(K:Frag)(nm:Str)(C B fI:Addr):Prop where
 obj:∃(N:Addr)(o:Obj),K.lookup C=some o∧zWn nm C N (.ref B::veMro) o
 cd:∃cd,clsIn K C=some cd∧cd.mro= .ref C:: .ref B::veMro∧cd.hasDict=true
 tl:tailIn K veMro (.ref B::veMro)=true
 init:findIn K (.ref C) "__init__" =some (some (.ref fI))
 fn:typeIn K (.ref fI)=some (.type "function")
 set:findIn K (.ref C) "__setattr__" =some (some (.builtin "object.__setattr__"))
 at_:findIn K (.ref C) "at" =some none
 kp:keepIn K (.ref C)=true
structure zTl(K:Frag)(B:Addr):Prop where
 sp:specialIn K (.ref B) "__getattribute__" =some (some (.builtin "type.__getattribute__"))
 rd:readsIn K B (.type "type")=true
 init:findCls K (.ref B) (.type "type") "__init__" =some (.val (.builtin "ValueError.__init__"))
def exO(x C:Addr)(d:Option Addr):HO:=.ext fun h=>∃vs:Array Value,h.get? x=some {cls:=.ref C,dict:=d,data:=.fields vs}∧vs.size=6∧vs[1]? =some .none∧vs[2]? =some .none
theorem zGb{P:Program}{w:World}{H:Hp}{h:Heap}{x C:Addr}{d:Option Addr}{vs:Array Value}(e:h.get? x=some {cls:=.ref C,dict:=d,data:=.fields vs})(h6:vs.size=6)(h1:vs[1]? =some .none)(h2:vs[2]? =some .none):ObjOk P w H h x (exO x C d):=
 ⟨⟨vs,e,h6,h1,h2⟩,⟨_,e⟩,fun _ _ ⟨vs,e,a,b⟩ k=>⟨vs,k _ e,a,b⟩⟩
theorem yCz{H:Hp}{a:Addr}{o:HO}(h:H a=some o):upd H a o=H:=by
 funext b
 unfold upd;split
 ·rename_i e;rw[e,h]
 ·rfl
theorem Un.also{fs ex:List Addr}{H H1:Hp}{h h':Heap}{a:Addr}{o:HO}(u:Un fs ex H H1 h h')(hp:h.objs.size≤a)(hn:H a=none):Un fs ex H (upd H1 a o) h h' where
 keep:=u.keep
 slot:=u.slot
 free:=fun b ob q n hx=>by rw[zO (nL (nH (mR q) hp))];exact u.free b ob q n hx
 there:=u.there
 tups:=fun b xs q=>by rw[zO (zX q hn)];exact u.tups b xs q
 frzs:=fun b ob xs q=>by rw[zO (zX q hn)];exact u.frzs b ob xs q
 tbls:=fun b ps q=>by rw[zO (zX q hn)];exact u.tbls b ps q
theorem HOk.also{P:Program}{w:World}{H:Hp}{h:Heap}{a:Addr}{o:HO}(x:HOk P w H h)(hn:H a=none)(new:ObjOk P w (upd H a o) h a o):HOk P w (upd H a o) h:=fun b u e=>by
 by_cases hb:b=a
 ·subst hb;rw[zE] at e;cases e;exact new
 ·rw[zO hb] at e
  exact(x b u e).stay (fun c v _ q=>q) (fun c q=>by rw[zO (zX q hn)];exact q) fun c xs q=>by rw[zO (zX q hn)];exact q
section
variable{X:Cx}{pins:List (Addr×Obj)}{σ:St}{H:Hp}{s:Shared}{x C B fI:Addr}{nm:Str}{d:Option Addr}
theorem zDr(I:Inv X pins σ H s)(h:H x=some (exO x C d)):∃vs:Array Value,s.heap.get? x=some {cls:=.ref C,dict:=d,data:=.fields vs}∧vs.size=6∧vs[1]? =some .none∧vs[2]? =some .none:=(I.hok x _ h).1
theorem zQd{Q:Value→Shared→Prop}{E:Value→Shared→Prop}{u:Value}(c:zLj X.K nm C B fI)(I:Inv X pins σ H s)(hH:H x=some (exO x C d))(q:∀s',Inv X pins σ H s'→Q .none s'):
  wpAny (model X.prog X.w) X.A (call (.builtin "ValueError.__init__") [.ref x,u]) Q E s:=by
 obtain⟨N,o,lk,q',bs,hdct,sn,sub,ab,col,dd,k0,k1,k2,k3,k5,rfl⟩:=c.obj;obtain⟨vs,he,h6,h1,h2⟩:=zDr I hH;have hT:=tail_of_in I.kIn c.tl;have hC:=I.kIn _ _ lk;have I':=I;obtain⟨h,g,dr,t,os⟩:=s;dsimp only at he hC hT;have F:=dB;obtain⟨a0,h0⟩:∃a0,vs[0]? =some a0:=⟨_,rH.mpr ⟨by lia,rfl⟩⟩;refine bF (cZ F.init.plain F.initEntry (wpAny_check_init_subT F hT hC he rfl ?_));unfold Builtin.«BaseException.__init__»;dsimp only;rw[mI (by simp)];have hsz:0<vs.size:=by lia
 have he₁:=mE (h:=h) {cls:=.type "tuple",data:=.seq [u].toArray} he;have hup:=zHg he₁ rfl 0 (.ref h.objs.size);have fin:Inv X pins σ H ⟨(h.push {cls:=.type "tuple",data:=.seq [u].toArray}).update x (Obj.mapFields fun xs=>xs.setIfInBounds 0 (.ref h.objs.size)),g,dr,t,os⟩:=by
  rw[←yCz hH];refine Inv.write (t':=t) I' (e:=x) (by rw[hH];exact mN) (.inl rfl) (fun b ob hb e=>(mO _ _ (Ne.symm hb)).trans (mE _ e)) ⟨_,hup⟩ (zGb hup ?_ ?_ ?_)
  ·rw[Array.size_setIfInBounds];exact h6
  ·rw[sF (by decide)];exact h1
  ·rw[sF (by decide)];exact h2
 refine mC (wpAny_newTuple ?_ (by rw[mU];simp));unfold Builtin.BaseException.bexcPut;refine mC (mC (rC he₁ rfl h0 (mC (sZ he₁ rfl hsz ?_))));have fin2:=q _ fin
 cases a0 with
 | ref a=>exact aY (mM fin2)
 | _=>exact mM (mM fin2)
end
end L2
namespace L2
open PySem PySem.Spec PyProof.Rows PySem.W
section
variable{X:Cx}{C B fI:Addr}{nm:Str}
def zZi(C:Addr)(t:TA):TE:=fun σ H Q=>t σ H fun vs H1=>∃x v,vs= [.ref x,v]∧H1 x=some (exO x C none)∧Q .non H1
theorem zTz{bn:Str}{p apos pos:Pos}{e:Expr}{es:List Expr}{t:TA}{pl:Sem Bool}(c:zLj X.K nm C B fI)(b:zTl X.K B)(hg:Gl X bn)(hm:X.mg bn=some (.ref B))(ha:PA X (e::es) t)(hdb:(bn==("__debug__" :Str))=false:=by decide)
  (he:starEach (e::es) X.env=(false,eval e X.env)::starEach es X.env:=by rfl) (hpl:(backTo pos (starEach es X.env)).any (·.1)=false:=by rfl)
  (ht:eval (.Call (.Attribute (.Name bn p) "__init__" apos) (e::es) [] pos) X.env=(do
   let ov ←eval (.Name bn p) X.env
   standAt apos.atName
   let (f,first) ←holding [ov] (getMethod ov "__init__" pl)
   callWith pos f first (backTo pos (starEach (e::es) X.env)) (backToKw pos (keywordEach [] X.env))):=by rfl):
  PE X (.Call (.Attribute (.Name bn p) "__init__" apos) (e::es) [] pos) (zZi C t):=by
 intro pins s σ H Q I h;refine methodCall_KW (pl:=pl) (vT I hg hm ?_ hdb) ht;refine method_cls I.kIn b.sp (cls_value I.kIn b.rd b.init (by decide+kernel) ?_);have I1:=I.tok (s.toks+1);refine cV (thn (ha pos pins _ σ H _ I1 h) fun us s2 ⟨vs,H2,I2,r,x,v,e1,e2,q⟩=>?_) he hpl;subst e1;obtain⟨u1,u2,rfl,r1⟩:∃u1 u2,us= [u1,u2]∧RelV (.ref x) u1:=by
  cases r with
  | cons a r=>
   cases r with
   | cons b r=>cases r;exact⟨_,_,rfl,a⟩
 obtain rfl:u1=Value.ref x:=r1;exact zQd c I2 e2 fun s' I3=>⟨.non,H2,I3,rfl,q⟩
def tXSet(C:Addr)(f:Str)(tv ta:TE):TS:=fun D σ H=>tv σ H fun v H1=>ta σ H1 fun o H2=>∃x,o= .ref x∧H2 x=some (exO x C none)∧∀d,H2 d=none→D.nx σ (upd (upd H2 x (exO x C (some d))) d (.xd [(f,v)]))
theorem zXn{o value:Expr}{pos' pos:Pos}{tv ta:TE}(c:zLj X.K nm C B fI)(hv:PE X value tv)(ha:PE X o ta)(hs:swapsWith value (some (.Attribute o "at" pos')) pos.line X.env=pure false:=by rfl):PS X (.Assign [.Attribute o "at" pos'] value pos) (tXSet C "at" tv ta):=by
 intro pins s σ H D I h;refine plainObj_wpAny_Assign_Attribute (thn (hv pins s σ H _ I h) fun u s1 ⟨y,H1,I1,ry,q⟩=>thn (ha pins s1 σ H1 _ I1 q) fun ov s2 ⟨z,H2,I2,rx,x,ez,hH,q2⟩=>?_) hs;subst ez;obtain rfl:ov=Value.ref x:=rx;obtain⟨vs,he,h6,h1,h2⟩:=zDr I2 hH;obtain⟨cd,hc,hm,hd⟩:=c.cd;refine set_x I2.kIn hc hm hd he rfl (fun _ z=>by cases z) rfl c.set c.at_ fun h' t' g1 g2 g3=>?_;have hfr:H2 s2.heap.objs.size=none:=I2.fresh;have hne:s2.heap.objs.size≠x:=fun z=>by rw[z,hH] at hfr;cases hfr
 have hmu:Mut (H2 x):=by rw[hH];exact mN
 have u1:Un X.fs [] H2 (upd H2 x (exO x C (some s2.heap.objs.size))) s2.heap h':=Un.write (e:=x) hmu (.inl rfl) g3 ⟨_,g1⟩;have k1:HOk X.prog X.w (upd H2 x (exO x C (some s2.heap.objs.size))) h':=I2.hok.write (e:=x) hmu (.inl rfl) g3 ⟨_,g1⟩ (zGb g1 h6 h1 h2);refine⟨σ,_,I2.un (t':=t') (u1.also (a:=s2.heap.objs.size) (o:=.xd [("at",y)]) (mD _) hfr) (k1.also (by rw[zO hne];exact hfr) ?_),q2 _ hfr⟩;refine⟨_,g2,fun f=>?_⟩;show RelO (List.lookup f [("at",y)]) _;rw[rY,List.lookup_nil]
 by_cases z:f= "at"
 ·subst z
  rw[mK rfl,beq_self_eq_true];exact ry
 ·rw[mI z,show(f==("at" :Str))=false from sX.mpr z]
  trivial
def zBt(C:Addr):Sp:=fun vs H Q _=>∃x v0 v,vs= [.ref x,v0,v]∧H x=some (exO x C none)∧∀d,H d=none→Q .non (upd (upd H x (exO x C (some d))) d (.xd [("at",v)]))
end
section
variable{X:Cx}{pins:List (Addr×Obj)}{σ:St}{H:Hp}{s:Shared}{x C:Addr}{d:Option Addr}{φ:Value→Prop}
def drp(H:Hp)(x:Addr):Hp:=fun b=>if b=x then none else H b
theorem jI{b:Addr}(h:b≠x):drp H x b=H b:=mI h
theorem zCj:drp H x x=none:=mK rfl
theorem zFb{E:XK}{EE:Value→Shared→Prop}(I:Inv X pins σ H s)(hs:X.stack=X.env::X.outer)(hf:X.env.frame=some X.env.locals)(hex:X.ex= [])(hH:H x=some (exO x C d))(hx0:X.s₀.heap.get? x=none)(hφ:φ .none)(q:E (.ref C) d (drp H x)):
  wpAny (model X.prog X.w) X.A (leaving X.env (.ref x)) (fun _ s3=>CXE φ X.prog X.w X.outer X.H₀ X.s₀ E (.ref x) s3) EE s:=by
 obtain⟨vs,he,h6,h1,h2⟩:=zDr I hH;obtain⟨a0,h0⟩:∃a0,vs[0]? =some a0:=⟨_,rH.mpr ⟨by lia,rfl⟩⟩;have hfs:frs X.stack=X.env.locals::X.fs:=by
  rw[hs];unfold frs;rw[rB,hf];rfl
 have hloc:X.s₀.heap.get? X.env.locals=none:=tY I.ok.above;have hfr:=I.ok.frames;rw[hs] at hfr;have nx:x∉frs X.stack:=fun z=>by
  have:=I.stkFree x z;rw[hH] at this;cases this
 have st:=I.stack;have nx':=nx;rw[hs] at nx' st;unfold leaving;refine mC (zTd (φ:=φ) hfr st hf he nx' rfl h0 h1 ⟨_,h2,hφ⟩ fun h1 T1 f1 k1 n1=>?_);refine qP f1 fun h2 f2 k2=>?_;rw[←hs] at k1;have hbase:=I.base;rw[hex] at hbase;have hT1H:H T1=none:=by
  cases e:H T1 with
  | none=>rfl
  | some o=>
   obtain⟨ob,hob⟩:=ObjOk.got (I.hok T1 o e);rw[n1] at hob;cases hob
 have hT1o:X.s₀.heap.get? T1=none:=by
  cases e:X.s₀.heap.get? T1 with
  | none=>rfl
  | some o=>
   obtain⟨o',e'⟩:=hbase.there T1 o e (fun z=>nomatch z);rw[n1] at e';cases e'
 have k3:Kp (frs X.stack) [x,T1] s.heap h2:=k1.trans (kX k2 fun b hb=>nomatch hb) fun c hc=>by
  rcases hc with z | z
  ·rw[mP.mp z];simp
  ·rw[mP.mp z.1];simp
 have k4:Kp X.fs [x,T1,X.env.locals] s.heap h2:=by
  have k5:Kp (frs X.stack) [x,T1,X.env.locals] s.heap h2:=k3.trans Kp.refl (ys:=[]) fun c hc=>by
   rcases hc with z | z
   ·rcases mG.mp z with z | z
    ·rw[z];simp
    ·rw[mP.mp z];simp
   ·exact nomatch z.1
  refine kX k5 fun b hb=>?_;rw[hfs] at hb;rcases mG.mp hb with z | z
  ·rw[z];exact .inr (by simp)
  ·exact .inl z
 have u1:Un X.fs [] X.H₀ H X.s₀.heap h2:=zOa hbase k4 fun b hb=>by
  rcases mG.mp hb with z | z
  ·rw[z];exact hx0
  ·rcases mG.mp z with z | z
   ·rw[z];exact hT1o
   ·rw[mP.mp z];exact hloc
 have ne:∀b o,H b=some o→(∀φ,o≠ .ext φ)→b≠x:=fun b o e n z=>by
  subst z;rw[hH] at e;exact n _ (mV e).symm
 have u2:Un X.fs [] X.H₀ (drp H x) X.s₀.heap h2:=⟨u1.keep,u1.slot,fun b ob e n hx=>by
   rw[jI (fun z=>by subst z;rw[hx0] at e;cases e)];exact u1.free b ob e n hx,u1.there,
  fun b xs e=>by have z:=u1.tups b xs e;rw[jI (ne b _ z fun _ y=>nomatch y)];exact z,
  fun b ob xs e=>by have z:=u1.frzs b ob xs e;rw[jI (ne b _ z fun _ y=>nomatch y)];exact z,
  fun b ps e=>by obtain⟨m,z⟩:=u1.tbls b ps e;exact⟨m,by rw[jI (ne b _ z fun _ y=>nomatch y)];exact z⟩⟩
 have ok1:HOk X.prog X.w (drp H x) s.heap:=fun b o e=>by
  by_cases z:b=x
  ·subst z;rw[zCj] at e;cases e
  ·rw[jI z] at e
   exact(I.hok b o e).stay (fun _ _ _ q=>q) (fun c q=>by rw[jI (ne c _ q fun _ y=>nomatch y)];exact q) fun c xs q=>by rw[jI (ne c _ q fun _ y=>nomatch y)];exact q
 have dn:∀b,H b=none→drp H x b=none:=fun b e=>by
  unfold drp;split
  ·rfl
  ·exact e
 refine⟨x,T1, .ref C,d,a0,drp H x,rfl,I.os,I.bare,u2,zFv ok1 k3 (fun b hb=>dn b (I.stkFree b hb)) fun b hb=>?_,hx0,hT1o,zCj,dn _ hT1H,f2,q⟩;rcases mG.mp hb with z | z
 ·rw[z];exact zCj
 ·rw[mP.mp z];exact dn _ hT1H
end
end L2
namespace L2
open PySem PySem.Spec PyProof.Rows PySem.W
theorem zRz{H:Hp}{x d:Addr}{o u:HO}(hx:H x=none)(hd:d≠x):drp (upd (upd H x o) d u) x=upd H d u:=by
 funext b
 by_cases z:b=x
 ·subst z
  rw[zCj,zO (Ne.symm hd),hx]
 ·rw[jI z]
  by_cases y:b=d
  ·subst y;rw[zE,zE]
  ·rw[zO y,zO z,zO y]
section
variable{X:Cx}{C B fI:Addr}{nm:Str}{k:Nat}{fd:FuncData}{ps:List Str}
theorem zPb{pins:List (Addr×Obj)}{σ:St}{H:Hp}{s:Shared}{Qx:Value→Shared→Prop}{us:List Value}{v0 v:V}(c:zLj X.K nm C B fI)(F:FnOk X.prog X.w X.K X.mg X.base CX0 k fI fd ps (zBt C))(hr:Room (k+1) X.A)(hb:Binds X.K fd ps [])(I:Inv X pins σ H s)(r:Vals [v0,v] us)
  (q:∀x d s',X.s₀.heap.get? x=none→H x=none→H d=none→d≠x→Inv X pins σ (upd (upd H x (exO x C (some d))) d (.xd [("at",v)])) s'→Qx (.ref x) s'):wpAny (model X.prog X.w) X.A (call (.ref C) us) Qx X.xe s:=by
 obtain⟨N,o,lk,hX⟩:=c.obj;have hus:us.length≤100:=by rw[←r.length];show(2:Nat)≤100;decide
 have hx0:X.s₀.heap.get? (s.heap.objs.size+1)=none:=tY (nN I.sz (rJ _));have hHx:H (s.heap.objs.size+1)=none:=I.hok.fresh (rJ _);have he:((s.heap.push {cls:=.type "tuple",data:=.seq us.toArray}).push (newExc C s.heap.objs.size)).get? (s.heap.objs.size+1)=some (newExc C s.heap.objs.size):=by
  rw[←(rP .. :(s.heap.push {cls:=.type "tuple",data:=.seq us.toArray}).objs.size=s.heap.objs.size+1)];exact mX _ rfl
 have I2:=I.laid (t':=s.toks) (a:=s.heap.objs.size+1) (o:=exO (s.heap.objs.size+1) C none) (h':=(s.heap.push {cls:=.type "tuple",data:=.seq us.toArray}).push (newExc C s.heap.objs.size)) (fun b ob e=>mE _ (mE _ e)) (rJ _) (zGb he rfl rfl rfl);have r2:Vals [V.ref (s.heap.objs.size+1),v0,v] (Value.ref (s.heap.objs.size+1)::us):=.cons rfl r;have hsp:zBt C [V.ref (s.heap.objs.size+1),v0,v] (upd H (s.heap.objs.size+1) (exO (s.heap.objs.size+1) C none)) (fun u H2=>u= .non∧∃d,H d=none∧d≠s.heap.objs.size+1∧H2=upd (upd H (s.heap.objs.size+1) (exO (s.heap.objs.size+1) C (some d))) d (.xd [("at",v)])) E0:=by
  refine⟨_,v0,v,rfl,zE,fun d hd=>⟨rfl,d, ?_⟩⟩;have hne:d≠s.heap.objs.size+1:=fun z=>by rw[z,zE] at hd;cases hd
  rw[zO hne] at hd;exact⟨hd,hne,by rw[zNd]⟩
 have hl:((Value.ref (s.heap.objs.size+1)::us)++ []).length=ps.length:=by
  rw[pY,←r2.length];exact F.len _ _ _ _ hsp
 have hbt:=hb _ (Value.ref (s.heap.objs.size+1)::us) I2.kIn hl;rw[pY] at hbt;have run:=F.run _ X.stack _ _ ⟨Value.ref (s.heap.objs.size+1)::us,[]⟩ (Value.ref (s.heap.objs.size+1)::us) _ _ E0 (hr.make C us []) (I2.env0.make C us []) hbt r2 hsp;have I1:=I;obtain⟨h,g,dr,t,os⟩:=s;refine bF (yDi I1.kIn lk hX c.tl c.init c.fn hus (sH run fun r s' hq'=>?_))
 cases r with
 | error e=>exact False.elim hq'
 | ok fl=>
  cases fl with
  | ret u=>
   obtain⟨v',H',I3,rv,ev,d,hd,hne,rfl⟩:=I2.after hq';subst ev;exact⟨rv,q _ d s' hx0 hHx hd hne I3⟩
  | next=>exact False.elim hq'
  | brk=>exact False.elim hq'
  | cont=>exact False.elim hq'
def zBq(C:Addr)(E:XK)(t:TA):TS:=fun _ σ H=>t σ H fun vs H1=>∃v0 v,vs= [v0,v]∧∀d,H1 d=none→E (.ref C) (some d) (upd H1 d (.xd [("at",v)]))
structure Xr(P:Program)(w:World)(K:Frag)(mg:Str→Option Value)(base:Heap)(k:Nat)(cn:Str)(C:Addr):Prop where
 ex:∃(nm:Str)(B fI:Addr)(fd:FuncData)(ps:List Str),zLj K nm C B fI∧FnOk P w K mg base CX0 k fI fd ps (zBt C)∧Binds K fd ps []∧mg cn=some (.ref C)
def Lvs(φ:Value→Prop)(X:Cx)(E:XK):Prop:=X.stack=X.env::X.outer∧X.env.frame=some X.env.locals∧X.ex= []∧φ .none∧∀e s',wpAny (model X.prog X.w) X.A (leaving X.env e) (fun _ s3=>CXE φ X.prog X.w X.outer X.H₀ X.s₀ E e s3) (fun e' s3=>CXE φ X.prog X.w X.outer X.H₀ X.s₀ E e' s3) s'→X.xe e s'
theorem zYn{φ:Value→Prop}{E:XK}(l:Lvs φ X E):zAs (CXE φ X.prog X.w) X E:=fun _ _ _ _ e s' I h=>l.2.2.2.2 e s' (zVw I l.1 l.2.1 l.2.2.1 h)
theorem zAp{φ:Value→Prop}{E:XK}{cn:Str}{p pos rpos:Pos}{e:Expr}{es:List Expr}{t:TA}{j:Nat}(R:Xr X.prog X.w X.K X.mg X.base k cn C)(hr:Room j X.A)(hj:k+1≤j)(hg:Gl X cn)(hcalm:X.calm=true)(l:Lvs φ X E)(ha:PA X (e::es) t)(hdb:(cn==("__debug__" :Str))=false:=by decide)
  (he:starEach (e::es) X.env=(false,eval e X.env)::starEach es X.env:=by rfl) (hpl:(backTo pos (starEach es X.env)).any (·.1)=false:=by rfl):PS X (.Raise (some (.Call (.Name cn p) (e::es) [] pos)) none rpos) (zBq C E t):=by
 intro pins s σ H D I h;obtain⟨nm,B,fI,fd,ps,c,F,hb,hm⟩:=R.ex;obtain⟨hs,hf,hex,hφ,hxe⟩:=l;rw[arm_exec_Raise];refine mC (aN ?_);show wpAny _ _ (raiseStmt X.env (some (do let v ←eval (.Call (.Name cn p) (e::es) [] pos) X.env;standAt rpos;pure v)) none) _ _ _;obtain⟨N,o,lk,hX⟩:=c.obj;refine zDs (nm:=nm) (C:=C) (N:=N) (bm:=.ref B::veMro) (by rw[aX,show veMro.contains (.type "BaseException")=true by decide,bU]) (I.ok.hd.1 hcalm) (mC ?_);refine rE (vT I hg hm ?_ hdb);refine callWith_K (h₀:=X.base) I.ok.mod.kin c.kp (thn (ha pos pins s σ H _ I h) fun us s1 ⟨vs,H1,I1,r,v0,v,ev,q⟩=>⟨I1.kIn, ?_⟩) he hpl;subst ev;refine zPb c F (hr.mono hj) hb I1 r fun x d s2 hx0 hx hd hne I2=>?_;refine mC (aN (mM ?_));have hH:upd (upd H1 x (exO x C (some d))) d (.xd [("at",v)]) x=some (exO x C (some d)):=by rw[zO (Ne.symm hne),zE]
 obtain⟨vs,e1,h6,h1,h2⟩:=zDr I2 hH;refine⟨x,_,_,vs,rfl,I2.kIn _ _ lk,hX,e1,rfl,rfl,h1,hxe _ _ (zFb I2 hs hf hex hH hx0 hφ ?_)⟩;rw[zRz hx hne];exact q d hd
end
structure Dx(φ:Value→Prop)(P:Program)(w:World)(K:PySem.W.Frag)(mg:Str→Option Value)(base:Heap)(k:Nat)(x:Str)(ps:List Str)(sp:Sp):Prop where
 ex:∃(f:Addr)(fd:FuncData),FnOk P w K mg base (CXE φ P w) k f fd ps sp∧Binds K fd ps []∧PySem.W.keepIn K (.ref f)=true∧mg x=some (.ref f)
section
variable{X:Cx}{k j:Nat}{x:Str}{ps:List Str}{sp:Sp}{e:Expr}{es:List Expr}{t:TA}{p pos:Pos}{E:XK}
theorem zDo{φ:Value→Prop}(D:Dx φ X.prog X.w X.K X.mg X.base k x ps sp)(hr:Room j X.A)(hj:k≤j)(hg:Gl X x)(l:Lvs φ X E)(ha:PA X (e::es) t)(hdb:(x==("__debug__" :Str))=false:=by decide)
  (he:starEach (e::es) X.env=(false,eval e X.env)::starEach es X.env:=by rfl) (hpl:(backTo pos (starEach es X.env)).any (·.1)=false:=by rfl):PE X (.Call (.Name x p) (e::es) [] pos) (qV sp [] E t):=by
 obtain⟨f,fd,h1,h2,h3,h4⟩:=D.ex;exact zGk h1 (hr.mono hj) hg h4 h3 h2 .nil (zYn l) ha hdb he hpl
end
section
variable{P:Program}{w:World}{K:PySem.W.Frag}{mg:Str→Option Value}{base:Heap}{k:Nat}{f:Addr}{fd:FuncData}{ps:List Str}{sp sp':Sp}{CX:CXT}
theorem Fun.okx{φ:Value→Prop}{x qual:Str}{st:Stmt}{N:List Str}(F:Fun K x qual st f fd)(S:zP N ps (zH st))(len:∀vs H Q E,sp vs H Q E→vs.length=ps.length)
  (hbody:∀(cdv:Value)(A:Around)(outer:List Env)(s:Shared)(H:Hp)(vs:List V)(Q:VK)(E:XK),Room k (A.deeper (envOfC qual (zH st) s.heap.objs.size f cdv))→sp vs H Q E→
   ∃t,PSs (zBg (CXE φ P w) P w K mg base N qual (zH st) f cdv A outer s H E) (yY st) t∧t {nx:=fun _ H'=>Q .non H',rt:=Q} (qH N vs) H):FnOk P w K mg base (CXE φ P w) (k+1) f fd ps sp:=by
 obtain⟨oc,od,kV,doc,pm,an,cdv,ct,osl,rfl,lk,hcd⟩:=F.ex;exact zMx lk hcd S len fun A outer s H vs Q E hr hsp=>hbody cdv A outer s H vs Q E hr hsp
theorem lvs{φ:Value→Prop}{N:List Str}{qual:Str}{scope:Scope}{cd:Value}{A:Around}{outer:List Env}{s:Shared}{H:Hp}{E:XK}(hφ:φ .none:=by first | rfl | trivial):Lvs φ (zBg (CXE φ P w) P w K mg base N qual scope f cd A outer s H E) E:=⟨rfl,rfl,rfl,hφ,fun _ _ h=>h⟩
end
end L2
namespace L2
open PySem PySem.Spec PyProof.Rows PySem.W PySem.Builtin PySem.Builtin.ObjectAttr
structure XGet(K:Frag)(C:Addr):Prop where
 ga:findIn K (.ref C) "__getattribute__" =some (some (.builtin "BaseException.__getattribute__"))
 gt:findIn K (.ref C) "__getattr__" =some none
 bx:mroIn K C (.type "BaseException")=some true
 ob:mroIn K C (.type "object")=some true
 hd:hasDictIn K C=true
 cl:findIn K (.ref C) "__class__" =some (some (.builtin "object.__class__"))
 cg:specialIn K (.builtin "object.__class__") "__get__" =some (some (.builtin "getset_descriptor.__get__"))
 ct:takesIn K (.builtin "object.__class__")=some true
section
variable{prog:Program}{w:World}{A:Around}{K:Frag}{C x:Addr}{ox od:Obj}{name:Str}{E:Value→Shared→Prop}{s:Shared}
end
end L2
namespace L2
open PySem PySem.Spec PyProof.Rows PySem.W
abbrev Cx.mark(X:Cx)(v:Value):Cx:={X with A:=X.A.mark (some v),calm:=false,cool:=false,xe:=fun _ _=>False}
abbrev Cx.pend(X:Cx)(pins:List (Addr×Obj))(W:Value→Shared→Prop):Cx:={X with pn:=X.pn++pins,xe:=W}
section
variable{X:Cx}{pins pins':List (Addr×Obj)}{σ:St}{H:Hp}{s:Shared}{v:Value}{W:Value→Shared→Prop}
theorem Cx.Ok.mark(ok:X.Ok):(X.mark v).Ok:=
 ⟨ok.mod,ok.kind,ok.glob,ok.blt,ok.above,ok.inj,ok.has,ok.cab,⟨(fun z=>nomatch z),fun z=>nomatch z⟩,ok.frames,ok.stk,ok.exf,ok.bs,ok.bsz,ok.noex,ok.exfs,ok.funs,ok.frf⟩
theorem Inv.mark(I:Inv X pins σ H s):Inv (X.mark v) pins σ H s:=⟨I.ok.mark,I.os,I.bare,I.base,I.loc,I.cell,I.free,I.freeC,I.pin,I.hok,I.len⟩
theorem Cx.Ok.pend(ok:X.Ok):(X.pend pins W).Ok:=
 ⟨ok.mod,ok.kind,ok.glob,ok.blt,ok.above,ok.inj,ok.has,ok.cab,ok.hd,ok.frames,ok.stk,ok.exf,ok.bs,ok.bsz,ok.noex,ok.exfs,ok.funs,ok.frf⟩
theorem Inv.pend(I:Inv X pins σ H s):Inv (X.pend pins W) [] σ H s:=⟨I.ok.pend,I.os,I.bare,I.base,I.loc,I.cell,I.free,I.freeC,fun p hp=>I.pin p (by rw[pY] at hp;exact hp),I.hok,I.len⟩
theorem Inv.unpend(ok:X.Ok)(I:Inv (X.pend pins W) pins' σ H s):Inv X pins σ H s:=⟨ok,I.os,I.bare,I.base,I.loc,I.cell,I.free,I.freeC,fun p hp=>I.pin p (pT _ hp),I.hok,I.len⟩
theorem Inv.track{x:Addr}{o:HO}(I:Inv X pins σ H s)(hx:H x=none)(h0:X.s₀.heap.get? x=none)(hl:x≠X.env.locals)(hc:∀y c,X.env.cells.lookup y=some c→c≠x)(hp:∀p∈X.pn++pins,p.1≠x)
  (new:ObjOk X.prog X.w (upd H x o) s.heap x o):Inv X pins σ (upd H x o) s where
 ok:=I.ok
 os:=I.os
 bare:=I.bare
 base:=⟨I.base.keep,I.base.slot,fun b ob e n hx'=>by rw[zO (fun z=>by subst z;rw[h0] at e;cases e)];exact I.base.free b ob e n hx',I.base.there,
  fun b xs e=>by have z:=I.base.tups b xs e;rw[zO (zX z hx)];exact z,fun b ob xs e=>by have z:=I.base.frzs b ob xs e;rw[zO (zX z hx)];exact z,
  fun b ps e=>by obtain⟨m,z⟩:=I.base.tbls b ps e;exact⟨m,by rw[zO (zX z hx)];exact z⟩⟩
 loc:=I.loc
 cell:=I.cell
 free:=by rw[zO (Ne.symm hl)];exact I.free
 freeC:=fun y c e=>by rw[zO (hc y c e)];exact I.freeC y c e
 pin:=fun p q=>let ⟨a,b,c⟩:=I.pin p q;⟨a,by rw[zO (hp p q)];exact b,c⟩
 hok:=I.hok.also hx new
 len:=I.len
end
section
variable{X:Cx}{B:Addr}{bn n:Str}{i:Nat}{body suite:List Stmt}{b₀:Stmt}{bp hp pos:Pos}{tb:XK→TS}{ts:TS}{φ:Value→Prop}
end
end L2
namespace L2
open PySem PySem.Spec PyProof.Rows PySem.W
section
variable{X:Cx}{C D:Addr}{b:Bool}
end
section
variable{X:Cx}{k j:Nat}{x:Str}{ps:List Str}{sp:Sp}{e:Expr}{es:List Expr}{t:TA}{p pos:Pos}{E:XK}
end
end L2
namespace L2
open PySem PySem.Spec PyProof.Rows PySem.W
structure RoomH(k:Nat)(A:Around):Prop where
 dp:A.depth+3*k+5<recursionLimit
 un:A.units+16*k+200<cLine
theorem Room.h{k:Nat}{A:Around}{v:Option Value}(r:Room k A):RoomH k (A.mark v):=⟨r.dp,r.un⟩
theorem RoomH.mono{j k:Nat}{A:Around}(r:RoomH k A)(h:j≤k):RoomH j A:=⟨by have:=r.dp;lia,by have:=r.un;lia⟩
theorem RoomH.deeper{k:Nat}{A:Around}(r:RoomH (k+1) A)(env:Env):RoomH k (A.deeper env):=
 ⟨by have:=r.dp;show A.depth+1+3*k+5<_;lia,by have:=r.un;show A.units+3+16*k+200<_;lia⟩
theorem RoomH.depth{k:Nat}{A:Around}(r:RoomH k A):A.depth<recursionLimit:=by have:=r.dp;lia
structure FnOkH(P:Program)(w:World)(K:PySem.W.Frag)(mg:Str→Option Value)(base:Heap)(k:Nat)(f:Addr)(fd:FuncData)(ps:List Str)(sp:Sp):Prop where
 len:∀vs H Q E,sp vs H Q E→vs.length=ps.length
 run:∀(A:Around)(outer:List Env)(s:Shared)(H:Hp)(args:Args)(us:List Value)(vs:List V)(Q:VK)(E:XK),RoomH k A→HnAt A s.heap H (frs outer) []→Env0 P w K mg base A outer s H→BindsTo s fd args (ps.zip us)→Vals vs us→sp vs H Q E→
  codeAny (model P w) A (.call (.ref f) args) (CR CX0 outer P w H s Q E) s
abbrev cxH(P:Program)(w:World)(K:PySem.W.Frag)(mg:Str→Option Value)(base:Heap)(N:List Str)(qual:Str)(scope:Scope)(f:Addr)(cd:Value)(A:Around)(outer:List Env)(s:Shared)(H:Hp):Cx:=
 {zBg CX0 P w K mg base N qual scope f cd A outer s H E0 with calm:=false,xe:=fun _ _=>False}
theorem Fun.okh{P:Program}{w:World}{K:PySem.W.Frag}{mg:Str→Option Value}{base:Heap}{k:Nat}{f:Addr}{fd:FuncData}{ps:List Str}{sp:Sp}{x qual:Str}{st:Stmt}{N:List Str}(F:Fun K x qual st f fd)(S:zP N ps (zH st))(len:∀vs H Q E,sp vs H Q E→vs.length=ps.length)
  (hbody:∀(cdv:Value)(A:Around)(outer:List Env)(s:Shared)(H:Hp)(vs:List V)(Q:VK)(E:XK),RoomH k (A.deeper (envOfC qual (zH st) s.heap.objs.size f cdv))→sp vs H Q E→
   ∃t,PSs (cxH P w K mg base N qual (zH st) f cdv A outer s H) (yY st) t∧t {nx:=fun _ H'=>Q .non H',rt:=Q} (qH N vs) H):FnOkH P w K mg base (k+1) f fd ps sp:=by
 obtain⟨oc,od,kV,doc,pm,an,cdv,ct,osl,rfl,lk,hcd⟩:=F.ex;refine⟨len,fun A outer s H args us vs Q E hr hn0 e0 hb r hsp=>?_⟩;have hl:=len _ _ _ _ hsp;have KX:K.In s.heap:=e0.mod.kin.keeps fun b o e=>(e0.bs b o e).1;have lim:s.heap.NoLimit:=e0.mod.nolimit.keeps fun b o e=>(e0.bs b o e).1;have hkind:∀y∈ps.zip us,(zH st).names.lookup y.1=some .local∨((zH st).names.lookup y.1=some .cell∧((cellsFrom (s.heap.objs.size+1) (zH st).names []).lookup y.1).isSome=true):=fun⟨n,v⟩ hy=>by
  rcases S.par n (cU hy).1 with q | q
  ·exact .inl q
  ·exact .inr ⟨q,PySem.W.cellsFrom_some _ _ _ (.inl q)⟩
 refine codeAny_call_function hr.depth (KX _ _ lk) rfl S.co S.gen rfl (PySem.W.codeRec_of KX hcd) (hb _ _ _ _ ?_);refine wpAny_newFunctionEnv_cells S.kind hkind fun env he s1 x=>?_;subst he;refine⟨lim.keeps x.toInCall.keep,codeAny_func ?_⟩;obtain⟨t,ht,hq⟩:=hbody cdv A outer s H vs Q E (hr.deeper _) hsp;have e0':Env0 P w K mg base {A with handled:=none} outer s H:=⟨e0.frames,e0.mod,e0.bs,e0.bsz,e0.funs,e0.frf,e0.hok,e0.bare⟩;have I0:Inv (zBg CX0 P w K mg base N qual (zH st) f cdv {A with handled:=none} outer s H E0) [] (qH N vs) H s1:=zEt S rfl e0' hl r x;have ok:=I0.ok;have I:Inv (cxH P w K mg base N qual (zH st) f cdv A outer s H) [] (qH N vs) H s1:=
  ⟨⟨ok.mod,ok.kind,ok.glob,ok.blt,ok.above,ok.inj,ok.has,ok.cab,⟨(fun z=>nomatch z),fun _=>hn0⟩,ok.frames,ok.stk,ok.exf,ok.bs,ok.bsz,ok.noex,ok.exfs,ok.funs,ok.frf⟩,I0.os,I0.bare,I0.base,I0.loc,I0.cell,I0.free,I0.freeC,I0.pin,I0.hok,I0.len⟩
 refine rF (ht [] s1 (qH N vs) H _ I hq) (fun fl s' hs=>?_) fun e s' hs=>False.elim hs;have fin:∀{σ':St}{H':Hp}{v:V}{u:Value},Inv (cxH P w K mg base N qual (zH st) f cdv A outer s H) [] σ' H' s'→RelV v u→Q v H'→CE outer P w H s Q u s':=
  fun {σ' H' v u} J rv q=>⟨v,H',J.os,J.bare,J.base,J.hok,rv,q⟩
 cases fl with
 | ret u=>
  obtain⟨v,σ',H',J,rv,q⟩:=hs;exact fin J rv q
 | next=>
  obtain⟨σ',H',J,q⟩:=hs;exact fin (v:=V.non) (u:=Value.none) J rfl q
 | brk=>
  obtain⟨_,_,_,q⟩:=hs;exact False.elim q
 | cont=>
  obtain⟨_,_,_,q⟩:=hs;exact False.elim q
def HC(X:Cx):Prop:=∀(pins:List (Addr×Obj))(σ:St)(H:Hp)(s:Shared),Inv X pins σ H s→HnAt X.A s.heap H (frs X.stack) []
theorem zVt{X:Cx}(hc:X.cool=true):HC X:=fun pins σ H s I v e=>by
 obtain⟨x,o,C,vs,a,h1,h2,h3,h4,h5,h6,h7⟩:=I.hnAt hc v e;obtain⟨x',o',C',vs',a',g1,_⟩:=I.ok.hd.2 hc v e;rw[a] at a';cases a';exact⟨x,o,C,vs,a,h1,h2,h3,h4,h5,I.notStk (nL (nH (mR g1) I.ok.above)) h6,fun z=>nomatch z⟩
structure Dh(P:Program)(w:World)(K:PySem.W.Frag)(mg:Str→Option Value)(base:Heap)(k:Nat)(x:Str)(ps:List Str)(sp:Sp):Prop where
 ex:∃(f:Addr)(fd:FuncData),FnOkH P w K mg base k f fd ps sp∧Binds K fd ps []∧PySem.W.keepIn K (.ref f)=true∧mg x=some (.ref f)
section
variable{X:Cx}{k j:Nat}{x:Str}{ps:List Str}{sp:Sp}{e:Expr}{es:List Expr}{t:TA}{p pos:Pos}
theorem wV(D:Dh X.prog X.w X.K X.mg X.base k x ps sp)(hr:RoomH j X.A)(hj:k≤j)(hg:Gl X x)(ha:PA X (e::es) t)(hdb:(x==("__debug__" :Str))=false:=by decide)(hn:HC X:=by first | exact zVt rfl | assumption)
  (he:starEach (e::es) X.env=(false,eval e X.env)::starEach es X.env:=by rfl) (hpl:(backTo pos (starEach es X.env)).any (·.1)=false:=by rfl):PE X (.Call (.Name x p) (e::es) [] pos) (qV sp [] E0 t):=by
 obtain⟨f,fd,F,hb,hk,hm⟩:=D.ex;intro pins s σ H Q I h;refine rE (vT I hg hm ?_ hdb);refine PySem.W.callWith_K (h₀:=X.base) I.ok.mod.kin hk (thn (ha pos pins s σ H _ I h) fun us s1 ⟨vs,H1,I1,r,q⟩=>⟨I1.kIn, ?_⟩) he hpl;have q:sp (vs++ []) H1 Q E0:=q;rw[pY] at q;have hl:(us++ []).length=ps.length:=by rw[pY,←r.length];exact F.len _ _ _ _ q
 have hbt:=hb s1 us I1.kIn hl;rw[pY] at hbt;refine bF (sH (F.run X.A X.stack s1 H1 ⟨us,[]⟩ us vs Q E0 (hr.mono hj) (hn _ _ _ _ I1) I1.env0 hbt r q) fun r s' hq=>?_)
 cases r with
 | error e=>exact False.elim hq
 | ok fl=>
  cases fl with
  | ret u=>exact I1.after hq
  | next=>exact False.elim hq
  | brk=>exact False.elim hq
  | cont=>exact False.elim hq
end
end L2
namespace L2
open PySem PySem.Spec PyProof.Rows PySem.W
section
variable{M:Model}{A:Around}{E:Value→Shared→Prop}{s:Shared}{env:Env}{outer:List Env}{x T L:Addr}{C a0 fl:Value}{d:Option Addr}{base:Heap}{Q:Unit→Shared→Prop}{φ:Value→Prop}
end
section
variable{X:Cx}{E:XK}{EE:Value→Shared→Prop}{s:Shared}{e:Value}{cs:List Addr}{φ:Value→Prop}
end
end L2
namespace L2
open PySem PySem.Spec PyProof.Rows PySem.W
section
variable{X:Cx}{E:XK}
end
section
variable{X:Cx}{scope:Scope}{own:List Str}{F:List (Str×Nat)}{elt tg iter:Expr}{ifs:List Expr}{pos:Pos}{wi:TI}{g:TG}{tt:TT}{te:TE}{E:XK}
end
end L2
namespace L2
open PySem PySem.Spec PyProof.Rows PySem.W PySem.Builtin PySem.Builtin.ObjectAttr
structure Xp(K:Frag)(nm:Str)(C B:Addr):Prop where
 obj:∃(N:Addr)(o:Obj),K.lookup C=some o∧zWn nm C N (.ref B::veMro) o∧nsOkIn K N=true∧nsIn K N "__init__" =some none
 tl:tailIn K veMro (.ref B::veMro)=true
 kp:keepIn K (.ref C)=true
section
variable{X:Cx}{C B:Addr}{nm:Str}
theorem zOs{pins:List (Addr×Obj)}{σ:St}{H:Hp}{s:Shared}{Qx:Value→Shared→Prop}{EE:Value→Shared→Prop}{us:List Value}(c:Xp X.K nm C B)(hex:X.ex= [])(I:Inv X pins σ H s)(hl:us.length≤100)
  (q:∀x s',X.s₀.heap.get? x=none→H x=none→Inv X pins σ (upd H x (exO x C none)) s'→Qx (.ref x) s'):wpAny (model X.prog X.w) X.A (call (.ref C) us) Qx EE s:=by
 obtain⟨N,o,lk,⟨q',bs,hdct,sn,sub,ab,col,dd,k0,k1,k2,k3,k5,rfl⟩,hns,hni⟩:=c.obj;have hT:=tail_of_in I.kIn c.tl;have hC:=I.kIn _ _ lk;have hn:s.heap.Ns N (s.heap.nsMap N):=.of_isNs (isNs_of_in I.kIn hns);have hi:s.heap.nsMap N "__init__" =none:=nsMap_none_of_in I.kIn hns hni;have I1:=I;obtain⟨h,g,dr,t,os⟩:=s;refine wpAny_call_exc_subT PySem.F.excBase_ValueError hT hC hn hi (fun h' x hm=>?_) (by rw[mU];lia);obtain⟨t',ht,_⟩:=hm.there;have nn:∀b o,h.get? b=some o→b≠x:=fun b o e z=>by rw[z,hm.new] at e;cases e
 have hHx:H x=none:=by
  cases e:H x with
  | none=>rfl
  | some o=>
   obtain⟨ob,hob⟩:=ObjOk.got (I1.hok x o e);rw[hm.new] at hob;cases hob
 have hx0:X.s₀.heap.get? x=none:=by
  cases e:X.s₀.heap.get? x with
  | none=>rfl
  | some o=>
   obtain⟨o',e'⟩:=I1.base.there x o e (by rw[hex];exact fun z=>nomatch z);rw[hm.new] at e';cases e'
 refine q x _ hx0 hHx ((I1.kept (t':=t) hm.keeps).track hHx hx0 (fun z=>?_) (fun y c e z=>?_) (fun p hp z=>?_) (zGb ht rfl rfl rfl))
 ·obtain⟨m,⟨o,_,_,ho,_⟩,_⟩:=I1.loc
  exact nn _ _ ho z.symm
 ·obtain⟨v,o,ho,_⟩:=I1.cell y c e
  exact nn _ _ ho z
 ·exact nn _ _ (I1.pin p hp).1 z
theorem zYb{H:Hp}{x:Addr}{o:HO}(hx:H x=none):drp (upd H x o) x=H:=by
 funext b
 by_cases z:b=x
 ·subst z;rw[zCj,hx]
 ·rw[jI z,zO z]
def zJy(C:Addr)(E:XK)(t:TA):TS:=fun _ σ H=>t σ H fun vs H1=>vs.length≤100∧E (.ref C) none H1
structure Xr0(K:Frag)(mg:Str→Option Value)(cn:Str)(C:Addr):Prop where
 ex:∃(nm:Str)(B:Addr),Xp K nm C B∧mg cn=some (.ref C)
theorem zPi{φ:Value→Prop}{E:XK}{cn:Str}{p pos rpos:Pos}{e:Expr}{es:List Expr}{t:TA}(R:Xr0 X.K X.mg cn C)(hg:Gl X cn)(hcalm:X.calm=true)(l:Lvs φ X E)(ha:PA X (e::es) t)(hdb:(cn==("__debug__" :Str))=false:=by decide)
  (he:starEach (e::es) X.env=(false,eval e X.env)::starEach es X.env:=by rfl) (hpl:(backTo pos (starEach es X.env)).any (·.1)=false:=by rfl):PS X (.Raise (some (.Call (.Name cn p) (e::es) [] pos)) none rpos) (zJy C E t):=by
 intro pins s σ H D I h;obtain⟨nm,B,c,hm⟩:=R.ex;obtain⟨hs,hf,hex,hφ,hxe⟩:=l;rw[arm_exec_Raise];refine mC (aN ?_);show wpAny _ _ (raiseStmt X.env (some (do let v ←eval (.Call (.Name cn p) (e::es) [] pos) X.env;standAt rpos;pure v)) none) _ _ _;obtain⟨N,o,lk,hX,_⟩:=c.obj;refine zDs (nm:=nm) (C:=C) (N:=N) (bm:=.ref B::veMro) (by rw[aX,show veMro.contains (.type "BaseException")=true by decide,bU]) (I.ok.hd.1 hcalm) (mC ?_);refine rE (vT I hg hm ?_ hdb);refine callWith_K (h₀:=X.base) I.ok.mod.kin c.kp (thn (ha pos pins s σ H _ I h) fun us s1 ⟨vs,H1,I1,r,hv,q⟩=>⟨I1.kIn, ?_⟩) he hpl;refine zOs c hex I1 (by show us.length≤100;rw[←r.length];exact hv) fun x s2 hx0 hx I2=>?_;refine mC (aN (mM ?_));have hH:upd H1 x (exO x C none) x=some (exO x C none):=zE;obtain⟨vs',e1,h6,h1,h2⟩:=zDr I2 hH;refine⟨x,_,_,vs',rfl,I2.kIn _ _ lk,hX,e1,rfl,rfl,h1,hxe _ _ (zFb I2 hs hf hex hH hx0 hφ ?_)⟩;rw[zYb hx];exact q
end
section
variable{prog:Program}{w:World}{A:Around}{K:Frag}{C x:Addr}{ox:Obj}{od:Option Obj}{name:Str}{E:Value→Shared→Prop}{s:Shared}
end
section
variable{X:Cx}{pins:List (Addr×Obj)}{σ:St}{H:Hp}{s:Shared}{x C:Addr}
end
section
variable{X:Cx}
end
end L2
namespace L2
open PySem
def nC(v:Value):Prop:=v= .none
def aC(_:Value):Prop:=True
end L2
namespace L2
open PySem PySem.Spec PyProof.Rows
def ItD(lo:Int)(n:Nat):It:=⟨fun i _=>i<n,fun i H x H'=>H'=H∧x= .int (lo - i),fun i _=>n≤i⟩
theorem zPt{P:Program}{w:World}{K:PySem.W.Frag}{tg:Expr}(it:Addr)(lo:Int)(n:Nat):yCn P w K tg (ItD lo n) [it] it (fun i h=>IsRangeIter h it (lo+(i:Nat)*(-1)) ((n:Int)- (i:Nat)) (-1)) where
 mem:=by simp
 obj:=fun i h st b hb=>by
  have e:b=it:=by simpa using hb
  subst e;exact⟨_,st,fun v z=>by
   have z':Data.fields _=Data.cell v:=z;cases z'⟩
 keep:=fun i h h' st k=>k it (by simp) _ st
 item:=by
  intro X hP hw hK hc i pins s σ H E I hf st hg;subst hP hw hK;obtain⟨f0,f1,f2,f3,f4,f5⟩:=hf it (by simp);have W:=Walks.range (prog:=X.prog) (w:=X.w) (I.ok.hd.1 hc) it lo (-1) n;refine W.item i s _ _ hg st fun v h' tk hv st' kk=>?_;obtain⟨t,rfl⟩:=hv;have I1:Inv X pins σ H {s with heap:=h',toks:=tk}:=I.turned (fun b o hb e=>kk b o (by simpa using hb) e) f0 f1 f3 f4 f5;refine⟨_,rfl,zEl (s:={s with heap:=h',toks:=tk}) (n:="range_iterator") st' rfl rfl (by decide) ⟨.int (lo - i),H,I1,⟨t, ?_⟩,⟨rfl,rfl⟩,st',fun b hb=>(hf b hb).1⟩⟩;have e:lo+((i:Nat):Int)*(-1)=lo - i:=by lia
  rw[e]
 done:=by
  intro X hP hw hK hc i pins s σ H E I hf st hg;subst hP hw hK;obtain⟨f0,f1,f2,f3,f4,f5⟩:=hf it (by simp);exact wpAny_pyNext_range_end (I.ok.hd.1 hc) st (by have:n≤i:=hg;lia) fun h' eb=>⟨rfl,I.turned (t':=s.toks) (fun b o hb e=>eb b o hb e) f0 f1 f3 f4 f5⟩
 self:=fun _ _ _ _ _ st h=>wpAny_pyIter_rangeiter st h
theorem kE(lo:Int)(h: -1≤lo):Builtin.Range.rangeSize lo (-1) (-1)=lo+1:=by
 unfold Builtin.Range.rangeSize;simp
 lia
theorem zMg{lo:Int}(h0: -1≤lo)(h1:lo<1000):Builtin.Range.small lo (-1) (-1)=true:=by
 unfold Builtin.Range.small;rw[kE lo h0];simp[Builtin.Range.rangeFitsLong]
 lia
section
variable{X:Cx}{tg:Expr}
def zYz(ta:TA):TI:=fun σ H R=>ta σ H fun vs H1=>∃i:Int,vs= [.int i, .int (-1), .int (-1)]∧-1≤i∧i<1000∧R (ItD i (i+1).toNat) H1
theorem zXj{a b c:Expr}{ta:TA}{p pos:Pos}(hg:Gl X "range")(hm:X.mg "range" =none)(ha:PA X [a,b,c] ta)(hs:starEach [a,b,c] X.env= [(false,eval a X.env),(false,eval b X.env),(false,eval c X.env)]:=by rfl)(hs2:starEach [b,c] X.env= [(false,eval b X.env),(false,eval c X.env)]:=by rfl)(hcl:X.calm=true:=by rfl):
  PI X tg (.Call (.Name "range" p) [a,b,c] [] pos) (zYz ta):=by
 intro pins s σ H R I h;refine Call_ (gW I hg hm boot_range (tM (thn (ha pos pins s σ H _ I h) fun us s1 ⟨vs,H1,I1,r1,q1⟩=>?_) (by rw[hs,hs2]) (by rw[hs2];rfl)));obtain⟨i,e,h0,h1,q⟩:=q1;subst e
 cases r1 with
 | cons r rr=>
  cases rr with
  | cons r' rr=>
   cases rr with
   | cons r2 rr=>
    cases rr;obtain⟨t,rfl⟩:=r;obtain⟨t',rfl⟩:=r';obtain⟨t2,rfl⟩:=r2;refine call_range_3 (by decide) ?_ (nO (PyProof.noPylong_small (by lia)));refine wpAny_pyIter_range (IsRange.new ..) (zMg h0 h1) ?_;have I2:Inv X pins σ H1 {s1 with heap:=s1.heap.push {cls:=.type "range",data:=.fields #[.int i t, .int (-1) t', .int (-1) t2]},toks:=s1.toks}:=I1.kept fun b o e=>mE _ e;refine⟨(s1.heap.push {cls:=.type "range",data:=.fields #[.int i t, .int (-1) t', .int (-1) t2]}).objs.size,[(s1.heap.push {cls:=.type "range",data:=.fields #[.int i t, .int (-1) t', .int (-1) t2]}).objs.size],_,_,H1,rfl,
     I2.kept (t':=s1.toks) fun b o e=>mE _ e,⟨false,hcl,zPt _ i (i+1).toNat⟩, ?_,fun b hb=>?_,q⟩
    ·have e1:i+((0:Nat):Int)*(-1)=i:=by simp
     have e2:((((i+1).toNat:Nat):Int))- ((0:Nat):Int)=Builtin.Range.rangeSize i (-1) (-1):=by rw[kE i h0];lia
     show IsRangeIter _ _ (i+((0:Nat):Int)*(-1)) ((((i+1).toNat:Nat):Int)- ((0:Nat):Int)) (-1);rw[e1,e2];exact mX _ rfl
    ·have e:b=(s1.heap.push {cls:=.type "range",data:=.fields #[.int i t, .int (-1) t', .int (-1) t2]}).objs.size:=by simpa using hb
     subst e;exact I2.fpOk (mD _) (I2.hok.fresh (mD _))
theorem zPs{lo:Int}{n:Nat}{g:TG}{tb:TS}{D:gR}{σ:St}{H:Hp}(Pv:Nat→St→Hp→Prop)(h0:Pv 0 σ H)
  (hs:∀i σ H,i<n→Pv i σ H→g (.int (lo - i)) σ H fun σ2 H2=>tb {D with nx:=Pv (i+1),ct:=Pv (i+1),bk:=D.nx} σ2 H2) (hd:∀σ H,Pv n σ H→D.nx σ H):zYa g tb D σ (ItD lo n) H:=by
 refine⟨fun i m σ H=>m=n - i∧i≤n∧Pv i σ H,⟨n,by simp,pB _,h0⟩, ?_⟩;rintro i m σ H ⟨rfl,hi,p⟩
 by_cases hlt:i<n
 ·refine .inr ⟨hlt,Pv (i+1),fun σ' H' p'=>⟨n - (i+1),by lia,rfl,hlt,p'⟩,fun x H' y=>?_⟩
  obtain⟨e,y⟩:=y;subst e y;exact hs i σ _ hlt p
 ·have e:i=n:=by lia
  subst e;exact .inl ⟨mD _,hd σ H p⟩
theorem zJs:xS X (.type "dict") (fun xs H Q=>∃p kvs,xs= [.ref p]∧H p=some (.dK kvs)∧∀l,H l=none→Q (.ref l) (upd H l (.dK kvs))):=by
 intro pins s σ H xs us Q I r h;obtain⟨p,kvs,rfl,hq,q⟩:=h;obtain⟨u,rfl,rx⟩:=wR r;cases rx;obtain⟨z,hd,vs,rel,dd⟩:=I.hok p _ hq;have hl:=rel.length;refine kt_call_dict hd dd (by lia) fun h' dd' hs=>?_;have hlt:(s.heap.objs.size==sysModules)=false:=by
  have:=I.big;exact sX.mpr (pK this)
 refine⟨.ref s.heap.objs.size,_,I.laid (t':=s.toks) (h':=h') (fun b o e=>?_) (mD _) (o:=.dK kvs) ⟨z,hlt,vs,rel,dd'⟩,rfl,q _ (I.hok.fresh (mD _))⟩;have hb:b≠s.heap.objs.size:=nL (mR e);rw[hs.2 b hb];exact mE _ e
end
theorem FunD.okx{P:Program}{w:World}{K:W.Frag}{mg:Str→Option Value}{base:Heap}{x qual:Str}{st:Stmt}{f:Addr}{fd:FuncData}{N ps:List Str}{k:Nat}{sp:Sp}(F:FunD K x qual st f fd)(S:zP N ps (zH st))(len:∀vs H Q E,sp vs H Q E→vs.length=ps.length)
  (hbody:∀(cdv:Value)(A:Around)(outer:List Env)(s:Shared)(H:Hp)(vs:List V)(Q:VK)(E:XK),Room k (A.deeper (envOfC qual (zH st) s.heap.objs.size f cdv))→sp vs H Q E→
   ∃t,PSs (zBg (CXE φ P w) P w K mg base N qual (zH st) f cdv A outer s H E) (yY st) t∧t {nx:=fun _ H'=>Q .non H',rt:=Q} (qH N vs) H):FnOk P w K mg base (CXE φ P w) (k+1) f fd ps sp:=by
 obtain⟨oc,od,dV,kV,doc,pm,an,cdv,ct,osl,rfl,lk,hcd⟩:=F.ex;exact zMx lk hcd S len fun A outer s H vs Q E hr hsp=>hbody cdv A outer s H vs Q E hr hsp
structure Ddx(φ:Value→Prop)(P:Program)(w:World)(K:W.Frag)(mg:Str→Option Value)(base:Heap)(k:Nat)(x:Str)(ps:List Str)(dvs:List V)(sp:Sp):Prop where
 ex:∃(f:Addr)(fd:FuncData)(ds:List Value),FnOk P w K mg base (CXE φ P w) k f fd ps sp∧Binds K fd ps ds∧Vals dvs ds∧W.keepIn K (.ref f)=true∧mg x=some (.ref f)
section
variable{X:Cx}{k j:Nat}{x:Str}{ps:List Str}{dvs:List V}{sp:Sp}{e:Expr}{es:List Expr}{t:TA}{p pos:Pos}{E:XK}
theorem zZp{φ:Value→Prop}(D:Ddx φ X.prog X.w X.K X.mg X.base k x ps dvs sp)(hr:Room j X.A)(hj:k≤j)(hg:Gl X x)(l:zAs (CXE φ X.prog X.w) X E)(ha:PA X (e::es) t)(hdb:(x==("__debug__" :Str))=false:=by decide)
  (he:starEach (e::es) X.env=(false,eval e X.env)::starEach es X.env:=by rfl) (hpl:(backTo pos (starEach es X.env)).any (·.1)=false:=by rfl):PE X (.Call (.Name x p) (e::es) [] pos) (qV sp dvs E t):=by
 obtain⟨f,fd,ds,h1,h2,hv,h3,h4⟩:=D.ex;exact zGk h1 (hr.mono hj) hg h4 h3 h2 hv l ha hdb he hpl
end
section
variable{X:Cx}{tg:Expr}
end
theorem qQ{X:Cx}{K:W.Frag}(h:X.K=K):xS X (.builtin "len") (fun xs H Q=>∃p,xs= [.ref p]∧∃ys,SqL K H p ys∧Q (.int ys.length) H):=by subst h;exact zY
end L2
namespace L2
open PySem PySem.Spec PyProof.Rows PySem.W
def PEat(X:Cx)(σ:St)(e:Expr)(t:TE):Prop:=
 ∀(pins:List (Addr×Obj))(s:Shared)(H:Hp)(Q:VK),Inv X pins σ H s→t σ H Q→wpAny (model X.prog X.w) X.A (eval e X.env) (EP X pins σ Q) X.xe s
def PSat(X:Cx)(σ:St)(st:List Stmt)(t:TS):Prop:=
 ∀(pins:List (Addr×Obj))(s:Shared)(H:Hp)(D:gR),Inv X pins σ H s→t D σ H→wpAny (model X.prog X.w) X.A (execs st X.env) (SP X pins D) X.xe s
def zDj(CX:CXT)(X:Cx)(σ:St)(E:XK):Prop:=∀(pins:List (Addr×Obj))(H:Hp)(s:Shared)(e:Value)(s':Shared),Inv X pins σ H s→CX X.stack H s E e s'→X.xe e s'
section
variable{X:Cx}{CX:CXT}{k j:Nat}{f:Addr}{fd:FuncData}{ps:List Str}{sp:Sp}{dvs:List V}{ds:List Value}{E:XK}{x:Str}{p pos:Pos}{e:Expr}{es:List Expr}{t:TA}{te:TE}{σ:St}
theorem zRy{pins:List (Addr×Obj)}{H:Hp}{s:Shared}{Q:VK}{us:List Value}{vs:List V}(F:FnOk X.prog X.w X.K X.mg X.base CX k f fd ps sp)(hr:Room k X.A)(hb:Binds X.K fd ps ds)(hd:Vals dvs ds)(hx:zDj CX X σ E)
  (I:Inv X pins σ H s) (r:Vals vs us) (h:sp (vs++dvs) H Q E):wpAny (model X.prog X.w) X.A (call (.ref f) us) (EP X pins σ Q) X.xe s:=by
 have r2:Vals (vs++dvs) (us++ds):=r.append hd;have hl:(us++ds).length=ps.length:=by rw[←r2.length];exact F.len _ _ _ _ h
 refine bF (sH (F.run X.A X.stack s H ⟨us,[]⟩ (us++ds) (vs++dvs) Q E hr I.env0 (hb s us I.kIn hl) r2 h) fun r s' hq=>?_)
 cases r with
 | error e=>exact hx pins H s e s' I hq
 | ok fl=>
  cases fl with
  | ret u=>exact I.after hq
  | next=>exact False.elim hq
  | brk=>exact False.elim hq
  | cont=>exact False.elim hq
theorem zMe{φ:Value→Prop}(D:Dx φ X.prog X.w X.K X.mg X.base k x ps sp)(hr:Room j X.A)(hj:k≤j)(hg:Gl X x)(l:zDj (CXE φ X.prog X.w) X σ E)(ha:PA X (e::es) t)(hdb:(x==("__debug__" :Str))=false:=by decide)
  (he:starEach (e::es) X.env=(false,eval e X.env)::starEach es X.env:=by rfl) (hpl:(backTo pos (starEach es X.env)).any (·.1)=false:=by rfl):PEat X σ (.Call (.Name x p) (e::es) [] pos) (qV sp [] E t):=by
 obtain⟨f,fd,h1,h2,h3,h4⟩:=D.ex;intro pins s H Q I h;refine rE (vT I hg h4 ?_ hdb);refine PySem.W.callWith_K (h₀:=X.base) I.ok.mod.kin h3 (thn (ha pos pins s σ H _ I h) fun us s1 ⟨vs,H1,I1,r,q⟩=>⟨I1.kIn, ?_⟩) he hpl;exact zRy h1 (hr.mono hj) h2 .nil l I1 r q
theorem zCm{i:Nat}{pos':Pos}(hN:X.N.Nodup)(hi:X.N[i]? =some x)(hx:Loc X.env.scope x)(he:PEat X σ e te)(hs:swapsWith e (some (.Name x pos')) pos.line X.env=pure false:=by rfl)(hf:X.fn x=true∨X.env.scope.names.lookup x=some .local:=by first | exact .inl rfl | exact .inr rfl | assumption):
  PSat X σ [.Assign [.Name x pos'] e pos] (zIj te (wY i)):=by
 intro pins s H D I h;refine bE (dZ (thn (he pins s H _ I h) fun v s1 ⟨y,H1,I1,r1,q1⟩=>?_) hs);exact kH I1 hN hi hx r1 (fun s2 I2=>tQ ⟨_,H1,I2,q1⟩) hf
end
section
variable{X:Cx}{B:Addr}{bn:Str}{body suite:List Stmt}{b₀:Stmt}{bp hp pos:Pos}{tb:XK→TS}{ts:TS}{φ:Value→Prop}
abbrev Cx.markP(X:Cx)(v:Value)(p:Addr×Obj):Cx:={X with A:=X.A.mark (some v),calm:=false,cool:=false,pn:=p::X.pn,xe:=fun _ _=>False}
def zPa(K:Frag)(B:Addr)(ts:TS)(D:gR)(σ:St):XK:=fun C d H2=>∃Ca,C= .ref Ca∧exmOne K (.ref Ca) (.ref B)=some true∧ts D σ H2
def zWa(K:Frag)(B:Addr)(tb:XK→TS)(ts:TS):TS:=fun D σ H=>tb (zPa K B ts D σ) D σ H
theorem zKq(hcalm:X.calm=true)(hgB:Gl X bn)(hmB:X.mg bn=some (.ref B))(hstk:X.stack=X.env::X.outer)(hf:X.env.frame=some X.env.locals)(hex:X.ex= [])
  (hb:∀pins W E σ,zDj (CXE φ X.prog X.w) (X.pend pins W) σ E→PSat (X.pend pins W) σ body (tb E)) (hφ:∀v,φ v→v= .none) (hsu:∀v p,HC (X.markP v p)→PSs (X.markP v p) (b₀::suite) ts) (hdb:(bn==("__debug__" :Str))=false:=by decide):
  PS X (.Try body [.ExceptHandler (some (.Name bn bp)) none (b₀::suite) hp] [] [] pos) (zWa X.K B tb ts):=by
 intro pins s σ H D I h;refine wpAny_Try_except ?_;have J:=hb pins (fun e s'=>∃H1 s1,Inv X pins σ H1 s1∧CXE φ X.prog X.w X.stack H1 s1 (zPa X.K B ts D σ) e s') (zPa X.K B ts D σ) σ
  (fun pins' H' s1 e s' I1 hx=>⟨H',s1,I1.unpend I.ok,hx⟩) [] s H D I.pend h
 refine rF J (fun f s1 q=>?_) fun e s1 ⟨H0,s0,I0,hx⟩=>?_
 ·cases f with
  | next=>obtain⟨σ',H',I',q⟩:=q;exact tQ ⟨σ',H',I'.unpend I.ok,q⟩
  | brk=>obtain⟨σ',H',I',q⟩:=q;exact⟨σ',H',I'.unpend I.ok,q⟩
  | cont=>obtain⟨σ',H',I',q⟩:=q;exact⟨σ',H',I'.unpend I.ok,q⟩
  | ret u=>obtain⟨v,σ',H',I',r,q⟩:=q;exact⟨v,σ',H',I'.unpend I.ok,r,q⟩
 obtain⟨x,T,C,d,a0,H',rfl,os,bare,un,hok,hx0,hT0,hHx,hHT,fl,Ca,rfl,hexm,q⟩:=hx;have I2:Inv X pins σ H' s1:=I0.call' os un hok bare (fun b z=>absurd z (by simp));have nfr:∀b,s0.heap.get? b=none→b∉frs X.stack:=fun b hb z=>by
  obtain⟨o,e,_⟩:=zHf I0.stack b z;rw[hb] at e;cases e
 have hfr:=I0.ok.frames;have nx:=nfr x hx0;have nT:=nfr T hT0;have st:=I2.stack;rw[hstk] at hfr;have nx':=nx;have nT':=nT;rw[hstk] at nx' nT' st;refine zOb hfr st hf nx' nT' fl fun h1 T1 f1 k1 n1=>?_;refine qP f1 fun h2 f2 k2=>?_;rw[←hstk] at k1;have hT1H:H' T1=none:=by
  cases e:H' T1 with
  | none=>rfl
  | some o=>
   obtain⟨ob,hob⟩:=ObjOk.got (I2.hok T1 o e);rw[n1] at hob;cases hob
 have hT10:s0.heap.get? T1=none:=by
  cases e:s0.heap.get? T1 with
  | none=>rfl
  | some o=>
   obtain⟨o',e'⟩:=un.there T1 o e (fun z=>nomatch z);rw[n1] at e';cases e'
 have k3:Kp (frs X.stack) [x,T,T1] s1.heap h2:=k1.trans (kX k2 fun b hb=>nomatch hb) fun c hc=>by
  rcases hc with z | z
  ·rcases mG.mp z with z | z
   ·rw[z];simp
   ·rw[mP.mp z];simp
  ·rw[mP.mp z.1];simp
 have all0:∀b∈ [x,T,T1],s0.heap.get? b=none∧H' b=none:=fun b hb=>by
  rcases mG.mp hb with z | z
  ·rw[z];exact⟨hx0,hHx⟩
  ·rcases mG.mp z with z | z
   ·rw[z];exact⟨hT0,hHT⟩
   ·rw[mP.mp z];exact⟨hT10,hT1H⟩
 have I3:Inv X pins σ H' {s1 with heap:=h2}:=I0.call' (s':={s1 with heap:=h2}) os (zOa un k3 fun b hb=>(all0 b hb).1) (zFv hok k3 I2.stkFree fun b hb=>(all0 b hb).2) bare (fun b z=>absurd z (by simp));have LT:Looks (model X.prog X.w) h2 (typeOf (.ref x)) (.ref Ca):=by
  obtain⟨oe,vs,oT,ts',e1,e2,_⟩:=f2;exact e2▸(Looks.ld e1).andThen .now
 refine wpAny_handleBy_cons (codeAny_handlers_test ?_) (by intro z;cases z);refine vT (X:=X.mark (.ref x)) (I3.mark) hgB hmB ?_ hdb;refine exm_one (M:=model X.prog X.w) I3.kIn LT hexm _ _ _ {s1 with heap:=h2} (fun _ _ e=>e) ?_;refine codeAny_handlers_suite ?_;refine qP f2 fun h3 f3 k4=>?_;have k5:Kp (frs X.stack) [x,T,T1] s1.heap h3:=k3.trans (kX k4 fun b hb=>nomatch hb) fun c hc=>by
  rcases hc with z | z
  ·exact z
  ·rw[mP.mp z.1];simp
 have I4:Inv X pins σ H' {s1 with heap:=h3}:=I0.call' (s':={s1 with heap:=h3}) os (zOa un k5 fun b hb=>(all0 b hb).1) (zFv hok k5 I2.stkFree fun b hb=>(all0 b hb).2) bare (fun b z=>absurd z (by simp));obtain⟨oe,vs,oT,ts',e1,e2,e3,e4,_,_,_,_,_,_,cx,e5,e6⟩:=f3;have e7:=hφ cx e6;subst e7;have I5:Inv (X.markP (.ref x) (x,oe)) pins σ H' {s1 with heap:=h3}:=by
  have ok:=I4.ok;refine⟨⟨ok.mod,ok.kind,ok.glob,ok.blt,ok.above,ok.inj,ok.has,ok.cab,⟨(fun z=>nomatch z),fun z=>nomatch z⟩,ok.frames,ok.stk,ok.exf,ok.bs,ok.bsz,ok.noex,ok.exfs,ok.funs,ok.frf⟩,I4.os,I4.bare,I4.base,I4.loc,I4.cell,I4.free,I4.freeC,fun p hp=>?_,I4.hok,I4.len⟩;rcases mG.mp hp with z | z
  ·subst z
   refine⟨e1,hHx,fun z=>?_,fun z=>nx (by rw[hstk];unfold frs;rw[rB,hf];exact mH _ z),fun v z=>by rw[e4] at z;cases z⟩;obtain⟨m,⟨o,_,_,ho,_⟩,_⟩:=I0.loc;have z:x=X.env.locals:=z;rw[←z,hx0] at ho;cases ho
  ·exact I4.pin p z
 have hhc:HC (X.markP (.ref x) (x,oe)):=fun pins' σ' H5 s5 I v e=>by
  have e:some (Value.ref x)=some v:=e;cases e;obtain⟨b1,b2,b3,b4,b5⟩:=I.pin (x,oe) (pT _ mF);exact⟨x,oe,Ca,vs,rfl,b1,e2,e4,e5,b2,I.notStk b3 b4,fun z=>nomatch z⟩
 have back:∀{σ':St}{H5:Hp}{s5:Shared},Inv (X.markP (.ref x) (x,oe)) pins σ' H5 s5→Inv X pins σ' H5 s5:=fun I8=>⟨I.ok,I8.os,I8.bare,I8.base,I8.loc,I8.cell,I8.free,I8.freeC,fun p hp=>I8.pin p (mH _ hp),I8.hok,I8.len⟩;refine rF (hsu (.ref x) (x,oe) hhc pins _ σ _ _ I5 q) (fun f s5 z=>?_) fun _ _ z=>False.elim z
 cases f with
 | next=>
  obtain⟨σ5,H5,I8,q5⟩:=z;exact⟨σ5,H5,back I8,q5⟩
 | brk=>
  obtain⟨σ5,H5,I8,q5⟩:=z;exact⟨σ5,H5,back I8,q5⟩
 | cont=>
  obtain⟨σ5,H5,I8,q5⟩:=z;exact⟨σ5,H5,back I8,q5⟩
 | ret u=>
  obtain⟨v,σ5,H5,I8,r5,q5⟩:=z;exact⟨v,σ5,H5,back I8,r5,q5⟩
end
end L2
namespace L2
open PySem PySem.Spec PyProof.Rows PySem.W
theorem RoomH.hu{k:Nat}{A:Around}(hr:RoomH k A):A.units+1<cLine:=by have:=hr.un;lia
theorem FnOkH.fn{P:Program}{w:World}{K:Frag}{mg:Str→Option Value}{base:Heap}{k:Nat}{f:Addr}{fd:FuncData}{ps:List Str}{sp:Sp}(F:FnOkH P w K mg base k f fd ps sp):FnOk P w K mg base CX0 k f fd ps sp:=
 ⟨F.len,fun A outer s H args us vs Q E hr=>F.run A outer s H args us vs Q E ⟨hr.dp,hr.un⟩ (HnAt.none hr.hd)⟩
theorem Dh.dn{P:Program}{w:World}{K:Frag}{mg:Str→Option Value}{base:Heap}{k:Nat}{x:Str}{ps:List Str}{sp:Sp}(D:Dh P w K mg base k x ps sp):Dn P w K mg base k x ps sp:=by
 obtain⟨f,fd,F,a,b,c⟩:=D.ex;exact⟨f,fd,F.fn,a,b,c⟩
end L2
namespace L2
open PySem PySem.Spec PyProof.Rows
section
variable{X:Cx}
def rInLL:R2:=fun x y H Q=>∃(a p:Addr)(xs:List V)(ps:List Addr),x= .ref a∧y= .ref p∧H a=some (.lst xs)∧xs.all qR=true∧H p=some (.lst (ps.map V.ref))∧(∀b∈ps,b≠a∧∃ys,H b=some (.lst ys)∧ys.all qR=true∧zAh ys xs=false)∧Q (.bl false) H
theorem zRh(hu:X.A.units+1<cLine):OpR X (compareOp .In) rInLL:=by
 intro pins s σ H x y v u Q I rx ry h;obtain⟨a,p,xs,ps,rfl,rfl,ha,fx,hp,hps,q⟩:=h;cases rx;cases ry;obtain⟨its,r,pl,hz⟩:=I.list (SqL.of (K:=X.K) hp);obtain⟨jts,rv,pl2,hz2⟩:=I.list (SqL.of (K:=X.K) ha);refine SeqAt.in_listAt (fun _=>false) pl.isList (fun w hw=>?_) ⟨.bl false,H,I, ?_,q⟩
 ·obtain⟨b,hb,rfl⟩:∃b∈ps,w= .ref b:=by
   have hw':w∈its:=by simpa using hw
   clear hw pl hz hp hps
   induction its generalizing ps with
   | nil=>cases hw'
   | cons i its ih=>
    cases ps with
    | nil=>cases r
    | cons y ps=>
     cases r with
     | cons r1 r2=>
      rcases mG.mp hw' with e | e
      ·exact⟨y,mF,e.trans r1⟩
      ·obtain⟨b,h1,h2⟩:=ih ps r2 e
       exact⟨b,mH _ h1,h2⟩
  obtain⟨ne,ys,hb1,fy,hne⟩:=hps b hb;obtain⟨kts,rk,pl3,hz3⟩:=I.list (SqL.of (K:=X.K) hb1);have l1:=rk.length;have l2:=rv.length;refine .of_refs ne fun prog w E Q hq=>?_
  by_cases e:ys.length=xs.length
  ·refine SeqAt.eq_listAt pl3.isList pl2.isList (by simp only[nG];lia) (by show X.A.units+1<cLine;exact hu) (zIv rk rv fy fx) ?_
   rw[nG,←l1,gX ys xs e,hne];exact hq
  ·refine SeqAt.eq_list_lengthsAt pl3.isList pl2.isList (by simp only[nG];simpa [←l1,←l2] using e) (by show X.A.units+1<cLine;exact hu) hq
 ·show Value.bool (its.toArray.any fun _=>false)=Value.bool false
  congr 1
  simp
end
end L2
namespace L2
open PySem PySem.Spec PyProof.Rows
theorem pS{X:Cx}{pos pos':Pos}{x:Str}{e:Expr}{te:TE}(i:Nat)(hN:X.N.Nodup)(he:PE X e te)(hi:X.N[i]? =some x:=by rfl)(hx:Loc X.env.scope x:=by exact nO rfl)(hs:swapsWith e (some (.Name x pos')) pos.line X.env=pure false:=by rfl)(hf:X.fn x=true∨X.env.scope.names.lookup x=some .local:=by first | exact .inl rfl | exact .inr rfl | assumption):PS X (.Assign [.Name x pos'] e pos) (zIj te (wY i)):=zHv hN hi hx he hs hf
theorem pD{X:Cx}{k j:Nat}{x:Str}{ps:List Str}{sp:Sp}{e:Expr}{es:List Expr}{t:TA}{p pos:Pos}(D:Dn X.prog X.w X.K X.mg X.base k x ps sp)(hr:Room j X.A)(ha:PA X (e::es) t)(hj:k≤j:=by first | decide | lia)(hg:Gl X x:=by rfl)(hdb:(x==("__debug__" :Str))=false:=by decide)
  (he:starEach (e::es) X.env=(false,eval e X.env)::starEach es X.env:=by rfl) (hpl:(backTo pos (starEach es X.env)).any (·.1)=false:=by rfl):PE X (.Call (.Name x p) (e::es) [] pos) (qV sp [] E0 t):=pe_cd D hr hj hg ha hdb he hpl
theorem pI{X:Cx}{x0 x:Str}{T:String}{e:Expr}{te:TE}{p p2 pos:Pos}(h0:X.mg x0=none)(b0:bootBuiltins x0=some (.builtin "isinstance"))(hm:X.mg x=none)(hb:bootBuiltins x=some (.type T))(he:PE X e te)(hT:T∈tyL:=by decide)(g1:Gl X x0:=by rfl)(g2:Gl X x:=by rfl)(hn0:x0≠ "__name__":=by decide)(hd0:(x0==("__debug__" :Str))=false:=by decide)(hn:x≠ "__name__":=by decide)(hd:(x==("__debug__" :Str))=false:=by decide)
  (h1:starEach [e, .Name x p2] X.env=(false,eval e X.env)::starEach [.Name x p2] X.env:=by rfl) (h2:(backTo pos (starEach [.Name x p2] X.env)).any (·.1)=false:=by rfl):PE X (.Call (.Name x0 p) [e, .Name x p2] [] pos) (tCB (fun xs H Q=>∃x t,xs= [x, .ty T]∧tyS H x=some t∧Q (.bl (zN t T)) H) (zAy te (zAy (tC (.ty T)) zHx))):=
 zM (zBy hT) g1 h0 b0 (zA he (zA (wJ (v:=.ty T) g2 hm hb rfl hn hd) zB) h1) hn0 hd0 h1 h2
theorem len1{α:Type}{us:List α}(h:us.length=1):∃a,us= [a]:=
 match us,h with
 | [a],_=>⟨a,rfl⟩
theorem len2{α:Type}{us:List α}(h:us.length=2):∃a b,us= [a,b]:=
 match us,h with
 | [a,b],_=>⟨a,b,rfl⟩
theorem len3{α:Type}{us:List α}(h:us.length=3):∃a b c,us= [a,b,c]:=
 match us,h with
 | [a,b,c],_=>⟨a,b,c,rfl⟩
theorem len4{α:Type}{us:List α}(h:us.length=4):∃a b c d,us= [a,b,c,d]:=
 match us,h with
 | [a,b,c,d],_=>⟨a,b,c,d,rfl⟩
end L2
section
open PySem L2
local macro_rules | `(tactic| walk_at "b") => `(tactic| (intro _ F; refine F.binds ?_; intro _ _ _ _ _ _ us hl; first | (obtain ⟨_,e⟩ := len1 hl; subst e; rfl) | (obtain ⟨_,_,e⟩ := len2 hl; subst e; rfl) | (obtain ⟨_,_,_,e⟩ := len3 hl; subst e; rfl) | (obtain ⟨_,_,_,_,e⟩ := len4 hl; subst e; rfl) | (cases List.eq_nil_of_length_eq_zero hl; rfl)))
local macro_rules | `(tactic| walk_at "ln") => `(tactic| (intro vs H Q E h; repeat (first | (obtain ⟨e,_⟩ := h; subst e; rfl) | (obtain ⟨_,h⟩ := h))))
local macro_rules | `(tactic| walk_at "rd3") => `(tactic| first | (dsimp only [zSs,zJt,zWe,iZip,tIsT,zQw,zDu,yAm,zUa,zSl,zQz,zVo,zJf,zMy,zTc,zEi,zQr,zRs,zIj,wY,zXy,zZb,yBe,zSt,tOp,tUn,zBh,tC,qV,zAy,zHx,zNj,tB,yAs,tOr,zZx,zVe,yCi,zUm,tIf,tCB,tBM,zEi,zAu,zTu,zHm,tSl,zGe,yCl,zRl,zZj,yCq,zSp,zMn,zLm,rI0,rI,rU,rEq,rNe,zSr,yCf,zUj,yBb,yAa,CMul,yCe,zWx,List.getElem?_cons_zero,List.getElem?_cons_succ,List.set_cons_zero,List.set_cons_succ,List.map_cons,List.map_nil,List.length_cons,List.length_nil,Nat.reduceAdd,Option.join_some,Option.join_none]; try walk_at "rd3s") | walk_at "rd3s")
local macro_rules | `(tactic| walk_at "rd3s") => `(tactic| simp only [zSs,zJt,zWe,iZip,tIsT,zQw,zDu,yAm,zUa,zSl,zQz,zVo,zJf,zMy,zTc,zEi,yBh,nox_K,zTh,zQr,zRs,zIj,wY,zXy,zZb,yBe,zSt,tOp,tUn,zBh,tC,qV,zAy,zHx,zNj,tB,yAs,tOr,zZx,zVe,yCi,zUm,tIf,tCB,tBM,zEi,zAu,zTu,zHm,tSl,zGe,yCl,zRl,zZj,yCq,zXq,zSp,zMn,zLm,rI0,rI,rU,rEq,rNe,zSr,yCf,zUj,yBb,yAa,CMul,yCe,zWx,List.append_nil,List.getElem?_cons_zero,List.getElem?_cons_succ,List.set_cons_zero,List.set_cons_succ,List.map_cons,List.map_nil,List.length_cons,List.length_nil,sizeLine_eq,Nat.reduceAdd,Nat.reduceLeDiff,Option.join_some,Option.join_none,Option.some.injEq,V.int.injEq,V.str.injEq,V.bl.injEq,V.ref.injEq,V.ty.injEq,List.cons.injEq,and_true,true_and,and_self,exists_eq_left',exists_eq_left,exists_and_left,exists_and_right,decide_eq_true_eq,Bool.not_eq_eq_eq_not,Bool.not_true,Bool.not_false,decide_eq_false_iff_not,Int.reduceLT,Int.reduceLE,Int.reduceNeg,Int.reducePow,Int.reduceAdd,Int.reduceSub,Int.reduceMul,Int.reduceToNat,zTs,Nat.reduceLT,Nat.reducePow,or_true,true_or,if_true,if_false,Bool.false_eq_true,ite_true,ite_false,reduceCtorEq])
local macro_rules | `(tactic| walk_at "sc") => `(tactic| exact ⟨rfl,rfl,rfl,by decide +kernel,rfl,by decide +kernel,by decide +kernel⟩)
local macro_rules | `(tactic| walk_at "st") => `(tactic| simp only [qH,List.map_cons,List.map_nil,List.length_cons,List.length_nil,Nat.reduceAdd,Nat.reduceSub,List.replicate_succ,List.replicate_zero,List.cons_append,List.nil_append])
local macro_rules | `(tactic| walk_at "wu") => `(tactic| with_unfolding_all rfl)
namespace K38
open PySem L2
seal L2.PSs L2.PS L2.PE L2.PT L2.PW L2.PA L2.PI L2.PG L2.PGs L2.PPs L2.PTs
def top(i:Nat):Stmt:=PySem.Challenge.pw_cabinet_k38_whole_paths_and_changes.main.body.getD i (.Pass ⟨0,0,0,0⟩)
abbrev zSz:Stmt:=top 54
abbrev yCa:Stmt:=top 58
def jV(K:W.Frag):Sp:=fun vs H Q _=>∃(a:Addr)(ns:List Int)(k:Int),vs= [.ref a, .int k]∧SqL K H a (ns.map V.int)∧ns.length≤63∧0≤k∧k<1000000∧∀H',Same H H'→Q (.int (yO ns k)) H'
theorem vI{K:W.Frag}{H:Hp}{Q:VK}{E:XK}{a:Addr}{ns:List Int}{k:Int}(hS:SqL K H a (ns.map V.int))(h63:ns.length≤63)(h0:0≤k)(h1:k<1000000)(q:∀H',Same H H'→Q (.int (yO ns k)) H'):
  jV K [.ref a, .int k] H Q E:=⟨a,ns,k,rfl,hS,h63,h0,h1,q⟩
section
variable{P:Program}{w:World}{K:W.Frag}{mg:Str→Option Value}{base:Heap}{f:Addr}{fd:FuncData}
theorem scCell:zP ["_law_script","_law_k","_law_more"] ["_law_script","_law_k"] (zH zSz):=by walk_at "sc"
theorem zWh(F:Fun K "_law_cell" "_law_cell" zSz f fd)(B:Bl mg):FnOk P w K mg base CX0 1 f fd ["_law_script","_law_k"] (jV K):=by
 refine F.ok scCell (by walk_at "ln") fun c A o s H vs Q E hr h=>?_;obtain⟨a,ns,k,rfl,hS,h63,h0,h1,q⟩:=h;have nd:=scCell.nd;have hu0:=hr.units0;refine⟨_,(zC (pS 2 nd (zK vV (pv 1) zD))
  (zC (zR (zU (zBp hu0) (pv 0) (yT zB) (zQ _)) (zC (pS 2 nd (zK yP (pv 2) (zK vV (zK yA (pv 1) (zM zY rfl B.len yH (zA (pv 0) zB))) zD)))
  (zF (pS 2 nd (zK yC (zK yP (pv 2) (zK vV (yE ix_list (pv 0) (zK yC (pv 1) (zM zY rfl B.len yH (zA (pv 0) zB))) (fun _ _=>rfl)) zD)) zD)))) zL)
  (zF (zJ (zK yC (zK yP (zK yA (zK vV (pv 2) (pv 2)) zD) (zK vV zD (pv 2))) zD))))), ?_⟩
 walk_at "st";walk_at "rd3";intro p hp;have hS':=(zG hp (.lst [])).seq hS;refine yAl hS' (SqL.of zE) (zPm ns) rfl ⟨_,rfl, ?_⟩;rw[zTb]
 by_cases hn:ns= []
 ·subst hn
  refine zIl ⟨.inl (by lia), ?_⟩;exact q _ (zG hp _)
 ·have hpos:0<ns.length:=dL.mpr hn
  have e1:(ns.map V.int).isEmpty=false:=by cases ns with | nil=>exact absurd rfl hn | cons _ _=>rfl
  rw[mK rfl,e1];have hl:(ns.map V.int).length=ns.length:=mJ _;have hm0:0≤k % (ns.length:Int):=aW _ (by lia);have hm1:k % (ns.length:Int)<ns.length:=tP _ (by lia);refine zZo ⟨ns.map V.int,hS',by rw[hl];lia,ns.map V.int,hS',by rw[hl];lia, ?_⟩;rw[hl];refine yK hS' (vW (d:=.int 0) hm0 (by rw[hl];exact hm1)) ⟨ns.getD (k % ns.length).toNat 0, ?_, .inl ?_, ?_⟩
  ·simp[List.getD,nI]
  ·generalize (k*7919+k / ns.length*104729+ns.getD (k % ns.length).toNat 0*48271)=z
   lia
  ·have e:yO ns k=_:=rfl
   have e2:yO ns k=(((k*7919+k / ns.length*104729+ns.getD (k % ns.length).toNat 0*48271)% 1000003*((k*7919+k / ns.length*104729+ns.getD (k % ns.length).toNat 0*48271)% 1000003)/ 11+13*((k*7919+k / ns.length*104729+ns.getD (k % ns.length).toNat 0*48271)% 1000003))% 1000003):=by
    unfold yO;rw[mI hn]
   rw[←e2];exact q _ (zG hp _)
def zOf:Sp:=fun vs H Q _=>∃(m:Int),vs= [.int m]∧0≤m∧m<2000000∧∀H',Same H H'→Q (.int (zPw m)) H'
theorem scNum:zP ["_law_more"] ["_law_more"] (zH yCa):=by walk_at "sc"
theorem zZf(F:Fun K "_law_number_by" "_law_number_by" yCa f fd):FnOk P w K mg base CX0 1 f fd ["_law_more"] zOf:=by
 refine F.ok scNum (by walk_at "ln") fun c A o s H vs Q E hr h=>?_;obtain⟨m,rfl,h0,h1,q⟩:=h;have nd:=scNum.nd;refine⟨_,(zC (zR (zU xM (zK yC (pv 0) zD) zD (zQ _)) (zF (zJ (zK vC (zK yC (zK yA (pv 0) zD) zD) zD))) zL)
  (zC (zR (zU xM (zK yC (pv 0) zD) zD (zQ _)) (zF (zJ (zK vC (zK yC (zK kS (pv 0) zD) (zK yP (zK vV zD (zK kS zD zD)) zD)) (zK kS zD zD)))) zL)
  (zF (zJ (yE ix_list (yT (zA (zK kS zD zD) (zA (wT xW (zK kS zD zD)) (zA (zK vC (zK kS zD zD) zD) (zA zD (zA zD (zA (wT xW zD) (zA (zK kS zD zD) (zA zD zB))))))))) (zK yC (zK yA (pv 0) zD) zD) (fun _ _=>rfl)))))), ?_⟩
 walk_at "st";walk_at "rd3";unfold zPw at q;split
 ·rename_i hc
  rw[mK hc] at q;exact q _ (Same.refl H)
 ·rename_i hc
  rw[mI hc] at q;split
  ·rename_i hd
   rw[mK hd] at q;exact⟨by lia,q _ (Same.refl H)⟩
  ·rename_i hd
   rw[mI hd] at q;intro p hp;refine yK (SqL.of zE) (vW (d:=.int 0) (by lia) (by simp only[mS,nX];lia)) ?_;have e:([V.int 1000000000000,V.int (-1000000000000),V.int 999999999999,V.int 0,V.int 1,V.int (-1),V.int 100000000000,V.int 999]:List V).getD (m / 3 % 8).toNat (.int 0)= .int (([1000000000000,-1000000000000,999999999999,0,1,-1,100000000000,999]:List Int).getD (m / 3 % 8).toNat 0):=by
    rcases(by lia:m / 3 % 8=0∨m / 3 % 8=1∨m / 3 % 8=2∨m / 3 % 8=3∨m / 3 % 8=4∨m / 3 % 8=5∨m / 3 % 8=6∨m / 3 % 8=7) with e | e | e | e | e | e | e | e<;>rw[e]<;>rfl
   rw[e];exact q _ (zG hp _)
abbrev zRv:Stmt:=top 55
def zCw:Sp:=fun vs H Q _=>∃(m:Int),vs= [.int m]∧0≤m∧m<2000000∧∀H',Same H H'→Q (.str (tx (kK m))) H'
theorem scName:zP ["_law_more","_law_letters","_law_size","_law_at","_law_word","_law_rest"] ["_law_more"] (zH zRv):=by walk_at "sc"
theorem zWi(F:Fun K "_law_name_by" "_law_name_by" zRv f fd)(B:Bl mg):FnOk P w K mg base CX0 1 f fd ["_law_more"] zCw:=by
 refine F.ok scName (by walk_at "ln") fun c A o s H vs Q E hr h=>?_;obtain⟨m,rfl,h0,h1,q⟩:=h;have nd:=scName.nd;refine⟨_,(zC (zHv (i:=1) nd rfl (cF rfl) zV)
  (zC (pS 2 nd (yE ix_list (yT (zA zD (zA (zK yP zD (zK yC (zK yA (pv 0) zD) zD)) (zA (zK yP zD (zK yC (zK yA (pv 0) zD) zD)) zB)))) (zK yC (pv 0) zD) (fun _ _=>rfl)))
  (zC (zR (zU xM (zK yC (zK yA (pv 0) zD) zD) zD (zQ _)) (zC (pS 3 nd (zK yC (zK yA (pv 0) zD) (pv 2)))
  (zC (pS 4 nd (zK xI (zK xI (zK qE zV (pv 3)) (yE kF (pv 1) (zK yC (zK yA (pv 0) zD) zD) (fun _ _=>rfl))) (zK qE zV (zK vC (zK vC (pv 2) (pv 3)) zD))))
  (zF (zJ (pv 4))))) zL)
  (zC (pS 5 nd (uU tL cM cN zGz zV (zA (yV (own:=["_law_j"]) (F:=[("_law_letters",1),("_law_more",0)]) ⟨rfl,by walk_at "wu",by walk_at "wu",by walk_at "wu",(.cons rfl rfl rfl (.cons rfl rfl rfl .nil))⟩ rfl (xY rfl B.range (zA (zK vC (pv 2) zD) zB)) (fun _ _ _ _=>zW (i:=0) (by show(xK ["_law_j"] [("_law_letters",1),("_law_more",0)]).Nodup;decide+kernel) rfl (nO rfl)) (fun _ _ _ _=>yR) (fun _ _ _ _=>(yE kF (pv 1) (zK yC (zK yP (zK yA (pv 2) zD) (zK vV (pv 0) (zK yP zD (zK yC (zK yA (pv 2) zD) zD)))) zD) (fun _ _=>rfl)))) zB)))
  (zF (zJ (zK xI (yE kF (pv 1) (zK yC (zK yA (pv 0) zD) zD) (fun _ _=>rfl)) (pv 5)))))))), ?_⟩
 walk_at "st";walk_at "rd3";intro p hp;obtain⟨n1,n12⟩:=zOh m;refine yK (SqL.of zE) (zVu m) ?_;simp only[ts_a,zBi,zLv];unfold kK at q;generalize zAl m=n at*;split
 ·rename_i hc
  rw[mK hc] at q;have a0:=aW (m / 72) (show n≠0 by lia);have a1:=tP (m / 72) (show 0<n by lia);refine⟨n,rfl,by lia,by decide,by lia,by lia,kT (by decide) (by rw[zGu];exact zHk (by lia) (by lia)) ⟨_,rfl, ?_,n,rfl,by decide,by lia,by lia, ?_, ?_⟩⟩
  ·rw[yN,yN];simp only[sA,nB];lia
  ·rw[vD,yN,yN];simp only[mL,sA,nB];lia
  ·rw[vD,vD]
   exact q _ (zG hp _)
 ·rename_i hc
  rw[mI hc] at q;refine⟨rfl,n,rfl,by lia,by lia,vK (fun i ys H'=>Same (upd H p (.lst [V.int 1,V.int (1+m / 3 % 4),V.int (1+m / 3 % 12)])) H'∧ys=((zCl m i).map fun c=>tx [c]).map V.str) (by rw[mU];lia) ⟨Same.refl _,rfl⟩ ?_ ?_⟩
  ·rintro i ys H' hi _ ⟨hs,rfl⟩
   walk_at "rd3";refine⟨.inl (by lia),kT (by decide) (by rw[zGu];exact zHk (by lia) (by lia)) ⟨hs, ?_⟩⟩;unfold zCl;rw[uA];simp
  ·rintro ys H' hl ⟨hs,rfl⟩ p' hp'
   have hrl:(zCl m (n - 1).toNat).length=(n - 1).toNat:=by simp[zCl]
   refine⟨p',(zCl m (n - 1).toNat).map fun c=>tx [c],rfl,rfl,SqL.of zE,by rw[kC];lia,kT (by decide) (by rw[zGu];exact zHk (by lia) (by lia)) ⟨_,rfl,_,rfl, ?_, ?_⟩⟩
   ·rw[kC,yN,yN,nB];lia
   ·rw[kC,vD]
    exact q _ ((zG hp _).trans (hs.trans (zG hp' _)))
abbrev zLf:Stmt:=top 56
abbrev zSo:Stmt:=top 57
def zMw:Sp:=fun vs H Q _=>vs= []∧Q (.str (tx sgnL)) H
theorem scSigns:zP ["_law_some"] [] (zH zLf):=by walk_at "sc"
theorem zRr(F:Fun K "_law_signs" "_law_signs" zLf f fd):FnOk P w K mg base CX0 1 f fd [] zMw:=by
 refine F.ok scSigns (by walk_at "ln") fun c A o s H vs Q E hr h=>?_;obtain⟨rfl,q⟩:=h;have nd:=scSigns.nd;refine⟨_,(zC (pS 0 nd zV)
  (zF (zJ (zK xI (pv 0) zV)))), ?_⟩
 walk_at "st";walk_at "rd3";refine⟨by decide, ?_⟩;rw[yCt];exact q
def zHc:Sp:=fun vs H Q _=>∃(m:Int),vs= [.int m]∧0≤m∧m<2000000∧∀H',Same H H'→Q (.str (tx (zIk m))) H'
theorem scText:zP ["_law_more","_law_signs_here","_law_size"] ["_law_more"] (zH zSo):=by walk_at "sc"
theorem zWc(F:Fun K "_law_text_by" "_law_text_by" zSo f fd)(B:Bl mg)(G_law_signs:Dn P w K mg base 1 "_law_signs" [] zMw):FnOk P w K mg base CX0 2 f fd ["_law_more"] zHc:=by
 refine F.ok scText (by walk_at "ln") fun c A o s H vs Q E hr h=>?_;obtain⟨m,rfl,h0,h1,q⟩:=h;have nd:=scText.nd;refine⟨_,(zC (zHv (i:=1) nd rfl (cF rfl) (zZr G_law_signs hr (by lia) rfl))
  (zC (pS 2 nd (yE ix_list (yT (zA (zK yC (zK yA (pv 0) zD) zD) (zA (zK yC (zK yA (pv 0) zD) zD) (zA (zK yC (zK yA (pv 0) zD) zD) zB)))) (zK yC (pv 0) zD) (fun _ _=>rfl)))
  (zC (zR (zU xM (zK yC (zK yA (pv 0) zD) zD) zD (zQ _)) (zF (zJ (zK xI (zK qE zV (zK yA (pv 2) zD)) (zK qE (yE kF (pv 1) (zK yC (zK yA (pv 0) zD) zD) (fun _ _=>rfl)) (zK vC (pv 2) (zK yA (pv 2) zD)))))) zL)
  (zF (zJ (uU tL cM cN zGz zV (zA (yV (own:=["_law_j"]) (F:=[("_law_signs_here",1),("_law_more",0)]) ⟨rfl,by walk_at "wu",by walk_at "wu",by walk_at "wu",(.cons rfl rfl rfl (.cons rfl rfl rfl .nil))⟩ rfl (xY rfl B.range (zA (pv 2) zB)) (fun _ _ _ _=>zW (i:=0) (by show(xK ["_law_j"] [("_law_signs_here",1),("_law_more",0)]).Nodup;decide+kernel) rfl (nO rfl)) (fun _ _ _ _=>yR) (fun _ _ _ _=>(yE kF (pv 1) (zK yC (zK yP (zK yA (pv 2) zD) (zK vV (pv 0) (zK yP zD (zK yC (zK yA (pv 2) zD) zD)))) zD) (fun _ _=>rfl)))) zB))))))), ?_⟩
 walk_at "st";walk_at "rd3";refine⟨rfl,fun p hp=>?_⟩;obtain⟨n0,n30⟩:=zNx m;refine yK (SqL.of zE) (zWs m) ?_;simp only[ts_q,zBi,zLv];unfold zIk at q;generalize zEa m=n at*;split
 ·rename_i hc
  rw[mK hc] at q;refine⟨n,rfl,by decide,by lia,by lia,kT (by decide) (zUb (by lia) (by lia)) ⟨n,rfl,n,rfl,_,rfl,(show(1:Nat)≤1000 by decide),by lia,by lia, ?_, ?_⟩⟩
  ·rw[xD,zBi,yN,yN];simp only[sA];lia
  ·rw[xD,zBi,vD]
   exact q _ (zG hp _)
 ·rename_i hc
  rw[mI hc] at q;refine⟨rfl,n,rfl,by lia,by lia,vK (fun i ys H'=>Same (upd H p (.lst [V.int (m / 5 % 4),V.int (m / 5 % 9),V.int (m / 5 % 31)])) H'∧ys=((zMk m i).map fun c=>tx [c]).map V.str) (by rw[mU];lia) ⟨Same.refl _,rfl⟩ ?_ ?_⟩
  ·rintro i ys H' hi _ ⟨hs,rfl⟩
   walk_at "rd3";refine⟨.inl (by lia),kT (by decide) (zUb (by lia) (by lia)) ⟨hs, ?_⟩⟩;unfold zMk;rw[uA];simp
  ·rintro ys H' hl ⟨hs,rfl⟩ p' hp'
   have hrl:(zMk m n.toNat).length=n.toNat:=by simp[zMk]
   refine⟨p',(zMk m n.toNat).map fun c=>tx [c],rfl,rfl,SqL.of zE,by rw[kC];lia, ?_⟩;rw[kC];exact q _ ((zG hp _).trans (hs.trans (zG hp' _)))
abbrev zDd:Stmt:=top 59
def kY(K:W.Frag)(d:Nat):Sp:=fun vs H Q _=>∃(a:Addr)(ns:List Int)(k:Int),vs= [.ref a, .int k, .int d]∧SqL K H a (ns.map V.int)∧ns.length≤63∧0≤k∧(k+2)*5 ^ d≤1000000∧
 ∀v H',Same H H'→Rep H' v (thT ns d k)→Q v H'
theorem scThing:zP ["_law_script","_law_k","_law_deep_here","_law_more","_law_kind","_law_some","_law_found","_law_j"] ["_law_script","_law_k","_law_deep_here"] (zH zDd):=by walk_at "sc"
def DInv(nm:Nat→List Nat)(us:List T)(Hl:Hp)(p2:Addr)(i:Nat)(H2:Hp):Prop:=∃(ps:List (Key×V)),H2 p2=some (.dK ps)∧ps.map (·.1)=(uS nm us i).1.map nK∧Reps Hl (ps.map (·.2)) (uS nm us i).2
theorem pow5(e:Nat):(1:Int)≤5 ^ e:=by
 induction e with
 | zero=>decide
 | succ n ih=>rw[Int.pow_succ];lia
theorem zOj(F:Fun K "_law_thing_by" "_law_thing_by" zDd f fd)(B:Bl mg)(G_law_cell:Dn P w K mg base 1 "_law_cell" ["_law_script","_law_k"] (jV K))(G_law_number_by:Dn P w K mg base 1 "_law_number_by" ["_law_more"] zOf)
  (G_law_text_by:Dn P w K mg base 2 "_law_text_by" ["_law_more"] zHc):FnOk P w K mg base CX0 3 f fd ["_law_script","_law_k","_law_deep_here"] (kY K 0):=by
 refine F.ok scThing (by walk_at "ln") fun c A o s H vs Q E hr h=>?_;obtain⟨a,ns,k,rfl,hS,h63,h0,h1,q⟩:=h;have nd:=scThing.nd;refine⟨_,(zC (pS 3 nd (pD G_law_cell hr (zA (pv 0) (zA (pv 1) zB))))
  (zC (pS 4 nd (zK yC (pv 3) (yE ix_list (yT (zA zD (zA zD zB))) (yU zFn rfl B.int jL (zA (yG jW (pv 2) zD (zQ _)) zB)) (fun _ _=>rfl))))
  (zC (zR (zU xM (pv 4) zD (zQ _)) (zF (zJ (yE ix_list (yT (zA zAj (zA wA (zA wA zB)))) (zK yC (zK yA (pv 3) zD) zD) (fun _ _=>rfl)))) zL)
  (zC (zR (zU zBb (pv 4) zD (zQ _)) (zF (zJ (pD G_law_number_by hr (zA (zK yA (pv 3) zD) zB)))) zL)
  (zC (zR (zU zBb (pv 4) zD (zQ _)) (zF (zJ (pD G_law_text_by hr (zA (zK yA (pv 3) zD) zB)))) zL)
  gE))))), ?_⟩
 walk_at "st";walk_at "rd3";refine vI hS h63 h0 (by lia) fun H1 g1 p hp=>yK (SqL.of zE) (v:=.int 5) rfl ⟨_,rfl,5,rfl,by decide, ?_⟩;have c0:=jB ns k;have c1:=kG ns k;have gp:=g1.trans (zG hp (.lst [V.int 5,V.int 9]));split
 ·intro p2 hp2
  refine⟨_,rfl, ?_⟩;rename_i hc;obtain⟨v,hv,hr'⟩:=zKk (H:=upd (upd H1 p (.lst [V.int 5,V.int 9])) p2 (.lst [V.non,V.bl true,V.bl false])) (yO ns k);refine yK (SqL.of zE) hv (q _ _ (gp.trans (zG hp2 _)) ?_);show Rep _ v (jA (yO ns k) (yO ns k % 5));rw[hc];exact hr'
 ·split
  ·rename_i n0 hc
   refine⟨_,rfl,_,rfl,by lia,by lia,fun H2 g2=>q _ _ (gp.trans g2) ?_⟩;show Rep _ _ (jA (yO ns k) (yO ns k % 5));unfold jA;rw[mI n0,mK hc];rfl
  ·rename_i n0 n1
   rw[mK (by lia)];refine⟨_,rfl,_,rfl,by lia,by lia,fun H2 g2=>q _ _ (gp.trans g2) ?_⟩;show Rep _ _ (jA (yO ns k) (yO ns k % 5));unfold jA;rw[mI n0,mI n1];rfl
theorem zPg{e:Nat}(F:Fun K "_law_thing_by" "_law_thing_by" zDd f fd)(B:Bl mg)(G_law_cell:Dn P w K mg base 1 "_law_cell" ["_law_script","_law_k"] (jV K))(G_law_number_by:Dn P w K mg base 1 "_law_number_by" ["_law_more"] zOf)
  (G_law_text_by:Dn P w K mg base 2 "_law_text_by" ["_law_more"] zHc) (G_law_name_by:Dn P w K mg base 1 "_law_name_by" ["_law_more"] zCw)
  (G_law_thing_by:Dn P w K mg base (3+e) "_law_thing_by" ["_law_script","_law_k","_law_deep_here"] (kY K e)):FnOk P w K mg base CX0 (3+e+1) f fd ["_law_script","_law_k","_law_deep_here"] (kY K (e+1)):=by
 refine F.ok scThing (by walk_at "ln") fun c A o s H vs Q E hr h=>?_;obtain⟨a,ns,k,rfl,hS,h63,h0,h1,q⟩:=h;have nd:=scThing.nd;have hu:=jC hr;refine⟨_,(zC (pS 3 nd (pD G_law_cell hr (zA (pv 0) (zA (pv 1) zB))))
  (zC (pS 4 nd (zK yC (pv 3) (yE ix_list (yT (zA zD (zA zD zB))) (yU zFn rfl B.int jL (zA (yG jW (pv 2) zD (zQ _)) zB)) (fun _ _=>rfl))))
  (zC (zR (zU xM (pv 4) zD (zQ _)) (zF (zJ (yE ix_list (yT (zA zAj (zA wA (zA wA zB)))) (zK yC (zK yA (pv 3) zD) zD) (fun _ _=>rfl)))) zL)
  (zC (zR (zU zBb (pv 4) zD (zQ _)) (zF (zJ (pD G_law_number_by hr (zA (zK yA (pv 3) zD) zB)))) zL)
  (zC (zR (zU zBb (pv 4) zD (zQ _)) (zF (zJ (pD G_law_text_by hr (zA (zK yA (pv 3) zD) zB)))) zL)
  (zC (zFw (i:=5) nd rfl (nO rfl) (own:=["_law_j"]) (F:=[("_law_script",0),("_law_k",1),("_law_deep_here",2)]) ⟨rfl,by walk_at "wu",by walk_at "wu",by walk_at "wu",(.cons rfl rfl rfl (.cons rfl rfl rfl (.cons rfl rfl rfl .nil)))⟩ rfl (xY rfl B.range (zA (zK yC (zK yA (pv 3) zD) zD) zB)) (fun _ _ _ _=>zW (i:=0) (by show(xK ["_law_j"] [("_law_script",0),("_law_k",1),("_law_deep_here",2)]).Nodup;decide+kernel) rfl (nO rfl)) (fun _ _ _ _=>yR) (fun _ _ _ _=>(pD G_law_thing_by hr (zA (pv 1) (zA (zK yP (zK yP (zK vV (pv 2) zD) zD) (pv 0)) (zA (zK vC (pv 3) zD) zB))))))
  (zC (zR (zU zBb (pv 4) zD (zQ _)) (zF (zJ (pv 5))) zL)
  (zC (pS 6 nd zDe)
  (zC (qD PassesOwn.never rfl (xY rfl B.range (zA (zM zY rfl B.len yH (zA (pv 5) zB)) zB)) (zW (i:=7) nd rfl (nO rfl)) (zF (zFy hu (pv 6) (pD G_law_name_by hr (zA (zK yP (zK yA (pD G_law_cell hr (zA (pv 0) (zA (zK yP (zK yP (zK vV (pv 1) zD) zD) (pv 7)) zB))) zD) (pv 7)) zB)) (yE ix_list (pv 5) (pv 7) (fun _ _=>rfl)) rfl)))
  (zF (zJ (pv 6)))))))))))), ?_⟩
 walk_at "st";walk_at "rd3";have hpow:(1:Int)≤5 ^ e:=pow5 e;have hpow2:(5:Int)^ (e+1)=5 ^ e*5:=Int.pow_succ ..;have h2:(k+2)*5*5 ^ e≤1000000:=by rw[Int.mul_assoc,Int.mul_comm 5 (5 ^ e),←hpow2];exact h1
 have h3:(k+2)*5≤1000000:=by
  have:(k+2)*5*1≤(k+2)*5*5 ^ e:=aZ hpow (by lia)
  lia
 refine vI hS h63 h0 (by lia) fun H1 g1 p hp=>yK (SqL.of zE) (v:=.int 9) ?_ ⟨_,rfl,9,rfl,by decide, ?_⟩
 ·rw[mK (by lia)];rfl
 have c0:=jB ns k;have c1:=kG ns k;have gp:=g1.trans (zG hp (.lst [V.int 5,V.int 9]));split
 ·intro p2 hp2
  refine⟨_,rfl, ?_⟩;rename_i hc;obtain⟨v,hv,hr'⟩:=zKk (H:=upd (upd H1 p (.lst [V.int 5,V.int 9])) p2 (.lst [V.non,V.bl true,V.bl false])) (yO ns k);refine yK (SqL.of zE) hv (q _ _ (gp.trans (zG hp2 _)) ?_);unfold thT;rw[mK (by lia),hc];exact hr'
 ·split
  ·rename_i n0 hc
   refine⟨_,rfl,_,rfl,by lia,by lia,fun H2 g2=>q _ _ (gp.trans g2) ?_⟩;unfold thT jA;rw[mK (by lia),mI n0,mK hc];rfl
  ·split
   ·rename_i n0 n1 hc
    refine⟨_,rfl,_,rfl,by lia,by lia,fun H2 g2=>q _ _ (gp.trans g2) ?_⟩;unfold thT jA;rw[mK hc,mI n0,mI n1];rfl
   ·rename_i n0 n1 n5
    unfold thT at q;rw[mI n5] at q;have hnn:(yO ns k / 9 % 5).toNat≤4:=by lia
    refine⟨_,rfl,by lia,by lia,vK (fun i ys H'=>Same (upd H1 p (.lst [V.int 5,V.int 9])) H'∧Reps H' ys ((List.range i).map fun(j:Nat)=>thT ns e (k*5+1+(0+(j:Int))))) (by rw[mU];lia) ⟨Same.refl _,rfl⟩ ?_ ?_⟩
    ·rintro i ys H' hi _ ⟨hs,hR⟩
     walk_at "rd3";refine⟨a,ns,k*5+1+(0+(i:Int)), ?_,hs.seq (gp.seq hS),h63,by lia, ?_,fun v H2 g2 hv=>⟨hs.trans g2, ?_⟩⟩
     ·rw[show((e+1:Nat):Int)- 1=(e:Int) by lia]
     ·have:(k*5+1+(0+(i:Int))+2)*5 ^ e≤(k+2)*5*5 ^ e:=dC (by lia) (by lia)
      lia
     ·rw[uA]
      exact Reps.snoc hv (Reps.same g2 _ _ hR)
    ·rintro ys H' hl ⟨hs,hR⟩ p' hp'
     have gl:=gp.trans (hs.trans (zG hp' (.lst ys)));have hR':Reps (upd H' p' (.lst ys)) ys _:=Reps.same (zG hp' _) _ _ hR;have hlen:ys.length=(yO ns k / 9 % 5).toNat:=by rw[hR.length];simp
     generalize hus:((List.range (yO ns k / 9 % 5).toNat).map fun(j:Nat)=>thT ns e (k*5+1+(0+(j:Int))))=us at*;have hul:us.length=(yO ns k / 9 % 5).toNat:=by rw[←hus];simp
     by_cases h7:yO ns k % 9<7
     ·rw[mK h7]
      rw[mK h7] at q;exact q _ _ gl ⟨p',ys,rfl,zE,hR'⟩
     rw[mI h7];rw[mI h7] at q;intro p2 hp2;have gd:=zG hp2 (.dK []);have hSl:SqL K (upd (upd H' p' (.lst ys)) p2 (.dK [])) p' ys:=SqL.of (gd _ _ zE);refine⟨p',rfl,ys,hSl,by lia,by lia, ?_⟩;rw[nR];refine kD (fun i σ H2=>(∃o,σ= [some (V.ref a),some (V.int k),some (V.int ((e+1:Nat):Int)),some (V.int (yO ns k)),some (V.int (yO ns k % 9)),some (V.ref p'),some (V.ref p2),o])∧Same (upd H' p' (.lst ys)) H2∧DInv (zDx ns k) us (upd H' p' (.lst ys)) p2 i H2) ⟨⟨_,rfl⟩,gd,[],zE,rfl,rfl⟩ ?_ ?_
     ·rintro i σ H2 hi ⟨⟨o,rfl⟩,g2,ps,hd,hk,hU⟩
      walk_at "rd3";obtain⟨v,hv⟩:∃v,ys[i]? =some v:=⟨ys[i],by simp[hi]⟩;obtain⟨t,ht,hvt⟩:=hR'.get hv;have hut:us.getD i .non=t:=by rw[nS,ht];rfl
      refine yK (SqL.of (g2 _ _ zE)) (by rw[dD];exact yM hv) (vI (g2.seq (gl.seq hS)) h63 (by lia) (by lia) fun H3 g3=>?_);have c0':=jB ns (k*5+1+(0+(i:Int)));have c1':=kG ns (k*5+1+(0+(i:Int)));refine⟨_,rfl,_,rfl,by lia,by lia,fun H4 g4=>⟨_,DPut.k (k:=nK (zDx ns k i)) (g4 _ _ (g3 _ _ hd)) ?_,⟨_,rfl⟩, ?_, ?_⟩⟩
      ·have l1:=congrArg List.length hk
       have l2:=(zGa (zDx ns k) us (fun j=>kQ _) i (by lia)).2.2.2.2;simp only[mJ] at l1;rw[mU];lia
      ·intro b o' hb
       have hne:b≠p2:=fun z=>by rw[z,hp2] at hb;cases hb
       rw[zO hne];exact g4 _ _ (g3 _ _ (g2 _ _ hb))
      ·obtain⟨e1,e2⟩:=zKe (n:=zDx ns k i) hk hU hvt
       refine⟨_,zE, ?_, ?_⟩
       ·show _=(xZ (uS (zDx ns k) us i) (zDx ns k i) (us.getD i .non)).1.map nK
        rw[hut];exact e1
       ·show Reps _ _ (xZ (uS (zDx ns k) us i) (zDx ns k i) (us.getD i .non)).2
        rw[hut];exact e2
     ·rintro σ H2 ⟨⟨o,rfl⟩,g2,ps,hd,hk,hU⟩
      walk_at "rd3";rw[hlen] at hk hU;exact q _ _ (gl.trans g2) ⟨p2,ps,rfl,hd,hk,Reps.same g2 _ _ hU⟩
abbrev sCp:Stmt:=top 18
def zPc(n:Nat):Sp:=fun vs H Q _=>∃(v:V)(t:T),vs= [v]∧Rep H v t∧T.pure t∧T.dep t<n∧T.sz t≤100000∧∀v' H' D,Same H H'→Sp1 H' v' t D→(∀b∈D,H b=none)→Q v' H'
theorem scCp:zP ["thing"] ["thing"] (zH sCp):=by walk_at "sc"
theorem yCk{n:Nat}(F:Fun K "copied" "copied" sCp f fd)(B:Bl mg)(Gcopied:Dh P w K mg base (1+n) "copied" ["thing"] (zPc n)):FnOkH P w K mg base (1+n+1) f fd ["thing"] (zPc (n+1)):=by
 refine F.okh scCp (by walk_at "ln") fun c A o s H vs Q E hr h=>?_;obtain⟨v,t,rfl,hv,hp,hd,hz,q⟩:=h;have nd:=scCp.nd;have hu:=hr.hu;refine⟨_,(zC (zR (zT (pI B.isinstance zI B.list xT (pv 0))) (zF (zJ (yV (own:=["part"]) (F:=[]) ⟨rfl,by walk_at "wu",by walk_at "wu",by walk_at "wu", .nil⟩ rfl (xU (pv 0)) (fun _ _ _ _=>zW (i:=0) (by show(xK ["part"] []).Nodup;decide+kernel) rfl (nO rfl)) (fun _ _ _ _=>yR) (fun _ _ _ _=>(wV Gcopied hr (by lia) rfl (zA (pv 0) zB)))))) zL)
  (zC (zR (zT (pI B.isinstance zI B.dict xF (pv 0))) (zF (zJ (yU (zAw rfl) rfl B.dict xF (zA (uO (yV (own:=["name","part"]) (F:=[]) ⟨rfl,by walk_at "wu",by walk_at "wu",by walk_at "wu", .nil⟩ rfl (zSb (zVb aJ PySem.F.slot_dict_items PySem.F.type_dict_items zQm (pv 0))) (fun _ _ _ _=>zXi (K:=K) (n:=2) rfl rfl (uQ (zW (i:=0) (by show(xK ["name","part"] []).Nodup;decide+kernel) rfl (nO rfl)) (uQ (zW (i:=1) (by show(xK ["name","part"] []).Nodup;decide+kernel) rfl (nO rfl)) zNb))) (fun _ _ _ _=>yR) (fun _ _ _ _=>(gT (zA (pv 0) (zA (wV Gcopied hr (by lia) rfl (zA (pv 1) zB)) zB)))))) zB)))) zL)
  (zC (zR (zT (pI B.isinstance zI B.tuple kA (pv 0))) (zF (zJ (yU zEd rfl B.tuple kA (zA (yV (own:=["part"]) (F:=[]) ⟨rfl,by walk_at "wu",by walk_at "wu",by walk_at "wu", .nil⟩ rfl (yAv (pv 0)) (fun _ _ _ _=>zW (i:=0) (by show(xK ["part"] []).Nodup;decide+kernel) rfl (nO rfl)) (fun _ _ _ _=>yR) (fun _ _ _ _=>(wV Gcopied hr (by lia) rfl (zA (pv 0) zB)))) zB)))) zL)
  (zF (zJ (pv 0)))))), ?_⟩
 walk_at "st";walk_at "rd3"
 cases t with
 | lst us=>
  obtain⟨a,xs,rfl,ha,hs⟩:=hv;have hl0:=T.szs_len us;have hz':T.szs us+1≤100000:=hz;have hd':T.deps us+1<n+1:=hd;refine⟨"list",jH ha, ?_⟩;rw[mK (by decide)];refine⟨a,rfl,⟨xs,SqL.of ha⟩,xX (K:=K) (xs:=xs) (fun i ys H'=>Same H H'∧∃D,Sps H' ys (us.take i) D∧∀b∈D,H b=none) ?_ ⟨Same.refl _,[],⟨rfl,rfl⟩,fun _ h=>(nomatch h)⟩ (fun i ys H' _ h=>SqL.of (h.1 _ _ ha)) ?_ ?_⟩
  ·have:=hs.length
   rw[mU];lia
  ·rintro i u ys H' hu' _ ⟨g,D,hR,hD⟩
   obtain⟨t',ht',hr'⟩:=hs.get hu';have hm:=mQ ht';have d1:=T.deps_le hm;have d2:=T.szs_le hm;walk_at "rd3";refine⟨u,t',rfl,Rep.same g u t' hr',T.pures_mem hp hm,by lia,by lia,fun v' H4 D1 g4 hv' hD1=>⟨g.trans g4,D++D1, ?_,fun b hb=>?_⟩⟩
   ·rw[yB ht']
    refine Sps.snoc hv' (hR.same g4) fun b hb z=>?_;obtain⟨o,ho⟩:=Sps.there _ _ _ hR hb;rw[hD1 b z] at ho;cases ho
   ·rcases nD.mp hb with z | z
    ·exact hD b z
    ·exact xA g (hD1 b z)
  ·rintro ys H' _ ⟨g,D,hR,hD⟩ p hp'
   rw[hs.length,nQ] at hR;have hpD:p∉D:=fun z=>by
    obtain⟨o,ho⟩:=Sps.there _ _ _ hR z;rw[hp'] at ho;cases ho
   refine q (.ref p) _ (p::D) (g.trans (zG hp' _)) ⟨p,ys,D,rfl,zE,rfl,hpD,hR.same (zG hp' _)⟩ fun b hb=>?_;rcases mG.mp hb with z | z
   ·rw[z];exact xA g hp'
   ·exact hD b z
 | dic ks us=>
  obtain⟨d,ps,rfl,hdd,hk,hs⟩:=hv;obtain⟨nk,hp⟩:=hp;have hl0:=T.szs_len us;have hz':T.szs us+1≤100000:=hz;have hd':T.deps us+1<n+1:=hd;have hpl:ps.length=us.length:=by have:=hs.length;rwa [mJ] at this
  have nkp:(ps.map (·.1)).Nodup:=by rw[hk];exact qI nk
  refine⟨"dict",jO hdd, ?_⟩;rw[mI (by decide)];refine⟨"dict",jO hdd, ?_⟩;rw[mK (by decide)];refine⟨.ref d,rfl, .inr (.inr (.inl ⟨rfl, .inl ⟨ps,hdd⟩⟩)),d,ps,rfl,rfl, .inl hdd,fun pv hpv=>?_⟩;have s1:=zG hpv (zEc pv d);have hd1:=s1 _ _ hdd;refine⟨pv,d,ps,rfl,zE, .inl ⟨hd1,fun o=>?_⟩⟩;have gf:Same (upd H d (.frz o (.dK ps))) (upd (upd H pv (zEc pv d)) d (.frz o (.dK ps))):=fun b u e=>by
   by_cases hb:b=d
   ·subst hb;rw[zE] at e⊢;exact e
   ·rw[zO hb] at e⊢
    exact s1 _ _ e
  have gH:∀b,upd (upd H pv (zEc pv d)) d (.frz o (.dK ps)) b=none→H b=none:=fun b e=>by
   by_cases hb:b=d
   ·subst hb;rw[zE] at e;cases e
   ·rw[zO hb] at e
    exact xA s1 e
  have hsf:Reps (upd (upd H pv (zEc pv d)) d (.frz o (.dK ps))) (ps.map (·.2)) us:=Reps.dic_away hd1 hk (Reps.same s1 _ _ hs);have hdf:upd (upd H pv (zEc pv d)) d (.frz o (.dK ps)) d=some (.frz o (.dK ps)):=zE;generalize upd (upd H pv (zEc pv d)) d (.frz o (.dK ps))=Hf at gf gH hsf hdf⊢;refine zKs (K:=K) (fun i ys H'=>Same Hf H'∧∃(kvs:List (Key×V))(D:List Addr),kvs.length=ys.length∧kvs.map (·.1)=(ps.take i).map (·.1)∧Sps H' (kvs.map (·.2)) (us.take i) D∧(∀b∈D,H b=none)∧∀(j:Nat) kv,kvs[j]? =some kv→∃a,ys[j]? =some (.ref a)∧H' a=some (.tup [kV kv.1,kv.2])) ?_ ⟨Same.refl _,[],[],rfl,rfl,⟨rfl,rfl⟩,fun _ h=>(nomatch h),by intro j kv h;simp at h⟩ (fun i ys H' h=>h.1 _ _ hdf) ?_ ?_
  ·rw[mU];lia
  ·rintro i kv ys H' pt hkv _ ⟨g,kvs,D,l1,l2,hR,hD,ht⟩ hpt
   have s2:=zG hpt (.tup [kV kv.1,kv.2]);have g2:=g.trans s2;walk_at "rd3";obtain⟨t',ht',hr'⟩:=hsf.get (i:=i) (v:=kv.2) (by rw[nI,hkv];rfl);have hm:=mQ ht';have d1:=T.deps_le hm;have d2:=T.szs_le hm;refine⟨kv.2,t',rfl,Rep.same g2 _ t' hr',T.pures_mem hp hm,by lia,by lia,fun v' H1 D1 g1 hv' hD1 p hp1=>⟨(g2.trans g1).trans (zG hp1 _),kvs++ [(kv.1,v')],by simp[l1], ?_,D++D1, ?_,fun b hb=>?_, ?_⟩⟩
   ·rw[yB hkv,nA,nA,l2];rfl
   ·rw[yB ht',nA]
    refine Sps.snoc (hv'.same (zG hp1 _)) (hR.same (s2.trans (g1.trans (zG hp1 _)))) fun b hb z=>?_;obtain⟨ob,ho⟩:=Sps.there _ _ _ (hR.same s2) hb;rw[hD1 b z] at ho;cases ho
   ·rcases nD.mp hb with z | z
    ·exact hD b z
    ·exact gH b (xA g2 (hD1 b z))
   ·intro j kv1 hj
    by_cases hlt:j<kvs.length
    ·rw[pU hlt] at hj
     obtain⟨a,e1,e2⟩:=ht j kv1 hj;exact⟨a,by rw[pU (by lia)];exact e1,zG hp1 _ _ _ (g1 _ _ (s2 _ _ e2))⟩
    ·rw[nY (by lia)] at hj
     have hj0:j - kvs.length=0:=by
      have:=(nE.mp hj).1
      simpa using this
     rw[hj0] at hj;simp only[pJ,Option.some.injEq] at hj;subst hj;exact⟨p,by rw[nY (by lia),←l1,hj0];rfl,zE⟩
  ·rintro ys H' _ ⟨g,kvs,D,l1,l2,hR,hD,ht⟩ p hp'
   rw[hpl,nQ] at hR;rw[nQ] at l2;have gs:Same H (thaw H (upd H' p (.lst ys))):=qX (o:=o) hdd (gf.trans (g.trans (zG hp' _)));have hR2:Sps (thaw H (upd H' p (.lst ys))) (kvs.map (·.2)) us D:=(hR.same (zG hp' _)).thaw;refine⟨p,rfl,ys,wI zE (by intro o v z;cases z),kvs,l1,fun j kv hj=>?_,fun l hl=>?_⟩
   ·obtain⟨a,e1,e2⟩:=ht j kv hj
    exact⟨a,e1,wI (zG hp' _ _ _ e2) (by intro o v z;cases z)⟩
   ·have em:vE [] kvs=kvs:=jR kvs [] (by rw[aT,l2];exact nkp)
    rw[em];have hlD:l∉D:=fun z=>by
     obtain⟨ob,ho⟩:=Sps.there _ _ _ hR2 z;rw[hl] at ho;cases ho
    refine q (.ref l) _ (l::D) (gs.trans (zG hl _)) ⟨l,kvs,D,rfl,zE,l2.trans hk,rfl,hlD,hR2.same (zG hl _)⟩ fun b hb=>?_;rcases mG.mp hb with z | z
    ·rw[z];exact xA gs hl
    ·exact hD b z
 | tup us=>exact hp.elim
 | non=>exact⟨_,hv.ty,by rw[mI (by simp[tyT,zN])];exact⟨_,hv.ty,by rw[mI (by simp[tyT,zN])];exact⟨_,hv.ty,by rw[mI (by simp[tyT,zN])];exact q _ _ [] (Same.refl _) ⟨rfl,hv⟩ (fun _ h=>nomatch h)⟩⟩⟩
 | bl b=>exact⟨_,hv.ty,by rw[mI (by simp[tyT,zN])];exact⟨_,hv.ty,by rw[mI (by simp[tyT,zN])];exact⟨_,hv.ty,by rw[mI (by simp[tyT,zN])];exact q _ _ [] (Same.refl _) ⟨rfl,hv⟩ (fun _ h=>nomatch h)⟩⟩⟩
 | int b=>exact⟨_,hv.ty,by rw[mI (by simp[tyT,zN])];exact⟨_,hv.ty,by rw[mI (by simp[tyT,zN])];exact⟨_,hv.ty,by rw[mI (by simp[tyT,zN])];exact q _ _ [] (Same.refl _) ⟨rfl,hv⟩ (fun _ h=>nomatch h)⟩⟩⟩
 | str b=>exact⟨_,hv.ty,by rw[mI (by simp[tyT,zN])];exact⟨_,hv.ty,by rw[mI (by simp[tyT,zN])];exact⟨_,hv.ty,by rw[mI (by simp[tyT,zN])];exact q _ _ [] (Same.refl _) ⟨rfl,hv⟩ (fun _ h=>nomatch h)⟩⟩⟩
abbrev sCo:Stmt:=top 64
theorem scCo:zP ["_law_thing"] ["_law_thing"] (zH sCo):=by walk_at "sc"
def zRj(n:Nat):Sp:=fun vs H Q _=>∃(v:V)(t:T),vs= [v]∧Rep H v t∧T.few t∧T.dep t<n∧∀v' H' D,Same H H'→Sp1 H' v' t D→(∀b∈D,H b=none)→Q v' H'
theorem zZm{n:Nat}(F:Fun K "_law_copy" "_law_copy" sCo f fd)(B:Bl mg)(G_law_copy:Dn P w K mg base (1+n) "_law_copy" ["_law_thing"] (zRj n)):FnOk P w K mg base CX0 (1+n+1) f fd ["_law_thing"] (zRj (n+1)):=by
 refine F.ok scCo (by walk_at "ln") fun c A o s H vs Q E hr h=>?_;obtain⟨v,t,rfl,hv,hp,hd,q⟩:=h;have nd:=scCo.nd;have hu:=jC hr;refine⟨_,(zC (zR (zT (pI B.isinstance zI B.list xT (pv 0))) (zF (zJ (yV (own:=["_law_one"]) (F:=[]) ⟨rfl,by walk_at "wu",by walk_at "wu",by walk_at "wu", .nil⟩ rfl (xU (pv 0)) (fun _ _ _ _=>zW (i:=0) (by show(xK ["_law_one"] []).Nodup;decide+kernel) rfl (nO rfl)) (fun _ _ _ _=>yR) (fun _ _ _ _=>(pD G_law_copy hr (zA (pv 0) zB)))))) zL)
  (zC (zR (zT (pI B.isinstance zI B.dict xF (pv 0))) (zF (zJ (yU (zAw rfl) rfl B.dict xF (zA (uO (yV (own:=["_law_name"]) (F:=[("_law_thing",0)]) ⟨rfl,by walk_at "wu",by walk_at "wu",by walk_at "wu",(.cons rfl rfl rfl .nil)⟩ rfl (zBm (pv 0)) (fun _ _ _ _=>zW (i:=0) (by show(xK ["_law_name"] [("_law_thing",0)]).Nodup;decide+kernel) rfl (nO rfl)) (fun _ _ _ _=>yR) (fun _ _ _ _=>(gT (zA (pv 0) (zA (pD G_law_copy hr (zA (jM hu (pv 1) (pv 0) (fun _ _=>rfl)) zB)) zB)))))) zB)))) zL)
  (zF (zJ (pv 0))))), ?_⟩
 walk_at "st";walk_at "rd3"
 cases t with
 | lst us=>
  obtain⟨a,xs,rfl,ha,hs⟩:=hv;obtain⟨hl0,hp⟩:=hp;have hd':T.deps us+1<n+1:=hd;refine⟨"list",jH ha, ?_⟩;rw[mK (by decide)];refine⟨a,rfl,⟨xs,SqL.of ha⟩,xX (K:=K) (xs:=xs) (fun i ys H'=>Same H H'∧∃D,Sps H' ys (us.take i) D∧∀b∈D,H b=none) ?_ ⟨Same.refl _,[],⟨rfl,rfl⟩,fun _ h=>(nomatch h)⟩ (fun i ys H' _ h=>SqL.of (h.1 _ _ ha)) ?_ ?_⟩
  ·have:=hs.length
   rw[mU];lia
  ·rintro i u ys H' hu' _ ⟨g,D,hR,hD⟩
   obtain⟨t',ht',hr'⟩:=hs.get hu';have hm:=mQ ht';have d1:=T.deps_le hm;walk_at "rd3";refine⟨u,t',rfl,Rep.same g u t' hr',T.fews_mem hp hm,by lia,fun v' H4 D1 g4 hv' hD1=>⟨g.trans g4,D++D1, ?_,fun b hb=>?_⟩⟩
   ·rw[yB ht']
    refine Sps.snoc hv' (hR.same g4) fun b hb z=>?_;obtain⟨o,ho⟩:=Sps.there _ _ _ hR hb;rw[hD1 b z] at ho;cases ho
   ·rcases nD.mp hb with z | z
    ·exact hD b z
    ·exact xA g (hD1 b z)
  ·rintro ys H' _ ⟨g,D,hR,hD⟩ p hp'
   rw[hs.length,nQ] at hR;have hpD:p∉D:=fun z=>by
    obtain⟨o,ho⟩:=Sps.there _ _ _ hR z;rw[hp'] at ho;cases ho
   refine q (.ref p) _ (p::D) (g.trans (zG hp' _)) ⟨p,ys,D,rfl,zE,rfl,hpD,hR.same (zG hp' _)⟩ fun b hb=>?_;rcases mG.mp hb with z | z
   ·rw[z];exact xA g hp'
   ·exact hD b z
 | dic ks us=>
  obtain⟨d,ps,rfl,hdd,hk,hs⟩:=hv;obtain⟨nk,hl1,hl0,hp⟩:=hp;have hd':T.deps us+1<n+1:=hd;have hpl:ps.length=us.length:=by have:=hs.length;rwa [mJ] at this
  have nkp:(ps.map (·.1)).Nodup:=by rw[hk];exact qI nk
  refine⟨"dict",jO hdd, ?_⟩;rw[mI (by decide)];refine⟨"dict",jO hdd, ?_⟩;rw[mK (by decide)];refine⟨d,rfl,ps, .inl ⟨hdd,fun o=>?_⟩⟩;have gf:Same (upd H d (.frz o (.dK ps))) (upd H d (.frz o (.dK ps))):=Same.refl _;have gH:∀b,upd H d (.frz o (.dK ps)) b=none→H b=none:=fun b e=>by
   by_cases hb:b=d
   ·subst hb;rw[zE] at e;cases e
   ·rw[zO hb] at e
    exact e
  have hsf:Reps (upd H d (.frz o (.dK ps))) (ps.map (·.2)) us:=Reps.dic_away hdd hk hs;have hdf:upd H d (.frz o (.dK ps)) d=some (.frz o (.dK ps)):=zE;generalize hHf:upd H d (.frz o (.dK ps))=Hf at gf gH hsf hdf⊢;refine gK (fun i ys H'=>Same Hf H'∧∃(kvs:List (Key×V))(D:List Addr),kvs.length=ys.length∧kvs.map (·.1)=(ps.take i).map (·.1)∧Sps H' (kvs.map (·.2)) (us.take i) D∧(∀b∈D,H b=none)∧∀(j:Nat) kv,kvs[j]? =some kv→∃a,ys[j]? =some (.ref a)∧H' a=some (.tup [kV kv.1,kv.2])) ?_ ⟨Same.refl _,[],[],rfl,rfl,⟨rfl,rfl⟩,fun _ h=>(nomatch h),by intro j kv h;simp at h⟩ (fun i ys H' h=>h.1 _ _ hdf) ?_ ?_
  ·rw[mU];lia
  ·rintro i kv ys H' hkv _ ⟨g,kvs,D,l1,l2,hR,hD,ht⟩
   have s2:=Same.refl H';have g2:=g.trans s2;walk_at "rd3";obtain⟨t',ht',hr'⟩:=hsf.get (i:=i) (v:=kv.2) (by rw[nI,hkv];rfl);have hm:=mQ ht';have d1:=T.deps_le hm;refine⟨kv.2, .inl ⟨ps,kv.1, .inr ⟨o,g _ _ hdf⟩,rfl,(uF nkp hkv).symm⟩,kv.2,t',rfl,Rep.same g2 _ t' hr',T.fews_mem hp hm,by lia,fun v' H1 D1 g1 hv' hD1 p hp1=>⟨(g2.trans g1).trans (zG hp1 _),kvs++ [(kv.1,v')],by simp[l1], ?_,D++D1, ?_,fun b hb=>?_, ?_⟩⟩
   ·rw[yB hkv,nA,nA,l2];rfl
   ·rw[yB ht',nA]
    refine Sps.snoc (hv'.same (zG hp1 _)) (hR.same (s2.trans (g1.trans (zG hp1 _)))) fun b hb z=>?_;obtain⟨ob,ho⟩:=Sps.there _ _ _ (hR.same s2) hb;rw[hD1 b z] at ho;cases ho
   ·rcases nD.mp hb with z | z
    ·exact hD b z
    ·exact gH b (xA g2 (hD1 b z))
   ·intro j kv1 hj
    by_cases hlt:j<kvs.length
    ·rw[pU hlt] at hj
     obtain⟨a,e1,e2⟩:=ht j kv1 hj;exact⟨a,by rw[pU (by lia)];exact e1,zG hp1 _ _ _ (g1 _ _ (s2 _ _ e2))⟩
    ·rw[nY (by lia)] at hj
     have hj0:j - kvs.length=0:=by
      have:=(nE.mp hj).1
      simpa using this
     rw[hj0] at hj;simp only[pJ,Option.some.injEq] at hj;subst hj;exact⟨p,by rw[nY (by lia),←l1,hj0];rfl,zE⟩
  ·rintro ys H' _ ⟨g,kvs,D,l1,l2,hR,hD,ht⟩ p hp'
   rw[hpl,nQ] at hR;rw[nQ] at l2;have gs:Same H (thaw H (upd H' p (.lst ys))):=qX (o:=o) hdd (by rw[hHf];exact g.trans (zG hp' _));have hR2:Sps (thaw H (upd H' p (.lst ys))) (kvs.map (·.2)) us D:=(hR.same (zG hp' _)).thaw;refine⟨p,rfl,ys,wI zE (by intro o v z;cases z),kvs,l1,fun j kv hj=>?_,fun l hl=>?_⟩
   ·obtain⟨a,e1,e2⟩:=ht j kv hj
    exact⟨a,e1,wI (zG hp' _ _ _ e2) (by intro o v z;cases z)⟩
   ·have em:vE [] kvs=kvs:=jR kvs [] (by rw[aT,l2];exact nkp)
    rw[em];have hlD:l∉D:=fun z=>by
     obtain⟨ob,ho⟩:=Sps.there _ _ _ hR2 z;rw[hl] at ho;cases ho
    refine q (.ref l) _ (l::D) (gs.trans (zG hl _)) ⟨l,kvs,D,rfl,zE,l2.trans hk,rfl,hlD,hR2.same (zG hl _)⟩ fun b hb=>?_;rcases mG.mp hb with z | z
    ·rw[z];exact xA gs hl
    ·exact hD b z
 | tup us=>exact hp.elim
 | non=>exact⟨_,hv.ty,by rw[mI (by simp[tyT,zN])];exact⟨_,hv.ty,by rw[mI (by simp[tyT,zN])];exact q _ _ [] (Same.refl _) ⟨rfl,hv⟩ (fun _ h=>nomatch h)⟩⟩
 | bl b=>exact⟨_,hv.ty,by rw[mI (by simp[tyT,zN])];exact⟨_,hv.ty,by rw[mI (by simp[tyT,zN])];exact q _ _ [] (Same.refl _) ⟨rfl,hv⟩ (fun _ h=>nomatch h)⟩⟩
 | int b=>exact⟨_,hv.ty,by rw[mI (by simp[tyT,zN])];exact⟨_,hv.ty,by rw[mI (by simp[tyT,zN])];exact q _ _ [] (Same.refl _) ⟨rfl,hv⟩ (fun _ h=>nomatch h)⟩⟩
 | str b=>exact⟨_,hv.ty,by rw[mI (by simp[tyT,zN])];exact⟨_,hv.ty,by rw[mI (by simp[tyT,zN])];exact q _ _ [] (Same.refl _) ⟨rfl,hv⟩ (fun _ h=>nomatch h)⟩⟩
theorem yCy(F:Fun K "copied" "copied" sCp f fd):FnOkH P w K mg base 1 f fd ["thing"] (zPc 0):=by
 refine F.okh scCp (by walk_at "ln") fun c A o s H vs Q E hr h=>?_;obtain⟨v,t,rfl,hv,hp,hd,_⟩:=h;exact absurd hd (sJ _)
theorem yDb(F:Fun K "_law_copy" "_law_copy" sCo f fd):FnOk P w K mg base CX0 1 f fd ["_law_thing"] (zRj 0):=by
 refine F.ok scCo (by walk_at "ln") fun c A o s H vs Q E hr h=>?_;obtain⟨v,t,rfl,hv,hp,hd,_⟩:=h;exact absurd hd (sJ _)
theorem zLl(F:Fun K "copied" "copied" sCp f fd)(B:Bl mg)(b:Binds K fd ["thing"] [])(kp:W.keepIn K (.ref f)=true)(m:mg "copied" =some (.ref f)):∀n:Nat,FnOkH P w K mg base (1+n) f fd ["thing"] (zPc n)
 | 0=>yCy F
 | n+1=>yCk F B ⟨_,_,zLl F B b kp m n,b,kp,m⟩
theorem zVc(F:Fun K "_law_copy" "_law_copy" sCo f fd)(B:Bl mg)(b:Binds K fd ["_law_thing"] [])(kp:W.keepIn K (.ref f)=true)(m:mg "_law_copy" =some (.ref f)):∀n:Nat,FnOk P w K mg base CX0 (1+n) f fd ["_law_thing"] (zRj n)
 | 0=>yDb F
 | n+1=>zZm F B ⟨_,_,zVc F B b kp m n,b,kp,m⟩
abbrev zBz:Stmt:=top 63
theorem iP{c A B:Prop} [Decidable c] (h:c) (a:A):if c then A else B:=by rw[mK h];exact a
theorem iN{c A B:Prop} [Decidable c] (h:¬c) (b:B):if c then A else B:=by rw[mI h];exact b
theorem gU{H:Hp}{d:Addr}{o:HO}{t:T}{xs:List V}{us:List T}(hd:Rep H (.ref d) t)(hs:T.szs us<T.sz t)(h:Reps H xs us):Reps (upd H d o) xs us:=
 Reps.away _ _ h fun z=>by
  obtain⟨t',h1,h2⟩:=Occs.sub _ _ h z;have e:=Rep.one _ _ _ hd h1;subst e
  lia
theorem uN:∀n:Nat,(List.replicate n true).all id=true
 | 0=>rfl
 | n+1=>by rw[pA,List.all_cons,uN n];rfl
theorem wM{K:W.Frag}{H:Hp}{a:Addr}{xs:List V}{i:Int}{v:V}{Q:VK}(h1:SqT K H a xs)(h2:atI xs i=some v)(q:Q v H):zRm K (.ref a) (.int i) H Q:=⟨a,xs,i,v,rfl,rfl,h1,h2,q⟩
def vF(n:Nat):Sp:=fun vs H Q _=>∃(v u:V)(t t':T),vs= [v,u]∧Rep H v t∧Rep H u t'∧Sm n t t'∧∀H',Same H H'→Q (.bl true) H'
theorem scAlike:zP ["_law_found","_law_due"] ["_law_found","_law_due"] (zH zBz):=by walk_at "sc"
theorem zPq{n:Nat}(F:Fun K "_law_alike" "_law_alike" zBz f fd)(B:Bl2 mg)(G_law_alike:Dn P w K mg base (2+n) "_law_alike" ["_law_found","_law_due"] (vF n)):
  FnOk P w K mg base CX0 (2+n+1) f fd ["_law_found","_law_due"] (vF (n+1)):=by
 refine F.ok scAlike (by walk_at "ln") fun c A o s H vs Q E hr h=>?_;obtain⟨v,u,t,t',rfl,hv,hw,⟨hsz0,hB⟩,q⟩:=h;have nd:=scAlike.nd;have hu:=jC hr;have hu0:=hr.units0;refine⟨_,(zC (zR (PW.pt (kL (zHq (zKp (pv 1))) (qJ (zT (pI B.isinstance zI B.bool kW (pv 1)))))) (zF (zJ (xN (yG xM (pv 0) (pv 1) (zQ _)) (xJ (yG xM (pI B.isinstance zI B.bool kW (pv 0)) (pI B.isinstance zI B.bool kW (pv 1)) (zQ _)))))) zL)
  (zC (zR (zT (pI B.isinstance zI B.int jL (pv 1))) (zF (zJ (xN (pI B.isinstance zI B.int jL (pv 0)) (xN (yCg (pI B.isinstance zI B.bool kW (pv 0))) (xJ (yG xM (pv 0) (pv 1) (zQ _))))))) zL)
  (zC (zR (zT (pI B.isinstance zI B.str vM (pv 1))) (zF (zJ (xN (pI B.isinstance zI B.str vM (pv 0)) (xJ (yG xM (pv 0) (pv 1) (zQ _)))))) zL)
  (zC (zR (zT (pI B.isinstance zI B.dict xF (pv 1))) (zC (zR (PW.pt (kL (xC (zT (pI B.isinstance zI B.dict xF (pv 0)))) (qJ (zU zEk (zM gM rfl B.len yH (zA (pv 0) zB)) (zM gM rfl B.len yH (zA (pv 1) zB)) (zQ _))))) (zF (zJ wA)) zL)
  (zF (zJ (zM (wX rfl) rfl B.all jP (zA (uO (yV (own:=["_law_name"]) (F:=[("_law_found",0),("_law_due",1)]) ⟨rfl,by walk_at "wu",by walk_at "wu",by walk_at "wu",(.cons rfl rfl rfl (.cons rfl rfl rfl .nil))⟩ rfl (zBm (pv 1)) (fun _ _ _ _=>zW (i:=0) (by show(xK ["_law_name"] [("_law_found",0),("_law_due",1)]).Nodup;decide+kernel) rfl (nO rfl)) (fun _ _ _ _=>yR) (fun _ _ _ _=>(xN (zKy (zUq hu (pv 0) (pv 1))) (xJ (pD G_law_alike hr (zA (jM hu (pv 1) (pv 0) (fun _ _=>rfl)) (zA (jM hu (pv 2) (pv 0) (fun _ _=>rfl)) zB)))))))) zB))))) zL)
  (zC (zR (PW.pt (kL (zU zEk (pI B.isinstance zI B.tuple kA (pv 1)) (pI B.isinstance zI B.tuple kA (pv 0)) (zQ _)) (qJ (xC (zT (zM (gC (T:="list") (U:="tuple") (by decide) (by decide)) rfl B.isinstance zI (zA (pv 0) (zA (gT (zA (wJ (v:=.ty "list") rfl B.list xT rfl) (zA (wJ (v:=.ty "tuple") rfl B.tuple kA rfl) zB))) zB)))))))) (zF (zJ wA)) zL)
  (zC (zR (zU zEk (zM vR rfl B.len yH (zA (pv 0) zB)) (zM vR rfl B.len yH (zA (pv 1) zB)) (zQ _)) (zF (zJ wA)) zL)
  (zF (zJ (zM (wX rfl) rfl B.all jP (zA (yV (own:=["_law_k"]) (F:=[("_law_found",0),("_law_due",1)]) ⟨rfl,by walk_at "wu",by walk_at "wu",by walk_at "wu",(.cons rfl rfl rfl (.cons rfl rfl rfl .nil))⟩ rfl (xY rfl B.range (zA (zM vR rfl B.len yH (zA (pv 1) zB)) zB)) (fun _ _ _ _=>zW (i:=0) (by show(xK ["_law_k"] [("_law_found",0),("_law_due",1)]).Nodup;decide+kernel) rfl (nO rfl)) (fun _ _ _ _=>yR) (fun _ _ _ _=>(pD G_law_alike hr (zA (yE (zOe (K:=K) rfl) (pv 1) (pv 0) (fun _ _=>rfl)) (zA (yE (zOe (K:=K) rfl) (pv 2) (pv 0) (fun _ _=>rfl)) zB))))) zB)))))))))), ?_⟩
 walk_at "st";walk_at "rd3";have g0:=Same.refl H
 cases t with
 | non=>
  cases t' with
  | non=>
   cases (show v=_ from hv);cases (show u=_ from hw);exact iP rfl ⟨rfl,iP rfl ⟨_,rfl,_,rfl,q _ g0⟩⟩
  | _=>exact hB.elim
 | bl b=>
  cases t' with
  | bl b'=>
   have hB:b=b':=hB;subst hB;cases (show v=_ from hv);cases (show u=_ from hw);refine iN (by simp) ⟨_,rfl,iP (by decide+kernel) ⟨?_,iP rfl ⟨_,rfl,_,rfl, ?_⟩⟩⟩
   ·rfl
   ·rw[mZ rfl];exact q _ g0
  | _=>exact hB.elim
 | int b=>
  cases t' with
  | int b'=>
   have hB:b=b':=hB;subst hB;cases (show v=_ from hv);cases (show u=_ from hw);refine iN (by simp) ⟨_,rfl,iN (by decide+kernel) ⟨_,rfl,iP (by decide+kernel) ⟨_,rfl,iP (by decide+kernel) ⟨_,rfl,true,by decide+kernel,iP rfl ⟨rfl, ?_⟩⟩⟩⟩⟩;rw[mZ rfl];exact q _ g0
  | _=>exact hB.elim
 | str b=>
  cases t' with
  | str b'=>
   have hB:b=b':=hB;subst hB;cases (show v=_ from hv);cases (show u=_ from hw);refine iN (by simp) ⟨_,rfl,iN (by decide+kernel) ⟨_,rfl,iN (by decide+kernel) ⟨_,rfl,iP (by decide+kernel) ⟨_,rfl,iP (by decide+kernel) ⟨rfl, ?_⟩⟩⟩⟩⟩;rw[mZ rfl];exact q _ g0
  | _=>exact hB.elim
 | lst us=>
  cases t' with
  | lst us'=>
   have hty:tyS H u=some "list":=hw.ty;have htv:tyS H v=some "list":=hv.ty;have hnn:¬u=V.non:=fun z=>by rw[z] at hty;exact absurd (mV hty) (by decide)
   refine iN hnn ⟨_,hty,iN (by decide+kernel) ⟨_,hty,iN (by decide+kernel) ⟨_,hty,iN (by decide+kernel) ⟨_,hty,iN (by decide+kernel) ?_⟩⟩⟩⟩;obtain⟨a,xs,rfl,ha,hx⟩:=hv;obtain⟨b,ys,rfl,hb,hy⟩:=hw;obtain⟨hlen,hul,hB⟩:=hB;have hxl:=hx.length;have hyl:=hy.length;refine⟨_,hty,_,htv,false,by simp,zIl fun pt hpt=>?_⟩;have g2:=zG hpt (.tup [V.ty "list",V.ty "tuple"]);refine⟨_,"list",pt,⟨rfl,rfl⟩,zE,zAc g2 htv,iN (by decide+kernel) ?_⟩;generalize upd H pt (.tup [V.ty "list",V.ty "tuple"])=H2 at g2⊢;have ha:=g2 _ _ ha;have hb:=g2 _ _ hb;have hx:=Reps.same g2 _ _ hx;have hy:=Reps.same g2 _ _ hy;refine⟨a,rfl,xs, .inl (SqL.of ha),b,rfl,ys, .inl (SqL.of hb),false,by rw[hxl,hyl,hlen];simp,zIl ⟨b,rfl,ys, .inl (SqL.of hb),by lia,by lia, ?_⟩⟩;rw[nR];refine vK (fun i zs H'=>Same H2 H'∧zs=(List.replicate i true).map V.bl) (by rw[mU];lia) ⟨Same.refl _,rfl⟩ ?_ ?_
   ·rintro i zs H' hi _ ⟨g,rfl⟩
    obtain⟨t1,ht1,hr1⟩:=hx.get (i:=i) (v:=xs[i]) (by simp[hxl,hlen,←hyl,hi]);obtain⟨t2,ht2,hr2⟩:=hy.get (i:=i) (v:=ys[i]) (by simp[hi]);walk_at "rd3";refine .inl (yK (SqL.of (g _ _ ha)) (v:=xs[i]) (by rw[dD];exact yM (by simp[hxl,hlen,←hyl,hi])) (.inl (yK (SqL.of (g _ _ hb)) (v:=ys[i]) (by rw[dD];exact yM (by simp[hi])) ⟨_,_,t1,t2,rfl,Rep.same g _ _ hr1,Rep.same g _ _ hr2,hB i t1 t2 ht1 ht2,fun H4 g4=>⟨g.trans g4, ?_⟩⟩)));rw[dE];simp
   ·rintro zs H' _ ⟨g,rfl⟩ p hp
    refine⟨p,rfl,List.replicate ys.length true,SqL.of zE, ?_⟩;rw[uN];exact q _ (g2.trans (g.trans (zG hp _)))
  | _=>exact hB.elim
 | tup us=>
  cases t' with
  | tup us'=>
   have hty:tyS H u=some "tuple":=hw.ty;have htv:tyS H v=some "tuple":=hv.ty;have hnn:¬u=V.non:=fun z=>by rw[z] at hty;exact absurd (mV hty) (by decide)
   refine iN hnn ⟨_,hty,iN (by decide+kernel) ⟨_,hty,iN (by decide+kernel) ⟨_,hty,iN (by decide+kernel) ⟨_,hty,iN (by decide+kernel) ?_⟩⟩⟩⟩;obtain⟨a,xs,rfl,ha,hx⟩:=hv;obtain⟨b,ys,rfl,hb,hy⟩:=hw;obtain⟨hlen,hul,hB⟩:=hB;have hxl:=hx.length;have hyl:=hy.length;refine⟨_,hty,_,htv,false,by simp,zIl fun pt hpt=>?_⟩;have g2:=zG hpt (.tup [V.ty "list",V.ty "tuple"]);refine⟨_,"tuple",pt,⟨rfl,rfl⟩,zE,zAc g2 htv,iN (by decide+kernel) ?_⟩;generalize upd H pt (.tup [V.ty "list",V.ty "tuple"])=H2 at g2⊢;have ha:=g2 _ _ ha;have hb:=g2 _ _ hb;have hx:=Reps.same g2 _ _ hx;have hy:=Reps.same g2 _ _ hy;refine⟨a,rfl,xs, .inr (SqT.of ha),b,rfl,ys, .inr (SqT.of hb),false,by rw[hxl,hyl,hlen];simp,zIl ⟨b,rfl,ys, .inr (SqT.of hb),by lia,by lia, ?_⟩⟩;rw[nR];refine vK (fun i zs H'=>Same H2 H'∧zs=(List.replicate i true).map V.bl) (by rw[mU];lia) ⟨Same.refl _,rfl⟩ ?_ ?_
   ·rintro i zs H' hi _ ⟨g,rfl⟩
    obtain⟨t1,ht1,hr1⟩:=hx.get (i:=i) (v:=xs[i]) (by simp[hxl,hlen,←hyl,hi]);obtain⟨t2,ht2,hr2⟩:=hy.get (i:=i) (v:=ys[i]) (by simp[hi]);walk_at "rd3";refine .inr (.inl (wM (SqT.of (g _ _ ha)) (v:=xs[i]) (by rw[dD];exact yM (by simp[hxl,hlen,←hyl,hi])) (.inr (.inl (wM (SqT.of (g _ _ hb)) (v:=ys[i]) (by rw[dD];exact yM (by simp[hi])) ⟨_,_,t1,t2,rfl,Rep.same g _ _ hr1,Rep.same g _ _ hr2,hB i t1 t2 ht1 ht2,fun H4 g4=>⟨g.trans g4, ?_⟩⟩)))));rw[dE];simp
   ·rintro zs H' _ ⟨g,rfl⟩ p hp
    refine⟨p,rfl,List.replicate ys.length true,SqL.of zE, ?_⟩;rw[uN];exact q _ (g2.trans (g.trans (zG hp _)))
  | _=>exact hB.elim
 | dic ks us=>
  cases t' with
  | dic ls vs=>
   have hty:tyS H u=some "dict":=hw.ty;have htv:tyS H v=some "dict":=hv.ty;have hnn:¬u=V.non:=fun z=>by rw[z] at hty;exact absurd (mV hty) (by decide)
   refine iN hnn ⟨_,hty,iN (by decide+kernel) ⟨_,hty,iN (by decide+kernel) ⟨_,hty,iN (by decide+kernel) ⟨_,hty,iP (by decide+kernel) ⟨_,htv,iN (by decide+kernel) ?_⟩⟩⟩⟩⟩;have hRd:=hw;obtain⟨a,ps,rfl,ha,hk,hx⟩:=hv;obtain⟨b,rs,rfl,hb,hkb,hy⟩:=hw;obtain⟨⟨nk,nl,hku,hlv,huv,hul⟩,hB⟩:=hB;have hpl:ps.length=us.length:=by have:=hx.length;rwa [mJ] at this
   have hrl:rs.length=vs.length:=by have:=hy.length;rwa [mJ] at this
   have nkp:(ps.map (·.1)).Nodup:=by rw[hk];exact qI nk
   have nkr:(rs.map (·.1)).Nodup:=by rw[hkb];exact qI nl
   have hsz:T.szs vs<T.sz (.dic ls vs):=tE _;have hsz1:T.szs us<T.sz (.dic ls vs):=nH (tE _) hsz0;refine⟨a,rfl,ps,ha,b,rfl,rs,hb,false,by rw[hpl,hrl,huv];simp,zIl ⟨b,rfl,rs, .inl ⟨hb,fun o=>?_⟩⟩⟩;have hxf:Reps (upd H b (.frz o (.dK rs))) (ps.map (·.2)) us:=gU hRd hsz1 hx;have hyf:Reps (upd H b (.frz o (.dK rs))) (rs.map (·.2)) vs:=gU hRd hsz hy;have haf:∀H',Same (upd H b (.frz o (.dK rs))) H'→Rd H' a (.dK ps):=fun H' g=>by
    by_cases e:a=b
    ·subst e
     rw[hb] at ha;cases ha;exact .inr ⟨o,g _ _ zE⟩
    ·exact .inl (g _ _ (by rw[zO e];exact ha))
   refine gK (fun i zs H'=>Same (upd H b (.frz o (.dK rs))) H'∧zs=(List.replicate i true).map V.bl) ?_ ⟨Same.refl _,rfl⟩ (fun i zs H' h=>h.1 _ _ zE) ?_ ?_
   ·rw[mU];lia
   ·rintro i rv zs H' hrv _ ⟨g,rfl⟩
    obtain⟨t1,ht1,hr1⟩:=hyf.get (i:=i) (v:=rv.2) (by rw[nI,hrv];rfl);obtain⟨k,hkl,hrk⟩:∃k,ls[i]? =some k∧nK k=rv.1:=by
     have hkey:(ls.map nK)[i]? =some rv.1:=by rw[←hkb,nI,hrv];rfl
     rw[nI] at hkey
     cases hr:ls[i]? with
     | none=>rw[hr] at hkey;cases hkey
     | some k=>rw[hr] at hkey;exact⟨k,rfl,mV hkey⟩
    obtain⟨hkk,hBk⟩:=hB k (mQ hkl);obtain⟨x,hx1,hr2⟩:=Rep.at_name nk hk hxf hkk;rw[zDw nl hkl ht1] at hBk;have hgv:qL ps rv.1=some x:=by rw[←hrk];exact hx1
    walk_at "rd3";have hdg:zPz H' a (kV rv.1) (some x):=.inl ⟨ps,rv.1,haf H' g,rfl,hgv.symm⟩;refine⟨kV rv.1,rfl, .ref a,rfl,a,some x,rfl,hdg,true,rfl,iP rfl ⟨x,hdg,rv.2, .inl ⟨rs,rv.1, .inr ⟨o,g _ _ zE⟩,rfl,(uF nkr hrv).symm⟩,_,_,_,t1,rfl,Rep.same g _ _ hr2,Rep.same g _ _ hr1,hBk,fun H4 g4=>⟨g.trans g4, ?_⟩⟩⟩;rw[dE];simp
   ·rintro zs H' _ ⟨g,rfl⟩ p hp
    refine⟨p,rfl,List.replicate rs.length true,SqL.of (wI zE (by intro o v z;cases z)), ?_⟩;rw[uN];exact q _ (qX (o:=o) hb (g.trans (zG hp _)))
  | _=>exact hB.elim
theorem zPe(F:Fun K "_law_alike" "_law_alike" zBz f fd):FnOk P w K mg base CX0 2 f fd ["_law_found","_law_due"] (vF 0):=by
 refine F.ok scAlike (by walk_at "ln") fun c A o s H vs Q E hr h=>?_;obtain⟨v,u,t,t',rfl,hv,hw,hf,_⟩:=h;exact hf.elim
theorem zFm(F:Fun K "_law_alike" "_law_alike" zBz f fd)(B:Bl2 mg)(b:Binds K fd ["_law_found","_law_due"] [])(kp:W.keepIn K (.ref f)=true)(m:mg "_law_alike" =some (.ref f)):
  ∀n:Nat,FnOk P w K mg base CX0 (2+n) f fd ["_law_found","_law_due"] (vF n)
 | 0=>zPe F
 | n+1=>zPq F B ⟨_,_,zFm F B b kp m n,b,kp,m⟩
end
mutual
def T.gx:T→Prop
 | .non=>True
 | .bl _=>True
 | .int i=>-(10 ^ 12)≤i∧i≤10 ^ 12
 | .str x=>x.length≤30∧∀c∈x,c∈sgnL
 | .tup _=>False
 | .lst us=>T.gxs us
 | .dic ks us=>ks.Nodup∧ks.length=us.length∧(∀k∈ks,yJ k=true)∧T.gxs us
def T.gxs:List T→Prop
 | []=>True
 | t::ts=>T.gx t∧T.gxs ts
end
theorem T.gxs_mem{t:T}:∀{ts:List T},T.gxs ts→t∈ts→T.gx t
 | [],_,h=>nomatch h
 | u::ts,h,hm=>(mG.mp hm).elim (fun e=>e▸h.1) (T.gxs_mem h.2)
theorem T.gxs_of:∀{ts:List T},(∀t∈ts,T.gx t)→T.gxs ts
 | [],_=>mN
 | _::_,h=>⟨h _ mF,T.gxs_of fun u hu=>h u (mH _ hu)⟩
mutual
def T.gy:T→Prop
 | .non=>True
 | .bl _=>True
 | .int i=>-(10 ^ 12)≤i∧i≤10 ^ 12
 | .str x=>x.length≤30∧∀c∈x,c∈sgnL
 | .tup _=>False
 | .lst us=>us.length≤60∧T.gys us
 | .dic ks us=>ks.Nodup∧ks.length≤30∧ks.length=us.length∧(∀k∈ks,yJ k=true)∧T.gys us
def T.gys:List T→Prop
 | []=>True
 | t::ts=>T.gy t∧T.gys ts
end
mutual
theorem T.gy.gx:∀{t:T},T.gy t→T.gx t
 | .non,_=>mN
 | .bl _,_=>mN
 | .int _,h=>h
 | .str _,h=>h
 | .tup _,h=>h.elim
 | .lst us,h=>T.gys.gxs (ts:=us) h.2
 | .dic _ us,h=>⟨h.1,h.2.2.1,h.2.2.2.1,T.gys.gxs (ts:=us) h.2.2.2.2⟩
theorem T.gys.gxs:∀{ts:List T},T.gys ts→T.gxs ts
 | [],_=>mN
 | t::ts,h=>⟨T.gy.gx (t:=t) h.1,T.gys.gxs (ts:=ts) h.2⟩
end
mutual
theorem T.gy.few:∀{t:T},T.gy t→T.fewm 31 t
 | .non,_=>mN
 | .bl _,_=>mN
 | .int _,_=>mN
 | .str _,_=>mN
 | .tup _,h=>h.elim
 | .lst us,h=>⟨nN h.1 (by decide),T.gys.few (ts:=us) h.2⟩
 | .dic _ us,h=>⟨h.1,nN h.2.1 (by decide),h.2.2.1,T.gys.few (ts:=us) h.2.2.2.2⟩
theorem T.gys.few:∀{ts:List T},T.gys ts→T.fewms 31 ts
 | [],_=>mN
 | t::ts,h=>⟨T.gy.few (t:=t) h.1,T.gys.few (ts:=ts) h.2⟩
end
mutual
theorem Nice.gy{d:Nat}:∀(t:T),Nice d t→T.gy t
 | .non,_=>mN
 | .bl _,_=>mN
 | .int _,h=>h
 | .str x,h=>by
  have h':zAi x=true:=h;unfold zAi at h';simp only[nZ,pC,nV] at h';exact h'
 | .lst ts,h=>⟨by have:=h.2.1;lia,NiceL.gy ts h.2.2⟩
 | .dic ks ts,h=>by
  obtain⟨_,h1,h2,h3,h4,h5⟩:=h;exact⟨h3,by lia,h2,h4,NiceL.gy ts h5⟩
 | .tup _,h=>h.elim
theorem NiceL.gy{d:Nat}:∀(ts:List T),NiceL d ts→T.gys ts
 | [],_=>mN
 | t::ts,h=>⟨Nice.gy t h.1,NiceL.gy ts h.2⟩
end
theorem fig30:∀i:Nat,i<31→(∀c∈L2.ts (Str.ofString (toString (0+(i:Int)))),c∈qM)∧(L2.ts (Str.ofString (toString (0+(i:Int))))).length≤2:=by decide+kernel
theorem zLi{w r:List Nat}(h:yJ w=true)(hr:∀c∈r,c∈qM)(hl:r.length≤2):yJ (w.take 9++r)=true:=by
 cases w with
 | nil=>exact absurd h (by decide)
 | cons c w=>
  unfold yJ at h;simp only[nZ,pC,nV] at h;refine zAk ?_ ⟨c,w.take 8++r,rfl,h.1.2⟩ fun d hd=>?_
  ·rw[mL,nU];lia
  ·rcases nD.mp hd with z | z
   ·exact h.2 d (sK z)
   ·exact nP _ (hr d z)
abbrev zTk:Stmt:=top 60
abbrev zTo:Stmt:=top 61
abbrev zZu:Stmt:=top 62
section
variable{P:Program}{w:World}{K:W.Frag}{mg:Str→Option Value}{base:Heap}{f:Addr}{fd:FuncData}
theorem zEj(F:Fun K "_law_thing_by" "_law_thing_by" zDd f fd)(B:Bl mg)(Gc:Dn P w K mg base 1 "_law_cell" ["_law_script","_law_k"] (jV K))(Gn:Dn P w K mg base 1 "_law_number_by" ["_law_more"] zOf)
  (Gt:Dn P w K mg base 2 "_law_text_by" ["_law_more"] zHc) (Gm:Dn P w K mg base 1 "_law_name_by" ["_law_more"] zCw) (b:Binds K fd ["_law_script","_law_k","_law_deep_here"] []) (kp:W.keepIn K (.ref f)=true) (m:mg "_law_thing_by" =some (.ref f)):
  ∀d:Nat,FnOk P w K mg base CX0 (3+d) f fd ["_law_script","_law_k","_law_deep_here"] (kY K d)
 | 0=>zOj F B Gc Gn Gt
 | d+1=>zPg F B Gc Gn Gt Gm ⟨_,_,zEj F B Gc Gn Gt Gm b kp m d,b,kp,m⟩
def qG(K:W.Frag)(n:Nat):Sp:=fun vs H Q E=>∃d,d≤n∧kY K d vs H Q E
theorem zOz{n:Nat}(h:∀d:Nat,FnOk P w K mg base CX0 (3+d) f fd ["_law_script","_law_k","_law_deep_here"] (kY K d)):FnOk P w K mg base CX0 (3+n) f fd ["_law_script","_law_k","_law_deep_here"] (qG K n):=
 ⟨fun vs H Q E ⟨d,_,q⟩=>(h d).len vs H Q E q,fun A outer s H args us vs Q E hr he hb hv ⟨d,hd,hs⟩=>(h d).run A outer s H args us vs Q E (hr.mono (by lia)) he hb hv hs⟩
def zNt(K:W.Frag):Sp:=fun vs H Q _=>∃(a:Addr)(ns:List Int)(k:Int),vs= [.ref a, .int k]∧SqL K H a (ns.map V.int)∧ns.length≤63∧0≤k∧k≤1000∧∀v H' t,Same H H'→Rep H' v t→T.gy t→T.dep t≤8→T.sz t≤200→Q v H'
def zUi(K:W.Frag):Sp:=fun vs H Q _=>∃(a:Addr)(ns:List Int)(k:Int),vs= [.ref a, .int k]∧SqL K H a (ns.map V.int)∧ns.length≤63∧0≤k∧k≤1000∧∀v H' t,Same H H'→Rep H' v t→T.gy t→T.dep t≤8→T.sz t≤30→Q v H'
theorem scDeep:zP ["_law_script","_law_k","_law_thing","_law_j","_law_more"] ["_law_script","_law_k"] (zH zTk):=by walk_at "sc"
theorem zXl(F:Fun K "_law_deep" "_law_deep" zTk f fd)(B:Bl mg)(G_law_cell:Dn P w K mg base 1 "_law_cell" ["_law_script","_law_k"] (jV K))(G_law_thing_by:Dn P w K mg base (3+3) "_law_thing_by" ["_law_script","_law_k","_law_deep_here"] (qG K 3))
  (G_law_name_by:Dn P w K mg base 1 "_law_name_by" ["_law_more"] zCw):FnOk P w K mg base CX0 7 f fd ["_law_script","_law_k"] (zUi K):=by
 refine F.ok scDeep (by walk_at "ln") fun c A o s H vs Q E hr h=>?_;obtain⟨a,ns,k,rfl,hS,h63,k0,k1,q⟩:=h;have nd:=scDeep.nd;have hu:=jC hr;refine⟨_,(zC (pS 2 nd (pD G_law_thing_by hr (zA (pv 0) (zA (zK yP (pv 1) zD) (zA zD zB)))))
  (zC (qD PassesOwn.never rfl (xY rfl B.range (zA (zK yP zD (zK yC (pD G_law_cell hr (zA (pv 0) (zA (pv 1) zB))) zD)) zB)) (zW (i:=3) nd rfl (nO rfl)) (zC (pS 4 nd (pD G_law_cell hr (zA (pv 0) (zA (zK yP (zK yP (pv 1) zD) (pv 3)) zB))))
  (zF (zR (zU xM (zK yC (pv 4) zD) zD (zQ _)) (zF (pS 2 nd (zXk (zSc (pD G_law_name_by hr (zA (zK yA (pv 4) zD) zB)) (pv 2) zWr) (by rfl) (by rfl) (tG _ _) (by decide)))) (zF (pS 2 nd (yE ix_list (yT (zA (yT (zA (pv 2) zB)) (zA (yT (zA (zK yC (zK yA (pv 4) zD) zD) (zA (pv 2) (zA zAj zB)))) zB))) (zK vC (zK yC (pv 4) zD) zD) (fun _ _=>rfl))))))))
  (zF (zJ (pv 2))))), ?_⟩
 walk_at "st";walk_at "rd3";refine⟨0,by decide,a,ns,k+1,rfl,hS,h63,by lia,by show(k+1+2)*1≤1000000;lia,fun v0 H1 g1 hv0=>?_⟩;have hn0:=kO ns 0 (k+1);have hd0:=Nice.dep _ hn0;have hs0:=Nice.sz _ hn0;have hf0:=Nice.gy _ hn0;generalize thT ns 0 (k+1)=t0 at*;refine vI (g1.seq hS) h63 (by lia) (by lia) fun H2 g2=>⟨_,rfl,by lia,by lia, ?_⟩;have hm9:(1+yO ns k % 8).toNat≤8:=by lia
 generalize (1+yO ns k % 8).toNat=m at hm9⊢;have g:=g1.trans g2;refine kD (fun i σ H3=>(∃u o3 o4 t',σ= [some (V.ref a),some (V.int k),some u,o3,o4]∧Rep H3 u t'∧T.gy t'∧T.dep t'≤i∧T.sz t'≤1+3*i)∧Same H H3) ⟨⟨v0,_,_,t0,rfl,Rep.same g2 _ _ hv0,hf0,hd0,by lia⟩,g⟩ ?_ ?_
 ·rintro i σ H3 hi ⟨⟨u,o3,o4,t',rfl,hu',q1,q2,q3⟩,g3⟩
  walk_at "rd3";refine vI (g3.seq hS) h63 (by lia) (by lia) fun H4 g4=>?_;have c0:=jB ns (k+2+(0+(i:Int)));have c1:=kG ns (k+2+(0+(i:Int)));generalize yO ns (k+2+(0+(i:Int)))=m at c0 c1⊢;refine⟨m,rfl, ?_⟩;split
  ·intro p hp
   refine⟨m,rfl,_,rfl,by lia,by lia,fun H5 g5=>?_⟩;have hnok:=kQ (m / 3);generalize kK (m / 3)=nm at*;refine⟨g5 _ _ zE,[(nK nm,u)],rfl,by simp, ?_⟩;have em:vE [] [((nK nm:Key),u)]= [((nK nm:Key),u)]:=rfl;rw[em];have G:Same H3 (upd H5 p (.dK [(nK nm,u)])):=(g4.trans ((zG hp _).trans g5)).put (xA g4 hp) _;refine⟨⟨.ref p,⟨rfl,_,rfl⟩, .dic [nm] [t'],⟨p,_,rfl,zE,rfl,⟨u,[],rfl,Rep.same G u t' hu',rfl⟩⟩,⟨by simp,by simp,rfl,fun k hk=>by rw[mP.mp hk];exact hnok,q1,mN⟩, ?_, ?_⟩,g3.trans G⟩
   ·show max (T.dep t') 0+1≤_
    lia
   ·show T.sz t'+0+1≤_
    lia
  ·intro pL hpL
   refine⟨m,rfl,fun pD hpD pO hpO=>⟨m,rfl, ?_⟩⟩;have sL:=zG hpL (.lst [u]);have sD:=zG hpD (.lst [V.int (m / 3 % 9),u,V.non]);have sO:=zG hpO (.lst [V.ref pL,V.ref pD]);have GG:=g4.trans (sL.trans (sD.trans sO));obtain⟨x,hx,hm⟩:=yCu (xs:=[V.ref pL,V.ref pD]) (i:=m % 3 - 1) (by lia) (by simp only[mS,nX];lia);refine yK (SqL.of zE) hx ⟨⟨x,⟨rfl,_,rfl⟩, ?_⟩,g3.trans GG⟩;simp only[mG,tF,dN] at hm;rcases hm with rfl | rfl
   ·refine⟨.lst [t'],⟨pL,[u],rfl,(sD.trans sO) _ _ zE,⟨u,[],rfl,Rep.same GG u t' hu',rfl⟩⟩,⟨by simp,q1,mN⟩, ?_, ?_⟩
    ·show max (T.dep t') 0+1≤_
     lia
    ·show T.sz t'+0+1≤_
     lia
   ·refine⟨.lst [.int (m / 3 % 9),t', .non],⟨pD,_,rfl,sO _ _ zE,⟨_,_,rfl,rfl,⟨u,_,rfl,Rep.same GG u t' hu',⟨_,_,rfl,rfl,rfl⟩⟩⟩⟩,⟨by simp,(show -(10 ^ 12)≤m / 3 % 9∧m / 3 % 9≤10 ^ 12 by lia),q1,mN,mN⟩, ?_, ?_⟩
    ·show max 0 (max (T.dep t') (max 0 0))+1≤_
     lia
    ·show 1+(T.sz t'+(1+0))+1≤_
     lia
 ·rintro σ H3 ⟨⟨u,o3,o4,t',rfl,hu',q1,q2,q3⟩,g3⟩
  walk_at "rd3";exact q u H3 t' g3 hu' q1 (by lia) (by lia)
theorem zJb{H:Hp}:∀n:Nat,Reps H (List.replicate n V.non) (List.replicate n T.non)
 | 0=>rfl
 | n+1=>⟨V.non,List.replicate n V.non,rfl,rfl,zJb n⟩
theorem zNs:∀n:Nat,T.szs (List.replicate n T.non)=n
 | 0=>rfl
 | n+1=>by
  show 1+T.szs (List.replicate n T.non)=n+1;rw[zNs n];lia
theorem zIq:∀n:Nat,T.deps (List.replicate n T.non)=0
 | 0=>rfl
 | n+1=>by
  show max 0 (T.deps (List.replicate n T.non))=0;rw[zIq n];rfl
theorem zIe{α:Type}(x:α):∀n:Nat,(List.replicate n [x]).flatten=List.replicate n x
 | 0=>rfl
 | n+1=>by rw[pA,pP,zIe x n,pA];rfl
theorem zIc:∀n:Nat,T.gys (List.replicate n T.non)
 | 0=>mN
 | n+1=>⟨mN,zIc n⟩
theorem zAr:∀{us:List T},(∀t∈us,Nice 0 t)→T.gys us∧T.deps us≤0∧T.szs us≤us.length
 | [],_=>⟨mN,mD _,mD _⟩
 | t::us,h=>by
  obtain⟨h1,h2,h3⟩:=zAr fun u hu=>h u (mH _ hu);have ht:=h t mF;have d1:=Nice.dep _ ht;have d2:T.sz t≤1:=Nice.sz _ ht;refine⟨⟨Nice.gy _ ht,h1⟩, ?_, ?_⟩
  ·show max (T.dep t) (T.deps us)≤0
   lia
  ·show T.sz t+T.szs us≤us.length+1
   lia
theorem zFt{H:Hp}:∀is:List Int,Reps H (is.map V.int) (is.map T.int)
 | []=>rfl
 | i::is=>⟨V.int i,_,rfl,rfl,zFt is⟩
theorem zEm:∀is:List Int,T.deps (is.map T.int)≤0
 | []=>mD _
 | i::is=>by
  have:=zEm is;show max 0 (T.deps (is.map T.int))≤0
  lia
theorem zKb:∀is:List Int,T.szs (is.map T.int)≤is.length
 | []=>mD _
 | i::is=>by
  have:=zKb is;show 1+T.szs (is.map T.int)≤is.length+1
  lia
theorem zFf:∀is:List Int,(∀i∈is,0≤i∧i≤3600)→T.gys (is.map T.int)
 | [],_=>mN
 | i::is,h=>⟨(by have:=h i mF;show -(10 ^ 12)≤i∧i≤10 ^ 12;lia),zFf is fun j hj=>h j (mH _ hj)⟩
theorem scWide:zP ["_law_script","_law_k","_law_more","_law_inner","_law_found","_law_j"] ["_law_script","_law_k"] (zH zTo):=by walk_at "sc"
theorem zWw(F:Fun K "_law_wide" "_law_wide" zTo f fd)(B:Bl mg)(G_law_cell:Dn P w K mg base 1 "_law_cell" ["_law_script","_law_k"] (jV K))(G_law_thing_by:Dn P w K mg base (3+3) "_law_thing_by" ["_law_script","_law_k","_law_deep_here"] (qG K 3))
  (G_law_name_by:Dn P w K mg base 1 "_law_name_by" ["_law_more"] zCw):FnOk P w K mg base CX0 7 f fd ["_law_script","_law_k"] (zNt K):=by
 refine F.ok scWide (by walk_at "ln") fun c A o s H vs Q E hr h=>?_;obtain⟨a,ns,k,rfl,hS,h63,k0,k1,q⟩:=h;have nd:=scWide.nd;have hu:=jC hr;refine⟨_,(zC (pS 2 nd (pD G_law_cell hr (zA (pv 0) (zA (pv 1) zB))))
  (zC (zHv (i:=3) nd rfl (cF rfl) (yV (own:=["_law_j"]) (F:=[("_law_script",0),("_law_k",1)]) ⟨rfl,by walk_at "wu",by walk_at "wu",by walk_at "wu",(.cons rfl rfl rfl (.cons rfl rfl rfl .nil))⟩ rfl (xY rfl B.range (zA zD zB)) (fun _ _ _ _=>zW (i:=0) (by show(xK ["_law_j"] [("_law_script",0),("_law_k",1)]).Nodup;decide+kernel) rfl (nO rfl)) (fun _ _ _ _=>yR) (fun _ _ _ _=>(pD G_law_thing_by hr (zA (pv 1) (zA (zK yP (zK yP (pv 2) zD) (pv 0)) (zA zD zB)))))))
  (zC (zR (zU xM (zK yC (pv 2) zD) zD (zQ _)) (zF (zJ (yV (own:=["_law_j"]) (F:=[("_law_inner",3)]) ⟨rfl,by walk_at "wu",by walk_at "wu",by walk_at "wu",(.cons rfl rfl rfl .nil)⟩ rfl (xY rfl B.range (zA (zK yC (zK yA (pv 2) zD) zD) zB)) (fun _ _ _ _=>zW (i:=0) (by show(xK ["_law_j"] [("_law_inner",3)]).Nodup;decide+kernel) rfl (nO rfl)) (fun _ _ _ _=>yR) (fun _ _ _ _=>(yE (zTa (K:=K) rfl) (pv 1) (zK yC (pv 0) zD) (fun _ _=>rfl)))))) zL)
  (zC (pS 4 nd zDe)
  (zC (qD PassesOwn.never rfl (xY rfl B.range (zA (zK yC (zK yA (pv 2) zD) zD) zB)) (zW (i:=5) nd rfl (nO rfl)) (zF (zFy hu (pv 4) (zK xI (xQ zCr (pD G_law_name_by hr (zA (zK yA (pv 2) zD) zB)) wG (wC zD)) (yU jJ rfl B.str vM (zA (pv 5) zB))) (yE ix_list (pv 3) (zK yC (pv 5) zD) (fun _ _=>rfl)) rfl)))
  (zC (zR (zU xM (zK yC (pv 2) zD) zD (zQ _)) (zF (zJ (pv 4))) zL)
  (zF (zJ (yT (zA (pv 4) (zA (yV (own:=["_law_j"]) (F:=[]) ⟨rfl,by walk_at "wu",by walk_at "wu",by walk_at "wu", .nil⟩ rfl (xY rfl B.range (zA (zK yC (zK yA (pv 2) zD) zD) zB)) (fun _ _ _ _=>zW (i:=0) (by show(xK ["_law_j"] []).Nodup;decide+kernel) rfl (nO rfl)) (fun _ _ _ _=>yR) (fun _ _ _ _=>(zK vV (pv 0) (pv 0)))) (zA (yT (zA (yT zB) (zA zDe (zA (zK yDh (yT (zA zAj zB)) (zK yC (zK yA (pv 2) zD) zD)) zB)))) zB)))))))))))), ?_⟩
 walk_at "st";walk_at "rd3";refine vI hS h63 (by lia) (by lia) fun H1 g1=>?_;have c0:=jB ns k;have c1:=kG ns k;generalize yO ns k=m at c0 c1⊢;refine vK (fun i ys H'=>Same H1 H'∧∃ts,Reps H' ys ts∧ts.length=i∧∀t∈ts,Nice 0 t) (by decide) ⟨Same.refl _,[],rfl,rfl,fun _ h=>(nomatch h)⟩ ?_ ?_
 ·rintro i ys H' hi _ ⟨hs,ts,hR,hl,hN⟩
  walk_at "rd3";refine⟨0,by decide,a,ns,_,rfl,(g1.trans hs).seq hS,h63,by lia,by show(k+1+(0+(i:Int))+2)*1≤1000000;lia,fun v H2 g2 hv=>⟨hs.trans g2,ts++ [_],Reps.snoc hv (Reps.same g2 _ _ hR),by simp[hl],fun t ht=>?_⟩⟩;rcases nD.mp ht with z | z
  ·exact hN t z
  ·rw[mP.mp z];exact kO ns 0 _
 ·rintro ys H' hl ⟨hs,ts,hR,hlen,hN⟩ pI hpI
  have hyl:=hR.length;have sI:=zG hpI (.lst ys);have hI:upd H' pI (.lst ys) pI=some (.lst ys):=zE;have gI:=g1.trans (hs.trans sI);have hR:=Reps.same sI _ _ hR;generalize upd H' pI (.lst ys)=HI at sI hI gI hR⊢;have pick:∀i:Int,0≤i→∃x t,atI ys (i % 4)=some x∧Rep HI x t∧Nice 0 t:=fun i h0=>by
   have h4:(i % 4).toNat<ys.length:=by lia
   obtain⟨t,ht,hr'⟩:=hR.get (i:=(i % 4).toNat) (v:=ys[(i % 4).toNat]) (by simp[h4]);refine⟨ys[(i % 4).toNat],t, ?_,hr',hN t (mQ ht)⟩;rw[vW (d:=V.non) (by lia) (by lia),nS,nF h4]
   rfl
  refine⟨m,rfl, ?_⟩;split
  ·refine⟨m,rfl,by lia,by lia, ?_⟩
   have hr:(m / 3 % 61).toNat≤60:=by lia
   generalize (m / 3 % 61).toNat=r at hr⊢;refine vK (fun i zs H2=>Same HI H2∧∃us,Reps H2 zs us∧us.length=i∧∀t∈us,Nice 0 t) (by rw[mU];lia) ⟨Same.refl _,[],rfl,rfl,fun _ h=>(nomatch h)⟩ ?_ ?_
   ·rintro i zs H2 hi _ ⟨g2,us,hU,hul,hUN⟩
    walk_at "rd3";obtain⟨x,t,hx,hxt,hxn⟩:=pick (0+(i:Int)) (by lia);refine yK (SqL.of (g2 _ _ hI)) hx ⟨g2,us++ [t],Reps.snoc (Rep.same g2 _ _ hxt) hU,by simp[hul],fun u hu=>?_⟩;rcases nD.mp hu with z | z
    ·exact hUN u z
    ·rw[mP.mp z];exact hxn
   ·rintro zs H2 _ ⟨g2,us,hU,hul,hUN⟩ p hp
    obtain⟨n1,n2,n3⟩:=zAr hUN;refine q (.ref p) _ (.lst us) (gI.trans (g2.trans (zG hp _))) ⟨p,zs,rfl,zE,Reps.same (zG hp _) _ _ hU⟩ ⟨by lia,n1⟩ ?_ ?_
    ·show T.deps us+1≤8
     lia
    ·show T.szs us+1≤200
     lia
  ·intro pD hpD
   refine⟨m,rfl,by lia,by lia, ?_⟩;have hr:(m / 3 % 31).toNat≤30:=by lia
   generalize (m / 3 % 31).toNat=r at hr⊢;refine kD (fun i σ H2=>(∃o,σ= [some (V.ref a),some (V.int k),some (V.int m),some (V.ref pI),some (V.ref pD),o])∧Same HI H2∧∃ps ks us,H2 pD=some (.dK ps)∧ps.map (·.1)=ks.map nK∧Reps HI (ps.map (·.2)) us∧ks.Nodup∧(∀u∈us,Nice 0 u)∧ks.length≤i∧∀k∈ks,yJ k=true) ⟨⟨_,rfl⟩,zG hpD _,[],[],[],zE,rfl,rfl,sC,fun _ h=>(nomatch h),mD _,fun _ h=>(nomatch h)⟩ ?_ ?_
   ·rintro i σ H2 hi ⟨⟨o,rfl⟩,g2,ps,ks,us,hd,hk,hU,hnd,hUN,hkl,hkn⟩
    walk_at "rd3";obtain⟨x,t,hx,hxt,hxn⟩:=pick (0+(i:Int)) (by lia);have hnok:=vZ (kQ (m / 93));have hil:=zXc (i:=0+(i:Int)) ⟨by lia,by lia⟩;have hplen:=congrArg List.length hk;simp only[mJ] at hplen;have hsl:(Txt.slice (tx (kK (m / 93))) none (some 9)).length≤12:=by
     rw[show(9:Int)=((9:Nat):Int) from rfl,zCd,yN,nU];have:(L2.ts (tx (kK (m / 93)))).length=(kK (m / 93)).length:=rfl
     lia
    refine yK (SqL.of (g2 _ _ hI)) hx ⟨_,rfl,by lia,by lia,fun H3 g3=>?_⟩;refine⟨_,rfl,by rw[yN,mU];lia,zQa (by lia) (by lia),_,rfl,by lia, ?_⟩;have hnm:yJ (L2.ts (Txt.slice (tx (kK (m / 93))) none (some 9)++Str.ofString (toString (0+(i:Int)))))=true:=by
     obtain⟨f1,f2⟩:=fig30 i (by lia);have:=zLi (kQ (m / 93)) f1 f2;rw[show(9:Int)=((9:Nat):Int) from rfl,zCd,xD];rw[show Str.ofString (toString (0+(i:Int)))=tx (L2.ts (Str.ofString (toString (0+(i:Int))))) from(kJ _).symm,vD,xD];exact this
    generalize Txt.slice (tx (kK (m / 93))) none (some 9)++Str.ofString (toString (0+(i:Int)))=z at hnm⊢;have ez:(Sum.inr z:Key)=nK (L2.ts z):=by rw[nK,kJ]
    refine⟨_,DPut.k (k:=Sum.inr z) (g3 _ _ hd) (by rw[mU];lia),⟨_,rfl⟩,(g2.trans g3).put hpD _, ?_⟩;rw[ez];obtain⟨ks',us',e1,e2,e3,e4,e5,e6⟩:=zWb (n:=L2.ts z) hk hU hnd hxt;refine⟨_,zE,ks',e1,us',e2,e3,fun u hu=>?_,by lia,fun k hk=>?_⟩
    ·rcases e5 u hu with c | c
     ·exact hUN u c
     ·rw[c];exact hxn
    ·rcases e4 k hk with c | c
     ·exact hkn k c
     ·rw[c];exact hnm
   ·rintro σ H2 ⟨⟨o,rfl⟩,g2,ps,ks,us,hd,hk,hU,hnd,hUN,hkl,hkn⟩
    walk_at "rd3";have hplen:=congrArg List.length hk;simp only[mJ] at hplen;have hulen:=hU.length;rw[mJ] at hulen;obtain⟨n1,n2,n3⟩:=zAr hUN;have hrep:Rep H2 (.ref pD) (.dic ks us):=⟨pD,ps,rfl,hd,hk,Reps.same g2 _ _ hU⟩;have hfew:T.gy (.dic ks us):=⟨hnd,by lia,by lia,hkn,n1⟩;have G2:=gI.trans g2;split
    ·refine q _ _ _ G2 hrep hfew ?_ ?_
     ·show T.deps us+1≤8
      lia
     ·show T.szs us+1≤200
      lia
    ·refine⟨by lia,by lia, ?_⟩
     have hr:(m / 5 % 61).toNat≤60:=by lia
     generalize (m / 5 % 61).toNat=r5 at hr⊢;refine vK (fun i zs H3=>Same H2 H3∧∃is:List Int,zs=is.map V.int∧is.length=i∧∀j∈is,0≤j∧j≤3600) (by rw[mU];lia) ⟨Same.refl _,[],rfl,rfl,fun _ h=>(nomatch h)⟩ ?_ ?_
     ·rintro i zs H3 hi _ ⟨g3,is,rfl,hil,hib⟩
      walk_at "rd3";refine⟨.inl (by lia),g3,is++ [(0+(i:Int))*(0+(i:Int))],by simp,by simp[hil],fun j hj=>?_⟩;rcases nD.mp hj with z | z
      ·exact hib j z
      ·rw[mP.mp z]
       have h1:(0:Int)≤0+(i:Int):=by lia
       have h2:0+(i:Int)≤60:=by lia
       exact⟨Int.mul_nonneg h1 h1,Int.le_trans (aZ h2 h1) (dC h2 (by decide))⟩
     ·rintro zs H3 _ ⟨g3,is,rfl,hil,hib⟩ pR hpR pE hpE pN hpN pV hpV
      have hr7:(m / 7 % 61).toNat≤60:=by lia
      refine⟨pV,m / 7 % 61,[V.non],rfl,rfl,zE,by lia,by lia,by rw[mU];simp only[mS,nX];lia,fun pW hpW pM hpM pO hpO=>?_⟩;rw[zIe] at*;generalize (m / 7 % 61).toNat=r7 at*;have sR:=zG hpR (.lst (is.map V.int));have sE:=zG hpE (.lst []);have sN:=zG hpN (.dK []);have sV:=zG hpV (.lst [V.non]);have sW:=zG hpW (.lst (List.replicate r7 V.non));have sM:=zG hpM (.lst [V.ref pE,V.ref pN,V.ref pW]);have sO:=zG hpO (.lst [V.ref pD,V.ref pR,V.ref pM]);have s1:=sM.trans sO;have s2:=sW.trans s1;have s3:=sV.trans s2;have s4:=sN.trans s3;have s5:=sE.trans s4;have G:=g3.trans (sR.trans s5);refine q (.ref pO) _ (.lst [.dic ks us, .lst (is.map T.int), .lst [.lst [], .dic [] [], .lst (List.replicate r7 .non)]]) (G2.trans G) ?_ ?_ ?_ ?_
      ·refine⟨pO,_,rfl,zE,⟨_,_,rfl,Rep.same G _ _ hrep,⟨_,_,rfl,⟨pR,_,rfl,s5 _ _ zE, ?_⟩,⟨_,_,rfl,⟨pM,_,rfl,sO _ _ zE,⟨_,_,rfl,⟨pE,[],rfl,s4 _ _ zE,rfl⟩,⟨_,_,rfl,⟨pN,[],rfl,s3 _ _ zE,rfl,rfl⟩,⟨_,_,rfl,⟨pW,_,rfl,s1 _ _ zE,zJb r7⟩,rfl⟩⟩⟩⟩,rfl⟩⟩⟩⟩
       exact zFt is
      ·refine⟨by simp,hfew,⟨by rw[mJ];lia,zFf is hib⟩,⟨by simp,⟨by simp,mN⟩,⟨by simp,by simp,rfl,fun _ h=>(nomatch h),mN⟩,⟨by simp;lia,zIc r7⟩,mN⟩,mN⟩
      ·have e1:=zEm is
       have e2:=zIq r7;show max (T.deps us+1) (max (T.deps (is.map T.int)+1) (max (max (0+1) (max (0+1) (max (T.deps (List.replicate r7 T.non)+1) 0))+1) 0))+1≤8
       lia
      ·have e1:=zKb is
       have e2:=zNs r7;show(T.szs us+1)+((T.szs (is.map T.int)+1)+((((0+1)+((0+1)+((T.szs (List.replicate r7 T.non)+1)+0)))+1)+0))+1≤200
       lia
theorem scAny:zP ["_law_script","_law_k","_law_more"] ["_law_script","_law_k"] (zH zZu):=by walk_at "sc"
theorem yCb(F:Fun K "_law_any" "_law_any" zZu f fd)(B:Bl mg)(G_law_cell:Dn P w K mg base 1 "_law_cell" ["_law_script","_law_k"] (jV K))(G_law_thing_by:Dn P w K mg base (3+3) "_law_thing_by" ["_law_script","_law_k","_law_deep_here"] (qG K 3))
  (G_law_deep:Dn P w K mg base 7 "_law_deep" ["_law_script","_law_k"] (zUi K)) (G_law_wide:Dn P w K mg base 7 "_law_wide" ["_law_script","_law_k"] (zNt K)):FnOk P w K mg base CX0 8 f fd ["_law_script","_law_k"] (zNt K):=by
 refine F.ok scAny (by walk_at "ln") fun c A o s H vs Q E hr h=>?_;obtain⟨a,ns,k,rfl,hS,h63,k0,k1,q⟩:=h;have nd:=scAny.nd;refine⟨_,(zC (pS 2 nd (pD G_law_cell hr (zA (pv 0) (zA (zK yP (pv 1) zD) zB))))
  (zC (zR (zU xM (zK yC (pv 2) zD) zD (zQ _)) (zF (zJ (pD G_law_deep hr (zA (pv 0) (zA (pv 1) zB))))) zL)
  (zC (zR (zU xM (zK yC (pv 2) zD) zD (zQ _)) (zF (zJ (pD G_law_wide hr (zA (pv 0) (zA (pv 1) zB))))) zL)
  (zF (zJ (pD G_law_thing_by hr (zA (pv 0) (zA (pv 1) (zA (zK yP zD (zK yC (zK yA (pv 2) zD) zD)) zB))))))))), ?_⟩
 walk_at "st";walk_at "rd3";refine vI hS h63 (by lia) (by lia) fun H1 g1=>?_;have c0:=jB ns (k+3);generalize yO ns (k+3)=m at c0⊢;refine⟨m,rfl, ?_⟩;split
 ·exact⟨a,ns,k,rfl,g1.seq hS,h63,k0,k1,fun v H2 t g2 hv hf hd hz=>q v H2 t (g1.trans g2) hv hf hd (by lia)⟩
 ·refine⟨m,rfl, ?_⟩
  split
  ·exact⟨a,ns,k,rfl,g1.seq hS,h63,k0,k1,fun v H2 t g2=>q v H2 t (g1.trans g2)⟩
  ·refine⟨m,rfl, ?_⟩
   obtain⟨d,hd,hd3⟩:∃d:Nat,1+m / 8 % 3=(d:Int)∧d≤3:=⟨(1+m / 8 % 3).toNat,by lia,by lia⟩;rw[hd];have hn:=kO ns d k;refine⟨d,hd3,a,ns,k,rfl,g1.seq hS,h63,k0, ?_,fun v H2 g2 hv=>q v H2 _ (g1.trans g2) hv (Nice.gy _ hn) ?_ ?_⟩
   ·have:(5:Int)^ d≤5 ^ 3:=by
     rcases(by lia:d=0∨d=1∨d=2∨d=3) with rfl | rfl | rfl | rfl<;>decide
    have h2:(k+2)*5 ^ d≤(k+2)*5 ^ 3:=aZ this (by lia)
    lia
   ·have:=Nice.dep _ hn
    lia
   ·have:=Nice.sz _ hn
    have h5:5 ^ d≤5 ^ 3:=Nat.pow_le_pow_right (by decide) hd3
    lia
abbrev sLo:Stmt:=top 37
def zS:T→Key→Option T
 | .lst us, .inl i=>us[i.toNat]?
 | .dic ks us, .inr s=>if ts s∈ks then some (yD (ts s) ks us) else none
 | _,_=>none
def okK:Key→Prop
 | .inl i=>0≤i∧i≤59
 | .inr _=>True
theorem zRp{H:Hp}{ps:List (Key×V)}{ks:List (List Nat)}{us:List T}(nk:ks.Nodup)(hk:ps.map (·.1)=ks.map nK)(hs:Reps H (ps.map (·.2)) us)(s:Str):(qL ps (Sum.inr s)).isSome=decide (ts s∈ks):=by
 by_cases hm:ts s∈ks
 ·obtain⟨v,h1,_⟩:=Rep.at_name nk hk hs hm
  rw[kJ] at h1;rw[h1,mZ hm]
  rfl
 ·rw[nJ hm,zEw (by
   rw[hk];intro z;obtain⟨k,h1,h2⟩:=nM.mp z;have e:tx k=s:=Sum.inr.inj h2;rw[←e,xD] at hm;exact hm h1)]
  rfl
theorem zUx{K:W.Frag}{H:Hp}{v:V}{t:T}{k:Key}{Q:VK}(hv:Rep H v t)(hp:T.pure t)(hk:okK k)(q:Q (.bl (zS t k).isSome) H):∃x,tyS H (kV k)=some x∧if zN x "str" =true then∃x,tyS H v=some x∧if zN x "dict" =true then tDIn (zBh 1) (zBh 0) [some v,some (kV k)] H Q else Q (V.bl false) H
  else∃x,tyS H v=some x∧if zN x "list" =true then∃p,v=V.ref p∧∃ys,SqL K H p ys∧∃i,kV k=V.int i∧Q (V.bl (decide (i<(ys.length:Int)))) H else Q (V.bl false) H:=by
 cases k with
 | inl i=>
  have hi:0≤i:=hk.1;refine⟨"int",rfl,iN (by decide) ⟨_,hv.ty, ?_⟩⟩
  cases t with
  | lst us=>
   obtain⟨a,xs,rfl,ha,hx⟩:=hv;refine iP rfl ⟨a,rfl,xs,SqL.of ha,i,rfl, ?_⟩;have hl:=hx.length;have e:(zS (.lst us) (.inl i)).isSome=decide (i<(xs.length:Int)):=by
    show(us[i.toNat]?).isSome=_
    by_cases c:i.toNat<us.length
    ·rw[nF c,mZ (by lia)]
     rfl
    ·rw[sB (by lia),nJ (by lia)]
     rfl
   rw[←e];exact q
  | non=>exact iN (by simp[tyT,zN]) q
  | bl b=>exact iN (by simp[tyT,zN]) q
  | int b=>exact iN (by simp[tyT,zN]) q
  | str b=>exact iN (by simp[tyT,zN]) q
  | dic ks us=>exact iN (by simp[tyT,zN]) q
  | tup us=>exact hp.elim
 | inr s=>
  refine⟨"str",rfl,iP (by decide) ⟨_,hv.ty, ?_⟩⟩
  cases t with
  | dic ks us=>
   obtain⟨a,ps,rfl,ha,hkk,hx⟩:=hv;refine iP rfl ⟨kV (.inr s),rfl, .ref a,rfl,a,_,rfl, .inl ⟨ps, .inr s, .inl ha,rfl,rfl⟩, ?_⟩;rw[zRp hp.1 hkk hx];have e:(zS (.dic ks us) (.inr s)).isSome=decide (ts s∈ks):=by
    show(if ts s∈ks then some (yD (ts s) ks us) else none).isSome=_
    by_cases c:ts s∈ks
    ·rw[mK c,mZ c];rfl
    ·rw[mI c,nJ c];rfl
   rw[←e];exact q
  | non=>exact iN (by simp[tyT,zN]) q
  | bl b=>exact iN (by simp[tyT,zN]) q
  | int b=>exact iN (by simp[tyT,zN]) q
  | str b=>exact iN (by simp[tyT,zN]) q
  | lst us=>exact iN (by simp[tyT,zN]) q
  | tup us=>exact hp.elim
def zPp:Sp:=fun vs H Q _=>∃(v:V)(t:T)(k:Key),vs= [v,kV k]∧Rep H v t∧T.pure t∧T.sz t≤100000∧okK k∧∀H',Same H H'→Q (.bl (zS t k).isSome) H'
theorem scLo:zP ["thing","step"] ["thing","step"] (zH sLo):=by walk_at "sc"
theorem ok_lo(F:Fun K "leads_on" "leads_on" sLo f fd)(B:Bl mg):FnOkH P w K mg base 1 f fd ["thing","step"] zPp:=by
 refine F.okh scLo (by walk_at "ln") fun c A o s H vs Q E hr h=>?_;obtain⟨v,t,k,rfl,hv,hp,hz,hk,q⟩:=h;have nd:=scLo.nd;have hu:=hr.hu;refine⟨_,(zC (zR (zT (pI B.isinstance zI B.str vM (pv 1))) (zF (zJ (xN (pI B.isinstance zI B.dict xF (pv 0)) (xJ (zKy (zUq hu (pv 1) (pv 0))))))) zL)
  (zF (zJ (xN (pI B.isinstance zI B.list xT (pv 0)) (xJ (yG zBb (pv 1) (zM zY rfl B.len yH (zA (pv 0) zB)) (zQ _))))))), ?_⟩
 walk_at "st";walk_at "rd3";exact zUx hv hp hk (q _ (Same.refl _))
abbrev sSt:Stmt:=top 36
abbrev yBc:Stmt:=top 34
def goT:T→List Key→List T
 | t,[]=>[t]
 | t,k::ks=>match zS t k with
  | none=>[t]
  | some u=>t::goT u ks
theorem zNq{H:Hp}{c:V}{u u':T}{k:Key}(hc:Rep H c u)(hpu:T.pure u)(hzu:T.sz u≤100000)(hk:okK k)(hs:zS u k=some u'):
  ∃c',Rep H c' u'∧T.pure u'∧T.sz u'≤100000∧((∃b zs j,c= .ref b∧H b=some (.lst zs)∧kV k= .int j∧atI zs j=some c')∨(∃b qs,c= .ref b∧H b=some (.dK qs)∧qL qs k=some c')):=by
 cases k with
 | inl j=>
  have hj:0≤j:=hk.1
  cases u with
  | lst vs=>
   have hs':vs[j.toNat]? =some u':=hs;obtain⟨b,zs,rfl,hb,hzs⟩:=hc;have hm:=mQ hs';have hzl:=hzs.length;have hjl:=(nE.mp hs').1;have hjz:j.toNat<zs.length:=by lia
   obtain⟨t',ht',hr'⟩:=hzs.get (nF hjz);rw[hs'] at ht';cases ht';have d2:=T.szs_le hm;have hzz:T.szs vs+1≤100000:=hzu;have hat:atI zs j=some zs[j.toNat]:=by
    have z:=yM (j:=j.toNat) (nF hjz)
    rwa [show((j.toNat:Nat):Int)=j by lia] at z
   exact⟨_,hr',T.pures_mem hpu hm,by lia, .inl ⟨b,zs,j,rfl,hb,rfl,hat⟩⟩
  | non=>cases hs
  | bl b=>cases hs
  | int b=>cases hs
  | str b=>cases hs
  | dic ks' us'=>cases hs
  | tup us'=>cases hs
 | inr z=>
  cases u with
  | dic ks' vs=>
   have hs':(if ts z∈ks' then some (yD (ts z) ks' vs) else none)=some u':=hs
   by_cases hm:ts z∈ks'
   ·rw[mK hm] at hs'
    cases hs';obtain⟨b,qs,rfl,hb,hkk,hx'⟩:=hc;obtain⟨c',h1,h2⟩:=Rep.at_name hpu.1 hkk hx' hm;rw[kJ] at h1;have hzz:T.szs vs+1≤100000:=hzu;have hlq:ks'.length=vs.length:=by
     have e1:=congrArg List.length hkk;have e2:=hx'.length;rw[mJ,mJ] at e1;rw[mJ] at e2
     lia
    have hmm:=wS hm hlq;have d2:=T.szs_le hmm;exact⟨c',h2,T.pures_mem hpu.2 hmm,by lia, .inr ⟨b,qs,rfl,hb,h1⟩⟩
   ·rw[mI hm] at hs'
    cases hs'
  | non=>cases hs
  | bl b=>cases hs
  | int b=>cases hs
  | str b=>cases hs
  | lst us'=>cases hs
  | tup us'=>cases hs
def yAf:Sp:=fun vs H Q _=>∃(v:V)(t:T)(pa:Addr)(ks:List Key),vs= [v, .ref pa]∧Rep H v t∧T.pure t∧T.sz t≤100000∧H pa=some (.lst (ks.map kV))∧(∀k∈ks,okK k)∧ks.length≤8∧∀p xs H',Same H H'→H' p=some (.lst xs)→Reps H' xs (goT t ks)→Q (.ref p) H'
theorem scSt:zP ["thing","path","stops","step"] ["thing","path"] (zH sSt):=by walk_at "sc"
theorem ok_st(F:Fun K "stops_on" "stops_on" sSt f fd)(B:Bl mg)(Gleads_on:Dh P w K mg base 1 "leads_on" ["thing","step"] zPp):FnOkH P w K mg base 2 f fd ["thing","path"] yAf:=by
 refine F.okh scSt (by walk_at "ln") fun c A o s H vs Q E hr h=>?_;obtain⟨v,t,pa,ks,rfl,hv,hp,hz,hpa,hks,h8,q⟩:=h;have nd:=scSt.nd;have hu:=hr.hu;refine⟨_,(zC (pS 2 nd (yT (zA (pv 0) zB)))
  (zC (qD PassesOwn.never rfl (xU (pv 1)) (zW (i:=3) nd rfl (nO rfl)) (zC (zR (xC (zT (wV Gleads_on hr (by lia) rfl (zA (yE ix_list (pv 2) (wT xW zD) (fun _ _=>rfl)) (zA (pv 3) zB))))) (zF (zJ (pv 2))) zL)
  (zF (kZ (uU aL bQ PySem.F.type_list_append zEx (pv 2) (zA (zAe (yE ix_list (yE ix_list (pv 2) (wT xW zD) (fun _ _=>rfl)) (pv 3) (fun _ _=>rfl)) (jM hu (yE ix_list (pv 2) (wT xW zD) (fun _ _=>rfl)) (pv 3) (fun _ _=>rfl))) zB))))))
  (zF (zJ (pv 2))))), ?_⟩
 walk_at "st";walk_at "rd3";intro ps hps;have hne:pa≠ps:=fun z=>by rw[z,hps] at hpa;cases hpa
 refine⟨⟨_,SqL.of (zG hps _ _ _ hpa)⟩,jD (K:=K) (a:=pa) (xs:=ks.map kV) (fun i σ' H'=>∃o us u ys c,σ'= [some v,some (.ref pa),some (.ref ps),o]∧Same H H'∧H' ps=some (.lst (ys++ [c]))∧Reps H ys us∧Rep H c u∧us.length=i∧goT t ks=us++goT u (ks.drop i)∧T.pure u∧T.sz u≤100000)
  ⟨none,[],t,[],v,rfl,zG hps _,zE,rfl,hv,rfl,rfl,hp,hz⟩ (fun i σ' H' _ h=>by
   obtain⟨o,us,u,ys,c,_,g,_⟩:=h;exact SqL.of (g _ _ hpa)) ?_ ?_⟩
 ·rintro i x σ' H' hx ⟨o,us,u,ys,c,rfl,g,hS,hR,hc,hl,hg,hpu,hzu⟩
  walk_at "rd3";have hyl:=hR.length;rw[nI] at hx
  cases hki:ks[i]? with
  | none=>rw[hki] at hx;cases hx
  | some k=>
   rw[hki] at hx;have ex:kV k=x:=mV hx;subst ex;have hik:=(nE.mp hki).1;have hdr:ks.drop i=k::ks.drop (i+1):=by
    rw[aA hik,(nE.mp hki).2]
   rw[hdr] at hg;refine yK (SqL.of hS) (qB _ _) ⟨c,u,k,rfl,Rep.same g _ _ hc,hpu,hzu,hks _ (mQ hki),fun H2 g2=>⟨_,rfl, ?_⟩⟩;have hS2:=g2 _ _ hS;have gg:=g.trans g2
   cases hs:zS u k with
   | none=>
    refine iP rfl (q ps _ _ gg hS2 ?_);have e:goT u (k::ks.drop (i+1))= [u]:=by show(match zS u k with | none=>[u] | some u'=>u::goT u' (ks.drop (i+1)))=_;rw[hs]
    rw[hg,e];exact Reps.snoc (Rep.same gg _ _ hc) (Reps.same gg _ _ hR)
   | some u'=>
    have e:goT u (k::ks.drop (i+1))=u::goT u' (ks.drop (i+1)):=by show(match zS u k with | none=>[u] | some u'=>u::goT u' (ks.drop (i+1)))=_;rw[hs]
    rw[e] at hg;refine iN (by simp) ⟨nO ⟨rfl,_,SqL.of hS2⟩, ?_⟩;have hend:∀c',Rep H c' u'→T.pure u'→T.sz u'≤100000→zHo (V.ref ps) [c'] H2 (fun _ H1=>Same H H1∧∃us' u1 ys' c1,H1 ps=some (.lst (ys'++ [c1]))∧Reps H ys' us'∧Rep H c1 u1∧us'.length=i+1∧goT t ks=us'++goT u1 (ks.drop (i+1))∧T.pure u1∧T.sz u1≤100000):=fun c' h1 h2 h3=>
     ⟨ps,ys++ [c],c',rfl,rfl,hS2,by rw[mU,mL];show ys.length+1<_;lia,gg.put hps _,us++ [u],u',ys++ [c],c',zE,Reps.snoc hc hR,h1,by rw[mL,hl];rfl,by rw[hg,rR];rfl,h2,h3⟩
    obtain⟨c',h1,h2,h3,⟨b,zs,j,rfl,hb,ej,hat⟩|⟨b,qs,rfl,hb,hvq⟩⟩:=zNq hc hpu hzu (hks _ (mQ hki)) hs
    ·refine .inl ?_
     walk_at "rd3";refine yK (SqL.of hS2) (qB _ _) ?_;rw[ej];exact yK (SqL.of (gg _ _ hb)) hat (hend _ h1 h2 h3)
    ·refine .inr ?_
     walk_at "rd3";exact yK (SqL.of hS2) (qB _ _) ⟨b,rfl,c', .inl ⟨qs,k, .inl (gg _ _ hb),rfl,hvq.symm⟩,hend _ h1 h2 h3⟩
 ·rintro σ' H' ⟨o,us,u,ys,c,rfl,g,hS,hR,hc,hl,hg,hpu,hzu⟩
  walk_at "rd3";rw[mJ,eM] at hg;refine q ps _ _ g hS ?_;rw[hg];exact Reps.snoc (Rep.same g _ _ hc) (Reps.same g _ _ hR)
theorem gL:∀(t:T)(ks:List Key),1≤(goT t ks).length∧(goT t ks).length≤ks.length+1
 | t,[]=>⟨mD _,mD _⟩
 | t,k::ks=>by
  show 1≤(match zS t k with | none=>[t] | some u=>t::goT u ks).length∧(match zS t k with | none=>[t] | some u=>t::goT u ks).length≤ks.length+1+1
  cases zS t k with
  | none=>exact⟨mD _,by show 1≤_;lia⟩
  | some u=>
   have:=gL u ks;exact⟨by show 1≤(goT u ks).length+1;lia,by show(goT u ks).length+1≤_;lia⟩
def zRc:Sp:=fun vs H Q _=>∃(v:V)(t:T)(pa:Addr)(ks:List Key),vs= [v, .ref pa]∧Rep H v t∧T.pure t∧T.sz t≤100000∧H pa=some (.lst (ks.map kV))∧(∀k∈ks,okK k)∧ks.length≤8∧∀H',Same H H'→Q (.bl (decide (ks.length<(goT t ks).length))) H'
theorem scHas:zP ["thing","path"] ["thing","path"] (zH yBc):=by walk_at "sc"
theorem yDc(F:Fun K "has" "has" yBc f fd)(B:Bl mg)(Gstops_on:Dh P w K mg base 2 "stops_on" ["thing","path"] yAf):FnOkH P w K mg base 3 f fd ["thing","path"] zRc:=by
 refine F.okh scHas (by walk_at "ln") fun c A o s H vs Q E hr h=>?_;obtain⟨v,t,pa,ks,rfl,hv,hp,hz,hpa,hks,h8,q⟩:=h;have nd:=scHas.nd;have hu:=hr.hu;refine⟨_,(zF (zJ (yG jW (zM zY rfl B.len yH (zA (wV Gstops_on hr (by lia) rfl (zA (pv 0) (zA (pv 1) zB))) zB)) (zM zY rfl B.len yH (zA (pv 1) zB)) (zQ _)))), ?_⟩;walk_at "st";walk_at "rd3";refine⟨v,t,pa,ks,rfl,hv,hp,hz,hpa,hks,h8,fun p xs H1 g1 hp1 hR=>?_⟩;refine⟨p,rfl,xs,SqL.of hp1,_,SqL.of (g1 _ _ hpa), ?_⟩;have e:decide (((ks.map kV).length:Int)<(xs.length:Int))=decide (ks.length<(goT t ks).length):=by
  rw[mJ,hR.length];exact eO.mpr (by lia)
 rw[e];exact q _ g1
inductive Wd where
 | put | ins | tak
def Wd.s:Wd→Str
 | .put=>Str.ofString "put"
 | .ins=>Str.ofString "insert"
 | .tak=>Str.ofString "take"
def vL:Wd→T→Key→Bool
 | .tak,t,k=>(zS t k).isSome
 | .put, .dic _ _, .inr _=>true
 | .put, .lst us, .inl i=>decide (i≤(us.length:Int))
 | .ins, .lst us, .inl i=>decide (i≤(us.length:Int))
 | _,_,_=>false
def yQ(n:List Nat):List (List Nat)→List T→List T
 | k::ks,u::us=>if k=n then yQ n ks us else u::yQ n ks us
 | _,_=>[]
def xV(n:List Nat):List (List Nat)→List (List Nat)
 | k::ks=>if k=n then xV n ks else k::xV n ks
 | []=>[]
def zZ:Wd→T→Key→T→T
 | .put, .dic ks us, .inr s,n=>.dic (xZ (ks,us) (ts s) n).1 (xZ (ks,us) (ts s) n).2
 | .tak, .dic ks us, .inr s,_=>.dic (xV (ts s) ks) (yQ (ts s) ks us)
 | .put, .lst us, .inl i,n=>.lst (us.take i.toNat++n::us.drop (i.toNat+1))
 | .ins, .lst us, .inl i,n=>.lst (us.take i.toNat++n::us.drop i.toNat)
 | .tak, .lst us, .inl i,_=>.lst (us.take i.toNat++us.drop (i.toNat+1))
 | _,t,_,_=>t
def zAz:Wd→T→Key→T→T
 | .put, .dic ks us, .inr s,n=>.dic (xV (ts s) ks++ [ts s]) (yQ (ts s) ks us++ [n])
 | w,t,k,n=>zZ w t k n
def bld(st:List T)(ks:List Key):Nat→T→T
 | 0,r=>r
 | m+1,r=>bld st ks m (zZ .put (st.getD m .non) (ks.getD m (.inl 0)) r)
def chG(w:Wd)(pt:T→Key→T)(t:T)(ks:List Key)(n:T):Sum Nat T:=
 match ks.getLast? with
 | none=>match w with
  | .put=>.inr n
  | _=>.inl 0
 | some k=>if(goT t ks.dropLast).length<ks.length then .inl ((goT t ks.dropLast).length - 1) else
  match (goT t ks.dropLast).getLast? with
  | none=>.inl 0
  | some s=>if vL w s k=true then .inr (bld (goT t ks.dropLast) ks (ks.length - 1) (pt s k)) else .inl (ks.length - 1)
theorem dropN_mem{n k:List Nat}:∀{ks:List (List Nat)},k∈xV n ks↔k∈ks∧k≠n
 | []=>by simp[xV]
 | k'::ks=>by
  unfold xV;split
  ·rename_i e
   rw[dropN_mem (ks:=ks),e];constructor
   ·exact fun h=>⟨mH _ h.1,h.2⟩
   ·rintro⟨h1,h2⟩
    rcases mG.mp h1 with z | z
    ·exact absurd z h2
    ·exact⟨z,h2⟩
  ·rename_i e
   rw[mG,dropN_mem (ks:=ks),mG];constructor
   ·rintro(h | h)
    ·exact⟨.inl h,by rw[h];exact e⟩
    ·exact⟨.inr h.1,h.2⟩
   ·rintro⟨h1 | h1,h2⟩
    ·exact .inl h1
    ·exact .inr ⟨h1,h2⟩
theorem wQ{n:List Nat}:∀{ks:List (List Nat)},ks.Nodup→(xV n ks).Nodup
 | [],_=>by simp[xV]
 | k::ks,h=>by
  rw[nW] at h;unfold xV;split
  ·exact wQ h.2
  ·rw[nW]
   exact⟨fun z=>h.1 (dropN_mem.mp z).1,wQ h.2⟩
theorem kP{n:List Nat}:∀{ks:List (List Nat)}{us:List T},ks.length=us.length→(xV n ks).length=(yQ n ks us).length∧(yQ n ks us).length≤us.length
 | [],[],_=>⟨rfl,mD _⟩
 | [],_::_,h=>by simp at h
 | _::_,[],h=>by simp at h
 | k::ks,u::us,h=>by
  obtain⟨h1,h2⟩:=kP (n:=n) (ks:=ks) (us:=us) (by simpa using h);unfold xV yQ;split
  ·exact⟨h1,tX h2⟩
  ·exact⟨by rw[mS,mS,h1],cK h2⟩
theorem qY{n:List Nat}{u:T}:∀{ks:List (List Nat)}{us:List T},u∈yQ n ks us→u∈us
 | [],us,h=>by cases us<;>simp[yQ] at h
 | _::_,[],h=>by simp[yQ] at h
 | k::ks,v::us,h=>by
  unfold yQ at h;split at h
  ·exact mH _ (qY h)
  ·rcases mG.mp h with z | z
   ·rw[z];exact mF
   ·exact mH _ (qY z)
theorem zEv{n k:List Nat}(hk:k≠n):∀{ks:List (List Nat)}{us:List T},ks.length=us.length→yD k (xV n ks) (yQ n ks us)=yD k ks us
 | [],[],_=>rfl
 | [],_::_,h=>by simp at h
 | _::_,[],h=>by simp at h
 | k'::ks,u::us,h=>by
  have ih:=zEv hk (ks:=ks) (us:=us) (by simpa using h);unfold xV yQ;split
  ·rename_i e
   rw[ih];show _=if k'=k then u else yD k ks us;rw[mI (by rw[e];exact Ne.symm hk)]
  ·show(if k'=k then u else yD k (xV n ks) (yQ n ks us))=if k'=k then u else yD k ks us
   rw[ih]
theorem kN{k n:List Nat}{t:T}:∀{ks:List (List Nat)}{us:List T},ks.length=us.length→k∈ks→yD k (ks++ [n]) (us++ [t])=yD k ks us
 | [],_,_,h=>nomatch h
 | _::_,[],h,_=>by simp at h
 | k'::ks,u::us,hl,h=>by
  show(if k'=k then u else yD k (ks++ [n]) (us++ [t]))=if k'=k then u else yD k ks us
  by_cases e:k'=k
  ·rw[mK e,mK e]
  ·rw[mI e,mI e]
   rcases mG.mp h with z | z
   ·exact absurd z.symm e
   ·exact kN (by simpa using hl) z
theorem vQ{n:List Nat}{t:T}:∀{ks:List (List Nat)}{us:List T},ks.length=us.length→n∉ks→yD n (ks++ [n]) (us++ [t])=t
 | [],[],_,_=>mK rfl
 | [],_::_,h,_=>by simp at h
 | _::_,[],h,_=>by simp at h
 | k'::ks,u::us,hl,h=>by
  show(if k'=n then u else yD n (ks++ [n]) (us++ [t]))=t;rw[mI (fun e=>h (by rw[e];exact mF))];exact vQ (by simpa using hl) fun z=>h (mH _ z)
theorem wN{n k:List Nat}{t:T}:∀{ks:List (List Nat)}{us:List T},ks.length=us.length→n∈ks→yD k ks (yF n t ks us)=if k=n then t else yD k ks us
 | [],_,_,h=>nomatch h
 | _::_,[],h,_=>by simp at h
 | k'::ks,u::us,hl,h=>by
  show(if k'=k then(if k'=n then t else u) else yD k ks (yF n t ks us))=if k=n then t else if k'=k then u else yD k ks us
  by_cases e:k'=k
  ·rw[mK e,mK e,e]
  ·rw[mI e,mI e]
   by_cases hm:n∈ks
   ·exact wN (by simpa using hl) hm
   ·have e2:k'=n:=by
     rcases mG.mp h with z | z
     ·exact z.symm
     ·exact absurd z hm
    rw[mI (by rw[←e2];exact Ne.symm e)];have:∀(ks:List (List Nat))(us:List T),n∉ks→yF n t ks us=us:=by
     intro ks
     induction ks with
     | nil=>intro us _;unfold yF;rfl
     | cons a ks ih=>
      intro us hn
      cases us with
      | nil=>rfl
      | cons b us=>
       show(if a=n then t else b)::yF n t ks us=b::us;rw[mI (fun z=>hn (by rw[z];exact mF)),ih us fun z=>hn (mH _ z)]
    rw[this ks us hm]
theorem zOm{n k:List Nat}{t:T}{ks:List (List Nat)}{us:List T}(hl:ks.length=us.length)(hk:k∈ks∨k=n):k∈(xZ (ks,us) n t).1∧yD k (xZ (ks,us) n t).1 (xZ (ks,us) n t).2=if k=n then t else yD k ks us:=by
 by_cases hm:n∈ks
 ·have e:xZ (ks,us) n t=(ks,yF n t ks us):=mK hm
  rw[e];refine⟨?_,wN hl hm⟩;rcases hk with z | z
  ·exact z
  ·rw[z];exact hm
 ·have e:xZ (ks,us) n t=(ks++ [n],us++ [t]):=mI hm
  rw[e]
  by_cases hkn:k=n
  ·rw[mK hkn,hkn]
   exact⟨by simp,vQ hl hm⟩
  ·rw[mI hkn]
   have hkk:k∈ks:=hk.resolve_right hkn;exact⟨pT _ hkk,kN hl hkk⟩
theorem zFi{n:List Nat}{t:T}:∀{ks:List (List Nat)}{us:List T},ks.Nodup→ks.length=us.length→n∈ks→T.szs (yF n t ks us)=T.szs (yQ n ks us)+T.sz t
 | [],_,_,_,h=>nomatch h
 | _::_,[],_,h,_=>by simp at h
 | k::ks,u::us,nd,hl,h=>by
  rw[nW] at nd
  by_cases e:k=n
  ·have h2:∀(ks:List (List Nat))(us:List T),ks.length=us.length→n∉ks→yF n t ks us=us∧yQ n ks us=us:=by
    intro ks
    induction ks with
    | nil=>intro us hl _;cases us with
     | nil=>exact⟨rfl,rfl⟩
     | cons _ _=>simp at hl
    | cons a ks ih=>
     intro us hl hn
     cases us with
     | nil=>simp at hl
     | cons b us=>
      obtain⟨i1,i2⟩:=ih us (by simpa using hl) fun z=>hn (mH _ z);have ne:¬a=n:=fun z=>hn (by rw[z];exact mF);refine⟨?_, ?_⟩
      ·show(if a=n then t else b)::yF n t ks us=b::us
       rw[mI ne,i1]
      ·show(if a=n then yQ n ks us else b::yQ n ks us)=b::us
       rw[mI ne,i2]
   obtain⟨i1,i2⟩:=h2 ks us (by simpa using hl) (by rw[←e];exact nd.1);show T.szs ((if k=n then t else u)::yF n t ks us)=T.szs (if k=n then yQ n ks us else u::yQ n ks us)+T.sz t;rw[mK e,mK e,i1,i2];show T.sz t+T.szs us=_
   lia
  ·have hm:n∈ks:=by
    rcases mG.mp h with z | z
    ·exact absurd z.symm e
    ·exact z
   have ih:=zFi (t:=t) nd.2 (by simpa using hl) hm (us:=us);show T.szs ((if k=n then t else u)::yF n t ks us)=T.szs (if k=n then yQ n ks us else u::yQ n ks us)+T.sz t;rw[mI e,mI e];show T.sz u+T.szs (yF n t ks us)=T.sz u+T.szs (yQ n ks us)+T.sz t
   lia
theorem gG{n:List Nat}:∀{ks:List (List Nat)}{us:List T},T.szs (yQ n ks us)≤T.szs us
 | [],us=>by
  have e:yQ n [] us= []:=by cases us<;>rfl
  rw[e];exact pB _
 | _::_,[]=>mD _
 | k::ks,u::us=>by
  have ih:=gG (n:=n) (ks:=ks) (us:=us);show T.szs (if k=n then yQ n ks us else u::yQ n ks us)≤T.sz u+T.szs us;split
  ·lia
  ·show T.sz u+_≤_;lia
theorem gN{n:List Nat}:∀{ks:List (List Nat)}{us:List T},ks.length=us.length→n∉ks→yQ n ks us=us∧xV n ks=ks
 | [],[],_,_=>⟨rfl,rfl⟩
 | [],_::_,h,_=>by simp at h
 | _::_,[],h,_=>by simp at h
 | k::ks,u::us,hl,hn=>by
  obtain⟨i1,i2⟩:=gN (n:=n) (ks:=ks) (us:=us) (by simpa using hl) fun z=>hn (mH _ z);have ne:¬k=n:=fun z=>hn (by rw[z];exact mF);refine⟨?_, ?_⟩
  ·show(if k=n then yQ n ks us else u::yQ n ks us)=_
   rw[mI ne,i1]
  ·show(if k=n then xV n ks else k::xV n ks)=_
   rw[mI ne,i2]
theorem zDv{n:List Nat}{t:T}{ks:List (List Nat)}{us:List T}(nd:ks.Nodup)(hl:ks.length=us.length):T.szs (xZ (ks,us) n t).2=T.szs (yQ n ks us)+T.sz t:=by
 by_cases hm:n∈ks
 ·have e:xZ (ks,us) n t=(ks,yF n t ks us):=mK hm
  rw[e];exact zFi nd hl hm
 ·have e:xZ (ks,us) n t=(ks++ [n],us++ [t]):=mI hm
  rw[e,(gN hl hm).1];show T.szs (us++ [t])=_;rw[T.szs_append];rfl
theorem yDg{us:List T}:us.length≤T.szs us:=T.szs_len us
theorem zQc{m:Nat}{a b:List T}(h:T.fewms m b)(s:∀t∈a,t∈b):T.fewms m a:=T.fewms_of fun t ht=>T.fewms_mem h (s t ht)
theorem zNa{us:List T}{i j:Nat}(h:i≤j):T.szs (us.take i)+T.szs (us.drop j)≤T.szs us:=by
 have e:us=us.take i++us.drop i:=(tU i us).symm;have e2:T.szs us=T.szs (us.take i)+T.szs (us.drop i):=by conv=>lhs;rw[e,T.szs_append]
 have e3:us.drop i=(us.drop i).take (j - i)++us.drop j:=by
  have:=(tU (j - i) (us.drop i)).symm;rw[List.drop_drop,show i+(j - i)=j by lia] at this;exact this
 have e4:T.szs (us.drop i)=T.szs ((us.drop i).take (j - i))+T.szs (us.drop j):=by conv=>lhs;rw[e3,T.szs_append]
 lia
theorem zTt{a b:List T}{d:Nat}(h:T.deps b≤d)(s:∀t∈a,t∈b):T.deps a≤d:=T.deps_of fun t ht=>nN (T.deps_le (s t ht)) h
theorem yBp{m:Nat}{us:List T}{n:T}{i j:Nat}(hij:i≤j)(hf:T.fewm m (.lst us))(hn:T.fewm m n)(hz:T.sz (.lst us)≤50000):
  T.fewm m (.lst (us.take i++n::us.drop j))∧T.dep (.lst (us.take i++n::us.drop j))≤max (T.dep (.lst us)) (T.dep n+1)∧T.sz (.lst (us.take i++n::us.drop j))≤T.sz (.lst us)+T.sz n:=by
 have hz':T.szs us+1≤50000:=hz;have hl:=yDg (us:=us);have hc:=zNa (us:=us) hij;have hs:∀t∈us.take i++n::us.drop j,t∈us∨t=n:=fun t ht=>by
  rcases nD.mp ht with z | z
  ·exact .inl (sK z)
  ·rcases mG.mp z with z | z
   ·exact .inr z
   ·exact .inl (aB z)
 refine⟨⟨?_,T.fewms_of fun t ht=>?_⟩, ?_, ?_⟩
 ·rw[mL,mS,nU,rG];lia
 ·rcases hs t ht with z | z
  ·exact T.fewms_mem hf.2 z
  ·rw[z];exact hn
 ·show T.deps (us.take i++n::us.drop j)+1≤max (T.deps us+1) (T.dep n+1)
  have:T.deps (us.take i++n::us.drop j)≤max (T.deps us) (T.dep n):=T.deps_of fun t ht=>by
   rcases hs t ht with z | z
   ·have:=T.deps_le z;lia
   ·rw[z];lia
  lia
 ·show T.szs (us.take i++n::us.drop j)+1≤T.szs us+1+T.sz n
  rw[T.szs_append];show T.szs (us.take i)+(T.sz n+T.szs (us.drop j))+1≤_
  lia
theorem zLx{m:Nat}{ks ls:List (List Nat)}{us vs:List T}{n:T}(hf:T.fewm m (.dic ks us))(hn:T.fewm m n)(nd:ls.Nodup)(hl:ls.length=vs.length)(hlen:vs.length≤us.length+1)(hs:∀t∈vs,t∈us∨t=n)(hz:T.szs vs≤T.szs us+T.sz n):
  T.fewm (m+1) (.dic ls vs)∧T.dep (.dic ls vs)≤max (T.dep (.dic ks us)) (T.dep n+1)∧T.sz (.dic ls vs)≤T.sz (.dic ks us)+T.sz n:=by
 obtain⟨nk,hm,hku,hu⟩:=hf;refine⟨⟨nd,by lia,hl,T.fewms_of fun t ht=>?_⟩, ?_, ?_⟩
 ·rcases hs t ht with z | z
  ·exact T.fewm_mono (rJ m) _ (T.fewms_mem hu z)
  ·rw[z];exact T.fewm_mono (rJ m) _ hn
 ·show T.deps vs+1≤max (T.deps us+1) (T.dep n+1)
  have:T.deps vs≤max (T.deps us) (T.dep n):=T.deps_of fun t ht=>by
   rcases hs t ht with z | z
   ·have:=T.deps_le z;lia
   ·rw[z];lia
  lia
 ·show T.szs vs+1≤T.szs us+1+T.sz n
  lia
theorem jF{m:Nat}{t n:T}(hf:T.fewm m t):T.fewm (m+1) t∧T.dep t≤max (T.dep t) (T.dep n+1)∧T.sz t≤T.sz t+T.sz n:=⟨T.fewm_mono (rJ m) _ hf,Nat.le_max_left _ _,eK _ _⟩
theorem zMo{m:Nat}{us:List T}{n:T}{i j:Nat}(hij:i≤j)(hf:T.fewm m (.lst us))(hn:T.fewm m n)(hz:T.sz (.lst us)≤50000):
  T.fewm (m+1) (.lst (us.take i++n::us.drop j))∧T.dep (.lst (us.take i++n::us.drop j))≤max (T.dep (.lst us)) (T.dep n+1)∧T.sz (.lst (us.take i++n::us.drop j))≤T.sz (.lst us)+T.sz n:=by
 obtain⟨h1,h2,h3⟩:=yBp hij hf hn hz;exact⟨T.fewm_mono (rJ m) _ h1,h2,h3⟩
theorem zXd{m:Nat}{us:List T}{n:T}{i:Nat}(hf:T.fewm m (.lst us)):
  T.fewm (m+1) (.lst (us.take i++us.drop (i+1)))∧T.dep (.lst (us.take i++us.drop (i+1)))≤max (T.dep (.lst us)) (T.dep n+1)∧T.sz (.lst (us.take i++us.drop (i+1)))≤T.sz (.lst us)+T.sz n:=by
 have hc:=zNa (us:=us) (i:=i) (j:=i+1) (by lia);have hs:∀t∈us.take i++us.drop (i+1),t∈us:=fun t ht=>(nD.mp ht).elim sK aB;refine⟨⟨?_,T.fewms_mono (rJ m) _ (zQc hf.2 hs)⟩, ?_, ?_⟩
 ·have:=hf.1
  rw[mL,nU,rG];lia
 ·show T.deps (us.take i++us.drop (i+1))+1≤max (T.deps us+1) (T.dep n+1)
  have:=zTt (mD (T.deps us)) hs
  lia
 ·show T.szs (us.take i++us.drop (i+1))+1≤T.szs us+1+T.sz n
  rw[T.szs_append];lia
theorem zUp{m:Nat}{ks:List (List Nat)}{us:List T}{n:T}{x:List Nat}(hf:T.fewm m (.dic ks us))(hn:T.fewm m n):
  T.fewm (m+1) (.dic (xV x ks) (yQ x ks us))∧T.dep (.dic (xV x ks) (yQ x ks us))≤max (T.dep (.dic ks us)) (T.dep n+1)∧T.sz (.dic (xV x ks) (yQ x ks us))≤T.sz (.dic ks us)+T.sz n:=by
 obtain⟨l1,l2⟩:=kP (n:=x) hf.2.2.1;have:=gG (n:=x) (ks:=ks) (us:=us);exact zLx hf hn (wQ hf.1) l1 (by lia) (fun t ht=>.inl (qY ht)) (by lia)
theorem jY{m:Nat}{w:Wd}{t n:T}{k:Key}(hf:T.fewm m t)(hn:T.fewm m n)(hz:T.sz t≤50000):T.fewm (m+1) (zZ w t k n)∧T.dep (zZ w t k n)≤max (T.dep t) (T.dep n+1)∧T.sz (zZ w t k n)≤T.sz t+T.sz n:=by
 cases t with
 | dic ks us=>
  cases k with
  | inr x=>
   cases w with
   | put=>
    obtain⟨l1,l2⟩:=zCk (ks:=ks) (us:=us) (n:=ts x) (t:=n) hf.2.2.1;have:=gG (n:=ts x) (ks:=ks) (us:=us);have hz2:=zDv (n:=ts x) (t:=n) hf.1 hf.2.2.1;exact zLx hf hn (gS hf.1) l1 l2 (fun t ht=>uJ ht) (by lia)
   | ins=>exact jF hf
   | tak=>exact zUp hf hn
  | inl i=>cases w<;>exact jF hf
 | lst us=>
  cases k with
  | inl i=>
   cases w with
   | put=>exact zMo (rJ _) hf hn hz
   | ins=>exact zMo (mD _) hf hn hz
   | tak=>exact zXd hf
  | inr x=>cases w<;>exact jF hf
 | tup us=>exact hf.elim
 | non=>cases w<;>exact jF hf
 | bl b=>cases w<;>exact jF hf
 | int b=>cases w<;>exact jF hf
 | str b=>cases w<;>exact jF hf
theorem zIf{w:Wd}{t n:T}{k:Key}(h:¬∃ks us x,w= .put∧t= .dic ks us∧k= .inr x):zAz w t k n=zZ w t k n:=by
 cases w<;>cases t<;>cases k<;>first | rfl | exact absurd ⟨_,_,_,rfl,rfl,rfl⟩ h
theorem zTe{m:Nat}{w:Wd}{t n:T}{k:Key}(hf:T.fewm m t)(hn:T.fewm m n)(hz:T.sz t≤50000):T.fewm (m+1) (zAz w t k n)∧T.dep (zAz w t k n)≤max (T.dep t) (T.dep n+1)∧T.sz (zAz w t k n)≤T.sz t+T.sz n:=by
 by_cases h:∃ks us x,w=Wd.put∧t= .dic ks us∧k= .inr x
 ·obtain⟨ks,us,x,rfl,rfl,rfl⟩:=h
  obtain⟨l1,l2⟩:=kP (n:=ts x) hf.2.2.1;have:=gG (n:=ts x) (ks:=ks) (us:=us);refine zLx (ls:=xV (ts x) ks++ [ts x]) (vs:=yQ (ts x) ks us++ [n]) hf hn ?_ ?_ ?_ (fun t ht=>?_) ?_
  ·rw[bA]
   refine⟨wQ hf.1,by simp,fun a ha b hb z=>?_⟩;rw[mP.mp hb] at z;exact(dropN_mem.mp ha).2 z
  ·rw[mL,mL,l1];rfl
  ·rw[mL,nB];lia
  ·rcases nD.mp ht with z | z
   ·exact .inl (qY z)
   ·exact .inr (mP.mp z)
  ·rw[T.szs_append]
   show _+(T.sz n+0)≤_
   lia
 ·rw[zIf h];exact jY hf hn hz
theorem zYd{m d:Nat}{w:Wd}{t n:T}{k:Key}(hm:m<63)(hf:T.fewm m t)(hn:T.fewm m n)(hz:T.sz t≤50000)(hd:T.dep t<d)(hdn:T.dep n+1<d):Sm d (zZ w t k n) (zAz w t k n):=by
 by_cases h:∃ks us x,w=Wd.put∧t= .dic ks us∧k= .inr x
 ·obtain⟨ks,us,x,rfl,rfl,rfl⟩:=h
  obtain⟨e,rfl⟩:∃e,d=e+1:=⟨d - 1,by lia⟩;have hd':T.deps us+1<e+1:=hd;obtain⟨p1,p2⟩:=zCk (ks:=ks) (us:=us) (n:=ts x) (t:=n) hf.2.2.1;obtain⟨l1,l2⟩:=kP (n:=ts x) hf.2.2.1;have hz2:=zDv (n:=ts x) (t:=n) hf.1 hf.2.2.1;have hku:=hf.2.1;have hul:=hf.2.2.1;refine⟨?_,⟨gS hf.1, ?_,p1, ?_, ?_, ?_⟩,fun k hk=>?_⟩
  ·show T.szs (xZ (ks,us) (ts x) n).2+1≤T.szs (yQ (ts x) ks us++ [n])+1
   rw[T.szs_append,hz2];exact mD _
  ·rw[bA]
   refine⟨wQ hf.1,by simp,fun a ha b hb z=>?_⟩;rw[mP.mp hb] at z;exact(dropN_mem.mp ha).2 z
  ·rw[mL,mL,l1];rfl
  ·rw[mL,nB]
   by_cases hx:ts x∈ks
   ·have e1:xZ (ks,us) (ts x) n=(ks,yF (ts x) n ks us):=mK hx
    rw[e1];show(yF (ts x) n ks us).length=_;rw[xE];have:∀(ks:List (List Nat))(us:List T),ks.Nodup→ks.length=us.length→ts x∈ks→us.length=(yQ (ts x) ks us).length+1:=by
     intro ks
     induction ks with
     | nil=>intro us _ _ h;exact nomatch h
     | cons a ks ih=>
      intro us nd hl hm
      cases us with
      | nil=>simp at hl
      | cons b us=>
       rw[nW] at nd;show us.length+1=(if a=ts x then yQ (ts x) ks us else b::yQ (ts x) ks us).length+1
       by_cases ea:a=ts x
       ·rw[mK ea,(gN (by simpa using hl) (by rw[←ea];exact nd.1)).1]
       ·rw[mI ea,mS]
        rcases mG.mp hm with z | z
        ·exact absurd z.symm ea
        ·rw[ih us nd.2 (by simpa using hl) z]
    exact this ks us hf.1 hul hx
   ·have e1:xZ (ks,us) (ts x) n=(ks++ [ts x],us++ [n]):=mI hx
    rw[e1,(gN hul hx).1];show(us++ [n]).length=_;rw[mL];rfl
  ·rw[mL,nB];lia
  ·have hk':k∈ks∨k=ts x:=by
    rcases nD.mp hk with z | z
    ·exact .inl (dropN_mem.mp z).1
    ·exact .inr (mP.mp z)
   obtain⟨q1,q2⟩:=zOm (n:=ts x) (t:=n) hul hk';refine⟨q1, ?_⟩;rw[q2]
   by_cases e1:k=ts x
   ·rw[mK e1,e1,vQ l1 fun z=>(dropN_mem.mp z).2 rfl]
    exact Sm.refl e n (T.few_okq _ (T.fewm_few (by lia) _ hn)) (by lia)
   ·have hkk:=hk'.resolve_right e1
    rw[mI e1,kN l1 (dropN_mem.mpr ⟨hkk,e1⟩),zEv e1 hul];have hmm:=wS hkk hul;have:=T.deps_le hmm;exact Sm.refl e _ (T.few_okq _ (T.fewm_few (by lia) _ (T.fewms_mem hf.2.2.2 hmm))) (by lia)
 ·rw[zIf h]
  obtain⟨h1,h2,h3⟩:=jY (w:=w) (k:=k) hf hn hz;exact Sm.refl d _ (T.few_okq _ (T.fewm_few (by lia) _ h1)) (by lia)
theorem zNf{r:T}:∀{us:List T}{i:Nat}{u:T},us[i]? =some u→T.szs (us.set i r)+T.sz u=T.szs us+T.sz r
 | [],_,_,h=>by simp at h
 | v::us,0,u,h=>by
  have e:v=u:=by simpa using h
  subst e;show T.sz r+T.szs us+T.sz v=T.sz v+T.szs us+T.sz r
  lia
 | v::us,i+1,u,h=>by
  have ih:=zNf (r:=r) (us:=us) (i:=i) (u:=u) (by simpa using h);show T.sz v+T.szs (us.set i r)+T.sz u=T.sz v+T.szs us+T.sz r
  lia
theorem zIa{n:List Nat}{r:T}:∀{ks:List (List Nat)}{us:List T},ks.Nodup→ks.length=us.length→n∈ks→T.szs (yF n r ks us)+T.sz (yD n ks us)=T.szs us+T.sz r
 | [],_,_,_,h=>nomatch h
 | _::_,[],_,h,_=>by simp at h
 | k::ks,u::us,nd,hl,h=>by
  rw[nW] at nd;show T.szs ((if k=n then r else u)::yF n r ks us)+T.sz (if k=n then u else yD n ks us)=T.sz u+T.szs us+T.sz r
  by_cases e:k=n
  ·rw[mK e,mK e]
   have h2:yF n r ks us=us:=by
    have z:=zDv (n:=n) (t:=r) nd.2 (by simpa using hl) (us:=us);have hn:n∉ks:=by rw[←e];exact nd.1
    have:∀(ks:List (List Nat))(us:List T),n∉ks→yF n r ks us=us:=by
     intro ks
     induction ks with
     | nil=>intro us _;unfold yF;rfl
     | cons a ks ih=>
      intro us hn
      cases us with
      | nil=>rfl
      | cons b us=>
       show(if a=n then r else b)::yF n r ks us=b::us;rw[mI (fun z=>hn (by rw[z];exact mF)),ih us fun z=>hn (mH _ z)]
    exact this ks us hn
   rw[h2];show T.sz r+T.szs us+T.sz u=_
   lia
  ·rw[mI e,mI e]
   have hm:n∈ks:=by
    rcases mG.mp h with z | z
    ·exact absurd z.symm e
    ·exact z
   have ih:=zIa (r:=r) nd.2 (by simpa using hl) hm (us:=us);show T.sz u+T.szs (yF n r ks us)+T.sz (yD n ks us)=_
   lia
theorem yZ{t u:T}{k:Key}(hs:zS t k=some u):(∃us i,t= .lst us∧k= .inl i∧us[i.toNat]? =some u∧∀r,zZ .put t k r= .lst (us.set i.toNat r))∨(∃ks us x,t= .dic ks us∧k= .inr x∧ts x∈ks∧u=yD (ts x) ks us∧∀r,zZ .put t k r= .dic ks (yF (ts x) r ks us)):=by
 cases t with
 | lst us=>
  cases k with
  | inl i=>
   have h:us[i.toNat]? =some u:=hs;refine .inl ⟨us,i,rfl,rfl,h,fun r=>?_⟩;show T.lst (us.take i.toNat++r::us.drop (i.toNat+1))=_;have hi:=(nE.mp h).1;rw[List.set_eq_take_append_cons_drop,mK hi]
  | inr x=>cases hs
 | dic ks us=>
  cases k with
  | inl i=>cases hs
  | inr x=>
   have h':(if ts x∈ks then some (yD (ts x) ks us) else none)=some u:=hs
   by_cases hm:ts x∈ks
   ·rw[mK hm] at h'
    refine .inr ⟨ks,us,x,rfl,rfl,hm,(mV h').symm,fun r=>?_⟩;have e:xZ (ks,us) (ts x) r=(ks,yF (ts x) r ks us):=mK hm;show T.dic (xZ (ks,us) (ts x) r).1 (xZ (ks,us) (ts x) r).2=_;rw[e]
   ·rw[mI hm] at h';cases h'
 | non=>cases hs
 | bl b=>cases hs
 | int b=>cases hs
 | str b=>cases hs
 | tup us=>cases hs
theorem zGn{m:Nat}{t u r:T}{k:Key}(hf:T.fewm m t)(hs:zS t k=some u):T.sz (zZ .put t k r)+T.sz u=T.sz t+T.sz r:=by
 rcases yZ hs with⟨us,i,rfl,rfl,h,e⟩|⟨ks,us,x,rfl,rfl,hm,rfl,e⟩
 ·rw[e]
  have:=zNf (r:=r) h;show T.szs _+1+_=T.szs us+1+_
  lia
 ·rw[e]
  have:=zIa (r:=r) hf.1 hf.2.2.1 hm;show T.szs _+1+_=T.szs us+1+_
  lia
theorem zUo{m:Nat}{t u r:T}{k:Key}(hf:T.fewm m t)(hs:zS t k=some u)(hr:T.fewm m r):T.fewm m (zZ .put t k r)∧T.dep (zZ .put t k r)≤max (T.dep t) (T.dep r+1):=by
 rcases yZ hs with⟨us,i,rfl,rfl,h,e⟩|⟨ks,us,x,rfl,rfl,hm,rfl,e⟩
 ·rw[e]
  have hsub:∀t∈us.set i.toNat r,t∈us∨t=r:=fun t ht=>bM ht;refine⟨⟨by rw[bN];exact hf.1,T.fewms_of fun t ht=>?_⟩, ?_⟩
  ·rcases hsub t ht with z | z
   ·exact T.fewms_mem hf.2 z
   ·rw[z];exact hr
  ·show T.deps _+1≤max (T.deps us+1) (T.dep r+1)
   have:T.deps (us.set i.toNat r)≤max (T.deps us) (T.dep r):=T.deps_of fun t ht=>by
    rcases hsub t ht with z | z
    ·have:=T.deps_le z;lia
    ·rw[z];lia
   lia
 ·rw[e]
  refine⟨⟨hf.1,hf.2.1,by rw[xE];exact hf.2.2.1,T.fewms_of fun t ht=>?_⟩, ?_⟩
  ·rcases qW _ _ _ _ _ ht with z | z
   ·exact T.fewms_mem hf.2.2.2 z
   ·rw[z];exact hr
  ·show T.deps _+1≤max (T.deps us+1) (T.dep r+1)
   have:T.deps (yF (ts x) r ks us)≤max (T.deps us) (T.dep r):=T.deps_of fun t ht=>by
    rcases qW _ _ _ _ _ ht with z | z
    ·have:=T.deps_le z;lia
    ·rw[z];lia
   lia
theorem zZv{d m:Nat}{t u r r':T}{k:Key}(hm:m≤63)(hf:T.fewm m t)(hs:zS t k=some u)(hd:T.dep t<d+1)(h:Sm d r r'):Sm (d+1) (zZ .put t k r) (zZ .put t k r'):=by
 have hsz:T.sz (zZ .put t k r)≤T.sz (zZ .put t k r'):=by
  have h1:=zGn (r:=r) hf hs;have h2:=zGn (r:=r') hf hs;have:=h.sz
  lia
 have hok:=T.few_okq _ (T.fewm_few hm _ hf);refine⟨hsz, ?_⟩;rcases yZ hs with⟨us,i,rfl,rfl,hi,e⟩|⟨ks,us,x,rfl,rfl,hmx,rfl,e⟩
 ·rw[e,e]
  have hd':T.deps us+1<d+1:=hd;have hil:=(nE.mp hi).1;refine⟨by rw[bN,bN],by rw[bN];exact hok.1,fun j a b h1 h2=>?_⟩
  by_cases hj:i.toNat=j
  ·subst hj
   rw[tJ hil] at h1 h2;rw[←mV h1,←mV h2];exact h
  ·rw[sG hj] at h1 h2
   rw[h1] at h2;cases h2;have hmm:=mQ h1;have:=T.deps_le hmm;exact Sm.refl d a (T.okqs_mem hok.2 hmm) (by lia)
 ·rw[e,e]
  have hd':T.deps us+1<d+1:=hd;refine⟨⟨hf.1,hf.1,by rw[xE];exact hf.2.2.1,by rw[xE];exact hf.2.2.1,by rw[xE,xE],by rw[xE];exact hok.2.2.1⟩,fun k hk=>⟨hk, ?_⟩⟩;rw[wN hf.2.2.1 hmx,wN hf.2.2.1 hmx]
  by_cases ek:k=ts x
  ·rw[mK ek,mK ek];exact h
  ·rw[mI ek,mI ek]
   have hmm:=wS hk hf.2.2.1;have:=T.deps_le hmm;exact Sm.refl d _ (T.okqs_mem hok.2.2.2 hmm) (by lia)
theorem wH{m:Nat}{t u:T}{k:Key}(hf:T.fewm m t)(hs:zS t k=some u):T.fewm m u∧T.dep u+1≤T.dep t∧T.sz u≤T.sz t:=by
 rcases yZ hs with⟨us,i,rfl,rfl,h,e⟩|⟨ks,us,x,rfl,rfl,hm,rfl,e⟩
 ·have hmm:=mQ h
  have:=T.deps_le hmm;have:=T.szs_le hmm;exact⟨T.fewms_mem hf.2 hmm,(show _≤T.deps us+1 by lia),(show _≤T.szs us+1 by lia)⟩
 ·have hmm:=wS hm hf.2.2.1
  have:=T.deps_le hmm;have:=T.szs_le hmm;exact⟨T.fewms_mem hf.2.2.2 hmm,(show _≤T.deps us+1 by lia),(show _≤T.szs us+1 by lia)⟩
theorem zCz:∀(ks:List Key)(t:T)(i:Nat),i+1<(goT t ks).length→∃k u v,ks[i]? =some k∧(goT t ks)[i]? =some u∧(goT t ks)[i+1]? =some v∧zS u k=some v
 | [],t,i,h=>by
  have h':i+1<1:=h
  lia
 | k::ks,t,i,h=>by
  have e:goT t (k::ks)=(match zS t k with | none=>[t] | some u=>t::goT u ks):=rfl
  cases hs:zS t k with
  | none=>
   rw[hs] at e;rw[e] at h;have h':i+1<1:=h
   lia
  | some u=>
   rw[hs] at e;have e':goT t (k::ks)=t::goT u ks:=e;rw[e'] at h⊢
   cases i with
   | zero=>
    have hl:=(gL u ks).1;obtain⟨v,hv⟩:∃v,(goT u ks)[0]? =some v:=⟨(goT u ks)[0],by simp⟩;have hv':v=u:=by
     cases ks with
     | nil=>have:(goT u [])[0]? =some u:=rfl;rw[this] at hv;exact(mV hv).symm
     | cons k2 ks=>
      have:goT u (k2::ks)=(match zS u k2 with | none=>[u] | some u'=>u::goT u' ks):=rfl
      rw[this] at hv
      cases hs2:zS u k2 with
      | none=>rw[hs2] at hv;exact(mV hv).symm
      | some _=>rw[hs2] at hv;exact(mV hv).symm
    refine⟨k,t,u,rfl,rfl, ?_,hs⟩;show(goT u ks)[0]? =some u;rw[hv,hv']
   | succ i=>
    obtain⟨k',u',v',h1,h2,h3,h4⟩:=zCz ks u i (by simpa using h);exact⟨k',u',v',by simpa using h1,by simpa using h2,by simpa using h3,h4⟩
theorem kB{m:Nat}:∀(ks:List Key)(t:T)(i:Nat)(u:T),T.fewm m t→(goT t ks)[i]? =some u→T.fewm m u∧T.dep u+i≤T.dep t∧T.sz u≤T.sz t
 | [],t,i,u,hf,h=>by
  have h': [t][i]? =some u:=h
  cases i with
  | zero=>rw[←mV h'];exact⟨hf,mD _,mD _⟩
  | succ i=>cases h'
 | k::ks,t,i,u,hf,h=>by
  have e:goT t (k::ks)=(match zS t k with | none=>[t] | some u=>t::goT u ks):=rfl
  cases hs:zS t k with
  | none=>
   rw[hs] at e;have e':goT t (k::ks)= [t]:=e;rw[e'] at h
   cases i with
   | zero=>rw[←mV h];exact⟨hf,mD _,mD _⟩
   | succ i=>cases h
  | some v=>
   rw[hs] at e;have e':goT t (k::ks)=t::goT v ks:=e;rw[e'] at h
   cases i with
   | zero=>rw[←mV h];exact⟨hf,mD _,mD _⟩
   | succ i=>
    obtain⟨a1,a2,a3⟩:=wH hf hs;obtain⟨b1,b2,b3⟩:=kB ks v i u a1 (by simpa using h);exact⟨b1,by lia,by lia⟩
theorem zRw{m0:Nat}{st:List T}{ks:List Key}(hm:m0≤63):∀(m d:Nat)(r r':T),(∀i,i<m→∃u,zS (st.getD i .non) (ks.getD i (.inl 0))=some u∧T.fewm m0 (st.getD i .non)∧T.dep (st.getD i .non)+i<d+m)→Sm d r r'→Sm (d+m) (bld st ks m r) (bld st ks m r')
 | 0,d,r,r',_,h=>h
 | m+1,d,r,r',hc,h=>by
  obtain⟨u,h1,h2,h3⟩:=hc m (tE m);have:=zRw hm m (d+1) _ _ (fun i hi=>by
   obtain⟨u,q1,q2,q3⟩:=hc i (sQ hi);exact⟨u,q1,q2,by lia⟩) (zZv hm h2 h1 (by lia) h)
  rw[show d+(m+1)=d+1+m by lia];exact this
theorem zLq{m0 B Z:Nat}{st:List T}{ks:List Key}:∀(m:Nat)(r:T),(∀i,i<m→zS (st.getD i .non) (ks.getD i (.inl 0))=some (st.getD (i+1) .non)∧T.fewm m0 (st.getD i .non)∧T.dep (st.getD i .non)+i≤B)→T.fewm m0 r→T.dep r+m≤B→T.sz r≤T.sz (st.getD m .non)+Z→T.fewm m0 (bld st ks m r)∧T.dep (bld st ks m r)≤B∧T.sz (bld st ks m r)≤T.sz (st.getD 0 .non)+Z
 | 0,r,_,h1,h2,h3=>⟨h1,h2,h3⟩
 | m+1,r,hc,h1,h2,h3=>by
  obtain⟨q1,q2,q3⟩:=hc m (tE m);obtain⟨p1,p2⟩:=zUo q2 q1 h1;have p3:=zGn (r:=r) q2 q1;exact zLq m _ (fun i hi=>hc i (sQ hi)) p1 (by lia) (by lia)
theorem yCx{m0:Nat}{w:Wd}{t n:T}{ks:List Key}(hm:m0<62)(hf:T.fewm m0 t)(hn:T.fewm m0 n)(hz:T.sz t≤50000)(hd:T.dep t≤16)(hdn:T.dep n≤8)(h8:ks.length≤8):
  (∃j,chG w (fun s k=>zZ w s k n) t ks n= .inl j∧chG w (fun s k=>zAz w s k n) t ks n= .inl j)∨
  ∃r r',chG w (fun s k=>zZ w s k n) t ks n= .inr r∧chG w (fun s k=>zAz w s k n) t ks n= .inr r'∧Sm 20 r r'∧(T.fewm (m0+1) r∧T.dep r≤16∧T.sz r≤T.sz t+T.sz n)∧T.fewm (m0+1) r'∧T.dep r'≤16∧T.sz r'≤T.sz t+T.sz n:=by
 unfold chG
 cases hk:ks.getLast? with
 | none=>
  cases w with
  | put=>
   have hn':=T.fewm_mono (rJ m0) _ hn;have hh:T.fewm (m0+1) n∧T.dep n≤16∧T.sz n≤T.sz t+T.sz n:=⟨hn',by lia,by lia⟩;exact .inr ⟨n,n,rfl,rfl,Sm.refl 20 n (T.few_okq _ (T.fewm_few (by lia) _ hn)) (by lia),hh,hh⟩
  | ins=>exact .inl ⟨0,rfl,rfl⟩
  | tak=>exact .inl ⟨0,rfl,rfl⟩
 | some k=>
  have hne:ks≠ []:=fun z=>by rw[z] at hk;cases hk
  have hpos:0<ks.length:=dL.mpr hne;have hdl:ks.dropLast.length=ks.length - 1:=dF;have hgl:=gL t ks.dropLast;dsimp only
  by_cases hlt:(goT t ks.dropLast).length<ks.length
  ·rw[mK hlt,mK hlt];exact .inl ⟨_,rfl,rfl⟩
  ·rw[mI hlt,mI hlt]
   have hlen:(goT t ks.dropLast).length=ks.length:=by lia
   cases hs:(goT t ks.dropLast).getLast? with
   | none=>exact .inl ⟨_,rfl,rfl⟩
   | some s=>
    dsimp only
    by_cases hc:vL w s k=true
    ·rw[mK hc,mK hc]
     refine .inr ⟨_,_,rfl,rfl, ?_⟩;have hsi:(goT t ks.dropLast)[ks.length - 1]? =some s:=by rw[aD,hlen] at hs;exact hs
     obtain⟨s1,s2,s3⟩:=kB ks.dropLast t _ s hf hsi;have gd:∀i u,(goT t ks.dropLast)[i]? =some u→(goT t ks.dropLast).getD i .non=u:=fun i u h=>by rw[nS,h];rfl
     have cond:∀i,i<ks.length - 1→zS ((goT t ks.dropLast).getD i .non) (ks.getD i (.inl 0))=some ((goT t ks.dropLast).getD (i+1) .non)∧T.fewm m0 ((goT t ks.dropLast).getD i .non)∧T.dep ((goT t ks.dropLast).getD i .non)+i≤16:=fun i hi=>by
      obtain⟨k',u,v,h1,h2,h3,h4⟩:=zCz ks.dropLast t i (by lia);obtain⟨a1,a2,a3⟩:=kB ks.dropLast t i u hf h2;have hki:ks.getD i (.inl 0)=k':=by
       have:ks[i]? =some k':=by
        rw[List.getElem?_dropLast,mK hi] at h1;exact h1
       rw[nS,this];rfl
      rw[gd i u h2,gd (i+1) v h3,hki];exact⟨h4,a1,by lia⟩
     have st0:(goT t ks.dropLast).getD 0 .non=t:=by
      refine gd 0 t ?_
      cases hq:ks.dropLast with
      | nil=>rfl
      | cons k2 l=>
       have:goT t (k2::l)=(match zS t k2 with | none=>[t] | some u'=>t::goT u' l):=rfl
       rw[this];cases zS t k2<;>rfl
     have stl:(goT t ks.dropLast).getD (ks.length - 1) .non=s:=gd _ s hsi;obtain⟨pT1,pT2,pT3⟩:=jY (w:=w) (k:=k) s1 hn (nN s3 hz);obtain⟨pL1,pL2,pL3⟩:=zTe (w:=w) (k:=k) s1 hn (nN s3 hz);have cond':∀i,i<ks.length - 1→zS ((goT t ks.dropLast).getD i .non) (ks.getD i (.inl 0))=some ((goT t ks.dropLast).getD (i+1) .non)∧T.fewm (m0+1) ((goT t ks.dropLast).getD i .non)∧T.dep ((goT t ks.dropLast).getD i .non)+i≤16:=fun i hi=>by
      obtain⟨q1,q2,q3⟩:=cond i hi;exact⟨q1,T.fewm_mono (rJ m0) _ q2,q3⟩
     have bT:=zLq (B:=16) (Z:=T.sz n) (ks.length - 1) (zZ w s k n) cond' pT1 (by lia) (by rw[stl];exact pT3);have bL:=zLq (B:=16) (Z:=T.sz n) (ks.length - 1) (zAz w s k n) cond' pL1 (by lia) (by rw[stl];exact pL3);rw[st0] at bT bL;refine⟨?_,bT,bL⟩;have:=zRw (m0:=m0) (by lia) (ks.length - 1) (20 - (ks.length - 1)) _ _ (fun i hi=>by
      obtain⟨q1,q2,q3⟩:=cond i hi;exact⟨_,q1,q2,by lia⟩) (zYd (m:=m0) (d:=20 - (ks.length - 1)) (w:=w) (t:=s) (n:=n) (k:=k) (by lia) s1 hn (nN s3 hz) (by lia) (by lia))
     rw[show 20 - (ks.length - 1)+(ks.length - 1)=20 by lia] at this;exact this
    ·rw[mI hc,mI hc];exact .inl ⟨_,rfl,rfl⟩
def qF:V→Bool
 | .str x=>yJ (ts x)
 | _=>false
def zHt:Sp:=fun vs H Q _=>∃(v:V)(t:String),vs= [v]∧tyS H v=some t∧(∀x,v= .str x→x.length≤1000)∧∀H',Same H H'→Q (.bl (qF v)) H'
theorem zWp{H:Hp}{v:V}{t:String}(ht:tyS H v=some t)(h:zN t "str" =false):qF v=false:=by
 cases v with
 | str x=>cases ht;exact absurd h (by decide)
 | _=>rfl
theorem yBj{H:Hp}{v:V}{t:String}(ht:tyS H v=some t)(h:¬zN t "str" =false):∃x,v= .str x:=by
 cases v with
 | str x=>exact⟨x,rfl⟩
 | ref a=>
  have h':(match H a with | some (.lst _)=>some "list" | some (.tup _)=>some "tuple" | some (.dK _)=>some "dict" | _=>none)=some t:=ht
  split at h'<;>first |(cases h';exact absurd (by decide) h)| cases h'
 | non=>cases ht;exact absurd (by decide) h
 | bl b=>cases ht;exact absurd (by decide) h
 | int b=>cases ht;exact absurd (by decide) h
 | byt b=>cases ht
 | flt b=>cases ht
 | ty b=>cases ht
structure Ms(mg:Str→Option Value):Prop where
 LETTERS:∃t,mg "LETTERS" =some (.str (Str.ofString "abcdefghijklmnopqrstuvwxyz") t)
 NAME_SIGNS:∃t,mg "NAME_SIGNS" =some (.str (Str.ofString "abcdefghijklmnopqrstuvwxyz0123456789") t)
 MOST_IN_NAME:∃t,mg "MOST_IN_NAME" =some (.int 12 t)
 MOST_IN_TEXT:∃t,mg "MOST_IN_TEXT" =some (.int 30 t)
 MOST_IN_ROW:∃t,mg "MOST_IN_ROW" =some (.int 60 t)
 MOST_IN_RECORD:∃t,mg "MOST_IN_RECORD" =some (.int 30 t)
 MOST_DEPTH:∃t,mg "MOST_DEPTH" =some (.int 8 t)
 MOST_SIZE:∃t,mg "MOST_SIZE" =some (.int 200 t)
abbrev zHw:Stmt:=top 11
theorem scIsName:zP ["thing"] ["thing"] (zH zHw):=by walk_at "sc"
theorem zLk(F:Fun K "is_name" "is_name" zHw f fd)(B:Bl mg)(M:Ms mg):FnOk P w K mg base CX0 1 f fd ["thing"] zHt:=by
 refine F.ok scIsName (by walk_at "ln") fun c A o s H vs Q E hr h=>?_;obtain⟨v,t,rfl,ht,hl,q⟩:=h;have nd:=scIsName.nd;refine⟨_,(zC (zR (PW.pt (kL (xC (zT (pI B.isinstance zI B.str vM (pv 0)))) (qJ (xC (zIg vN vN zD (zM jS rfl B.len yH (zA (pv 0) zB)) (zBa rfl M.MOST_IN_NAME)))))) (zF (zJ wA)) zL)
  (zF (zJ (xN (yG zGc (yE kF (pv 0) zD (fun _ _=>rfl)) (zTn rfl M.LETTERS) (by with_unfolding_all rfl)) (xJ (zM (wX rfl) rfl B.all jP (zA (yV (own:=["sign"]) (F:=[]) ⟨rfl,by walk_at "wu",by walk_at "wu",by walk_at "wu", .nil⟩ rfl (zLp (pv 0)) (fun _ _ _ _=>zW (i:=0) (by show(xK ["sign"] []).Nodup;decide+kernel) rfl (nO rfl)) (fun _ _ _ _=>yR) (fun _ _ _ _=>(yG zGc (pv 0) (zTn rfl M.NAME_SIGNS) (by with_unfolding_all rfl)))) zB))))))), ?_⟩
 walk_at "st";walk_at "rd3";refine⟨t,ht, ?_⟩
 by_cases hs:zN t "str" =false
 ·rw[mK hs]
  have e:qF v=false:=zWp ht hs;rw[←e];exact q H (Same.refl H)
 ·rw[mI hs]
  obtain⟨x,rfl⟩:=yBj ht hs;have hx:=hl x rfl;have hlen:=kR x;refine⟨x,rfl,by lia, ?_⟩
  by_cases h1:(1:Int)≤(x.length:Int)
  ·rw[mK h1]
   by_cases h12:¬(x.length:Int)≤12
   ·rw[mK h12]
    have e:qF (.str x)=false:=by
     show yJ (ts x)=false;unfold yJ;rw[show decide ((ts x).length≤12)=false from nJ (by lia)];simp
    rw[←e];exact q H (Same.refl H)
   rw[mI h12];obtain⟨c,r,hc⟩:∃c r,ts x=c::r:=by
    cases e:ts x with
    | nil=>rw[e] at hlen;simp at hlen;lia
    | cons c r=>exact⟨c,r,rfl⟩
   refine kT (by rw[mU];lia) (c:=c) (by rw[hc];exact yM (j:=0) rfl) ⟨c,rfl, ?_⟩;have en:qF (.str x)=(decide (c∈letL)&& (ts x).all fun c=>decide (c∈letL++qM)):=by
    show yJ (ts x)=_;unfold yJ;rw[show decide ((ts x).length≤12)=true from mZ (by lia),show decide (1≤(ts x).length)=true from mZ (by lia),hc];simp
   simp only[yBs]
   by_cases hcl:c∈letL
   ·rw[mK hcl]
    refine⟨x,rfl,zDq (fun i ys H'=>Same H H'∧ys=(((ts x).take i).map fun c=>decide (c∈letL++qM)).map V.bl) (by rw[mU];lia) ⟨Same.refl _,rfl⟩ ?_ ?_⟩
    ·rintro i d ys H' hd _ ⟨hS,rfl⟩
     walk_at "rd3";refine⟨d,rfl,hS, ?_⟩;have e:(ts x).take (i+1)=(ts x).take i++ [d]:=by rw[cC,hd];rfl
     rw[e,zGu];simp only[nA,mY,rT]
    ·rintro ys H' hl' ⟨hS,rfl⟩ p hp
     refine⟨p,rfl,_,SqL.of zE, ?_⟩;have e:qF (.str x)=((((ts x).take (ts x).length).map fun c=>decide (c∈letL++qM)).all id):=by
      rw[en,mZ hcl,aO,nQ,rW];rfl
     rw[←e];exact q _ (hS.trans (zG hp _))
   ·rw[mI hcl]
    have e:qF (.str x)=false:=by rw[en,nJ hcl];rfl
    rw[←e];exact q H (Same.refl H)
  ·rw[mI h1]
   have e:qF (.str x)=false:=by
    have:ts x= []:=sT (by lia);show yJ (ts x)=false;rw[this];rfl
   rw[←e];exact q H (Same.refl H)
abbrev zBr:Stmt:=top 10
abbrev zLr:Stmt:=top 26
def wE(t:String):V:=if t= "NoneType" then .str "nothing" else if t= "bool" then .str "truth" else if t= "int" then .str "number" else if t= "str" then .str "text" else if t= "list" then .str "row" else if t= "dict" then .str "record" else .non
def tyM:List String:=["NoneType","bool","int","str","list","tuple","dict"]
theorem zWv(t:T):tyT t∈tyM:=by cases t<;>simp[tyT,tyM]
def zVf:Sp:=fun vs H Q _=>∃(v:V)(t:T),vs= [v]∧Rep H v t∧∀H',Same H H'→Q (wE (tyT t)) H'
theorem zVx{H:Hp}{v:V}{t:T}(h:Rep H v t):v= .non↔tyT t= "NoneType":=by
 constructor
 ·intro e
  subst e;have:=h.ty;exact(mV this).symm
 ·intro e
  cases t with
  | non=>exact h
  | _=>exact absurd e (by simp[tyT])
theorem scKindOf:zP ["thing"] ["thing"] (zH zBr):=by walk_at "sc"
theorem zLe(F:Fun K "kind_of" "kind_of" zBr f fd)(B:Bl mg):FnOk P w K mg base CX0 1 f fd ["thing"] zVf:=by
 refine F.ok scKindOf (by walk_at "ln") fun c A o s H vs Q E hr h=>?_;obtain⟨v,t,rfl,hv,q⟩:=h;have nd:=scKindOf.nd;refine⟨_,(zC (zR (zHq (zKp (pv 0))) (zF (zJ zV)) zL)
  (zC (zR (zT (pI B.isinstance zI B.bool kW (pv 0))) (zF (zJ zV)) zL)
  (zC (zR (zT (pI B.isinstance zI B.int jL (pv 0))) (zF (zJ zV)) zL)
  (zC (zR (zT (pI B.isinstance zI B.str vM (pv 0))) (zF (zJ zV)) zL)
  (zC (zR (zT (pI B.isinstance zI B.list xT (pv 0))) (zF (zJ zV)) zL)
  (zC (zR (zT (pI B.isinstance zI B.dict xF (pv 0))) (zF (zJ zV)) zL)
  (zF (zJ zAj)))))))), ?_⟩
 walk_at "st";walk_at "rd3";have q:=q H (Same.refl H);have ht:=hv.ty;have hm:=zWv t;have hn:=zVx hv;simp only[ht,Option.some.injEq,eQ];generalize tyT t=y at hm hn q;simp only[tyM,mG,tF,dN] at hm
 by_cases hv:v= .non
 ·rw[mK hv];rw[hn.mp hv] at q;exact q
 ·rw[mI hv]
  rcases hm with rfl | rfl | rfl | rfl | rfl | rfl | rfl
  ·exact absurd (hn.mpr rfl) hv
  all_goals (simpa [zN,wE] using q)
def zFe:T→Bool
 | .str x=>yJ x
 | _=>false
def xL:T→Bool
 | .int i=>decide (0≤i∧i<60)
 | _=>false
def uR:Sp:=fun vs H Q _=>∃(v:V)(t:T),vs= [v]∧Rep H v t∧∀H',Same H H'→Q (.bl (xL t)) H'
theorem scPlace:zP ["thing"] ["thing"] (zH zLr):=by walk_at "sc"
theorem zUv(F:Fun K "is_place" "is_place" zLr f fd)(B:Bl mg)(M:Ms mg)(Gkind_of:Dn P w K mg base 1 "kind_of" ["thing"] zVf):FnOk P w K mg base CX0 2 f fd ["thing"] uR:=by
 refine F.ok scPlace (by walk_at "ln") fun c A o s H vs Q E hr h=>?_;obtain⟨v,t,rfl,hv,q⟩:=h;have nd:=scPlace.nd;refine⟨_,(zF (zJ (xN (yG xM (pD Gkind_of hr (zA (pv 0) zB)) zV (zQ _)) (xJ (zJq vN zBb zD (pv 0) (zBa rfl M.MOST_IN_ROW)))))), ?_⟩;walk_at "st";walk_at "rd3";refine⟨v,t,rfl,hv,fun H1 g1=>?_⟩;have q:=q H1 g1
 cases t with
 | int i=>
  cases (show v=_ from hv);refine⟨rfl,iP (show wE "int" =V.str (Str.ofString "number") by decide+kernel) ⟨i,rfl, ?_⟩⟩
  by_cases c0:0≤i
  ·refine iP c0 ⟨i,rfl, ?_⟩
   have e:xL (.int i)=decide (i<60):=by simp[xL,c0]
   rw[←e];exact q
  ·refine iN c0 ?_
   have e:xL (.int i)=false:=by simp[xL,c0]
   rw[←e];exact q
 | non=>exact⟨rfl,iN (show¬wE "NoneType" =V.str (Str.ofString "number") by decide+kernel) q⟩
 | bl b=>exact⟨rfl,iN (show¬wE "bool" =V.str (Str.ofString "number") by decide+kernel) q⟩
 | str b=>exact⟨rfl,iN (show¬wE "str" =V.str (Str.ofString "number") by decide+kernel) q⟩
 | lst b=>exact⟨rfl,iN (show¬wE "list" =V.str (Str.ofString "number") by decide+kernel) q⟩
 | dic b c=>exact⟨rfl,iN (show¬wE "dict" =V.str (Str.ofString "number") by decide+kernel) q⟩
 | tup b=>exact⟨rfl,iN (show¬wE "tuple" =V.str (Str.ofString "number") by decide+kernel) q⟩
abbrev sLw:Stmt:=top 48
abbrev sCc:Stmt:=top 49
abbrev zZt:Stmt:=top 51
abbrev zZq:Stmt:=top 52
abbrev zTj:Stmt:=top 50
theorem zJi{k:Key}(h:okK k)(i:Int)(e:k= .inl i):xL (.int i)=true:=by
 subst e;have h':0≤i∧i≤59:=h;simp only[xL,pC]
 lia
theorem zDp(xs:List V){i:Int}(h:0≤i):jU xs none (some i)=xs.take i.toNat:=by
 obtain⟨n,rfl⟩:=sU h;unfold jU;rw[HT.sIx_nat,HT.sIx_none,rZ,eL,nR]
 by_cases c:n≤xs.length
 ·rw[aV c]
 ·rw[aG (by lia),pH (mD _),pH (by lia)]
theorem uE(xs:List V){i:Int}(h:0≤i):jU xs (some i) none=xs.drop i.toNat:=by
 obtain⟨n,rfl⟩:=sU h;unfold jU;rw[HT.sIx_nat,HT.sIx_none,nR]
 by_cases c:n≤xs.length
 ·rw[aV c,pH (by rw[rG];exact mD _)]
 ·rw[aG (by lia),cG (mD _),cG (by lia),dX]
theorem Reps.dropK{H:Hp}{n:List Nat}:∀{ps:List (Key×V)}{ks:List (List Nat)}{us:List T},ps.map (·.1)=ks.map nK→Reps H (ps.map (·.2)) us→(L2.dropK ps (nK n)).map (·.1)=(xV n ks).map nK∧Reps H ((L2.dropK ps (nK n)).map (·.2)) (yQ n ks us)
 | [],[],us,_,h=>by
  have e:us= []:=by
   cases us with
   | nil=>rfl
   | cons _ _=>obtain⟨v,r,e,_⟩:=h;cases e
  subst e;exact⟨rfl,rfl⟩
 | [],_::_,_,e,_=>by simp at e
 | _::_,[],_,e,_=>by simp at e
 | p::ps,k::ks,[],_,h=>by
  have h':(p::ps).map (·.2)= []:=h;cases h'
 | p::ps,k::ks,u::us,e,⟨v',r,e0,h1,h2⟩=>by
  have e':p.2::ps.map (·.2)=v'::r:=e0;injection e' with e1 e2;subst e1 e2;have e3:p.1::ps.map (·.1)=nK k::ks.map nK:=e;injection e3 with e4 e5;obtain⟨i1,i2⟩:=Reps.dropK (n:=n) e5 h2;unfold L2.dropK at i1 i2⊢;rw[eG];unfold xV yQ
  by_cases hk:k=n
  ·rw[mI (by simp[e4,hk]),mK hk,mK hk]
   exact⟨i1,i2⟩
  ·rw[mK (by rw[e4];exact mZ fun z=>hk (zDk z)),mI hk,mI hk]
   exact⟨by rw[mY,mY,e4,i1],_,_,rfl,h1,i2⟩
theorem scLw:zP ["thing","step"] ["thing","step"] (zH sLw):=by walk_at "sc"
theorem ok_lw(F:Fun K "leads_within" "leads_within" sLw f fd)(B:Bl mg)(Gleads_on:Dn P w K mg base 1 "leads_on" ["thing","step"] zPp)(Gis_place:Dn P w K mg base 2 "is_place" ["thing"] uR):FnOk P w K mg base CX0 3 f fd ["thing","step"] zPp:=by
 refine F.ok scLw (by walk_at "ln") fun c A o s H vs Q E hr h=>?_;obtain⟨v,t,k,rfl,hv,hp,hz,hk,q⟩:=h;have nd:=scLw.nd;refine⟨_,(zF (zJ (xN (pD Gleads_on hr (zA (pv 0) (zA (pv 1) zB))) (xJ (zEs (pI B.isinstance zI B.str vM (pv 1)) (xJ (pD Gis_place hr (zA (pv 1) zB)))))))), ?_⟩;walk_at "st";walk_at "rd3";refine⟨v,t,k,rfl,hv,hp,hz,hk,fun H1 g1=>⟨_,rfl, ?_⟩⟩;have q1:=q H1 g1
 cases hb:(zS t k).isSome with
 | false=>rw[hb] at q1;exact iN (by decide) q1
 | true=>
  refine iP rfl ?_
  cases k with
  | inr x=>rw[hb] at q1;exact⟨"str",rfl,iP (by decide) q1⟩
  | inl i=>
   refine⟨"int",rfl,iN (by decide) ⟨_, .int i,rfl,rfl,fun H2 g2=>?_⟩⟩;rw[zJi hk i rfl];have q2:=q H2 (g1.trans g2);rw[hb] at q2;exact q2
def spCc:Sp:=fun vs H Q _=>∃(v:V)(t:T)(w:Wd)(k:Key),vs= [v, .str w.s,kV k]∧Rep H v t∧T.pure t∧T.sz t≤100000∧okK k∧∀H',Same H H'→Q (.bl (vL w t k)) H'
theorem scCc:zP ["holder","word","step"] ["holder","word","step"] (zH sCc):=by walk_at "sc"
theorem ok_cc(F:Fun K "can_change" "can_change" sCc f fd)(B:Bl mg)(Gleads_within:Dn P w K mg base 3 "leads_within" ["thing","step"] zPp)(Gis_place:Dn P w K mg base 2 "is_place" ["thing"] uR):FnOk P w K mg base CX0 4 f fd ["holder","word","step"] spCc:=by
 refine F.ok scCc (by walk_at "ln") fun c A o s H vs Q E hr h=>?_;obtain⟨v,t,wd,k,rfl,hv,hp,hz,hk,q⟩:=h;have nd:=scCc.nd;refine⟨_,(zC (zR (zU xM (pv 1) zV (zQ _)) (zF (zJ (pD Gleads_within hr (zA (pv 0) (zA (pv 2) zB))))) zL)
  (zC (zR (zT (pI B.isinstance zI B.str vM (pv 2))) (zF (zJ (xN (yG xM (pv 1) zV (zQ _)) (xJ (pI B.isinstance zI B.dict xF (pv 0)))))) zL)
  (zF (zJ (xN (pI B.isinstance zI B.list xT (pv 0)) (xN (pD Gis_place hr (zA (pv 2) zB)) (xJ (yG vN (pv 2) (zM zY rfl B.len yH (zA (pv 0) zB)) (zQ _))))))))), ?_⟩
 walk_at "st";walk_at "rd3";have q0:=q H (Same.refl H);have tPut:¬Wd.put.s=Str.ofString "take":=by decide+kernel
 have tIns:¬Wd.ins.s=Str.ofString "take":=by decide+kernel
 have pIns:¬Wd.ins.s=Str.ofString "put":=by decide+kernel
 have row:∀(wd:Wd)(i:Int),k= .inl i→(∀us,t= .lst us→vL wd t k=decide (i≤(us.length:Int)))→((∀us,t≠ .lst us)→vL wd t k=false)→(∀H',Same H H'→Q (.bl (vL wd t k)) H')→∃x,tyS H v=some x∧if zN x "list" =true then uR [kV k] H (fun x H1=>∃c,x=V.bl c∧if c=true then∃p,v=V.ref p∧∃ys,SqL K H1 p ys∧∃i,kV k=V.int i∧Q (V.bl (decide (i≤(ys.length:Int)))) H1 else Q (V.bl false) H1) E0 else Q (V.bl false) H:=by
  intro wd i ek h1 h2 q;subst ek;have no:(∀us,t≠ .lst us)→Q (.bl false) H:=fun hne=>by have:=q H (Same.refl H);rw[h2 hne] at this;exact this
  cases t with
  | lst us=>
   obtain⟨b,xs,rfl,hb,hx⟩:=hv;refine⟨"list",jH hb,iP (by decide) ⟨_, .int i,rfl,rfl,fun H2 g2=>⟨_,rfl, ?_⟩⟩⟩;rw[zJi hk i rfl];refine iP rfl ⟨b,rfl,xs,SqL.of (g2 _ _ hb),i,rfl, ?_⟩;have q2:=q H2 g2;rw[h1 us rfl] at q2;rw[hx.length];exact q2
  | dic ks us=>exact⟨_,hv.ty,iN (by simp[tyT,zN]) (no (by intro us z;cases z))⟩
  | tup us=>exact hp.elim
  | non=>exact⟨_,hv.ty,iN (by simp[tyT,zN]) (no (by intro us z;cases z))⟩
  | bl b=>exact⟨_,hv.ty,iN (by simp[tyT,zN]) (no (by intro us z;cases z))⟩
  | int b=>exact⟨_,hv.ty,iN (by simp[tyT,zN]) (no (by intro us z;cases z))⟩
  | str b=>exact⟨_,hv.ty,iN (by simp[tyT,zN]) (no (by intro us z;cases z))⟩
 cases wd with
 | tak=>exact iP rfl ⟨v,t,k,rfl,hv,hp,hz,hk,q⟩
 | put=>
  refine iN tPut ?_
  cases k with
  | inr x=>
   refine⟨"str",rfl,iP (by decide) (iP rfl ⟨_,hv.ty, ?_⟩)⟩;have e:zN (tyT t) "dict" =vL .put t (.inr x):=by cases t<;>first | rfl |(simp[tyT,zN,vL])
   rw[e];exact q0
  | inl i=>exact⟨"int",rfl,iN (by decide) (row .put i rfl (fun us e=>by subst e;rfl) (fun h=>by cases t<;>first | rfl | exact absurd rfl (h _)) q)⟩
 | ins=>
  refine iN tIns ?_
  cases k with
  | inr x=>
   refine⟨"str",rfl,iP (by decide) (iN pIns ?_)⟩;have e:vL .ins t (.inr x)=false:=by cases t<;>rfl
   rw[e] at q0;exact q0
  | inl i=>exact⟨"int",rfl,iN (by decide) (row .ins i rfl (fun us e=>by subst e;rfl) (fun h=>by cases t<;>first | rfl | exact absurd rfl (h _)) q)⟩
def zYr:Sp:=fun vs H Q _=>∃(a:Addr)(ps:List (Key×V))(ks:List (List Nat))(us:List T)(w:Wd)(x:Str)(vn:V)(n:T),vs= [.ref a, .str w.s, .str x,vn]∧H a=some (.dK ps)∧ps.map (·.1)=ks.map nK∧Reps H (ps.map (·.2)) us∧ks.Nodup∧ks.length=us.length∧us.length≤1000∧(w= .put∨w= .tak∧ts x∈ks)∧Rep H vn n∧∀p H',Same H H'→Rep H' (.ref p) (zZ w (.dic ks us) (.inr x) n)→Q (.ref p) H'
theorem scRec:zP ["record","word","name","new","changed"] ["record","word","name","new"] (zH zZt):=by walk_at "sc"
theorem yAg(F:Fun K "record_changed" "record_changed" zZt f fd)(B:Bl mg):FnOk P w K mg base CX0 1 f fd ["record","word","name","new"] zYr:=by
 refine F.ok scRec (by walk_at "ln") fun c A o s H vs Q E hr h=>?_;obtain⟨a,ps,ks,us,wd,x,vn,n,rfl,ha,hkk,hs,nk,hku,hul,hw,hn,q⟩:=h;have nd:=scRec.nd;have hu:=jC hr;refine⟨_,(zC (pS 4 nd (yU zJs rfl B.dict xF (zA (pv 0) zB)))
  (zC (zR (zU xM (pv 1) zV (zQ _)) (zF (kZ (zVh (pv 4) (pv 2) ⟨rfl,rfl,rfl,rfl⟩))) (zF (zFy hu (pv 4) (pv 2) (pv 3) rfl)))
  (zF (zJ (pv 4))))), ?_⟩
 walk_at "st";walk_at "rd3";refine⟨ps,ha,fun l hl=>?_⟩;have s1:=zG hl (.dK ps);have hl1:=zE (H:=H) (a:=l) (o:=.dK ps);have hla:∀o,Same H (upd (upd H l (.dK ps)) l o):=fun o=>by rw[zNd];exact zG hl o
 have hpl:ps.length=us.length:=by have:=hs.length;rwa [mJ] at this
 have ex:(Sum.inr x:Key)=nK (ts x):=by show(Sum.inr x:Key)=Sum.inr (tx (ts x));rw[kJ]
 rcases hw with rfl |⟨rfl,hx⟩
 ·refine iN (by decide+kernel) ⟨_,DPut.k (k:=Sum.inr x) hl1 (by rw[mU];lia), ?_⟩
  refine q l _ (hla _) ?_;rw[ex];obtain⟨p1,p2⟩:=zKe (p:=(ks,us)) (n:=ts x) (t:=n) hkk hs hn;exact⟨l,_,rfl,zE,p1,Reps.same (hla _) _ _ p2⟩
 ·refine iP rfl ?_
  obtain⟨xv,hv1,_⟩:=Rep.at_name nk hkk hs hx;refine⟨_,rfl,l,rfl, .inl ⟨ps, .inl hl1⟩,_,rfl,ps,nK (ts x),xv,hl1,by rw[←ex];rfl,hv1, ?_⟩;obtain⟨p1,p2⟩:=Reps.dropK (n:=ts x) hkk hs;refine q l _ (hla _) ⟨l,_,rfl,zE,p1,Reps.same (hla _) _ _ p2⟩
def zYl:Sp:=fun vs H Q _=>∃(a:Addr)(xs:List V)(us:List T)(w:Wd)(i:Int)(vn:V)(n:T),vs= [.ref a, .str w.s, .int i,vn]∧H a=some (.lst xs)∧Reps H xs us∧us.length≤100000∧0≤i∧Rep H vn n∧∀p H',Same H H'→Rep H' (.ref p) (zZ w (.lst us) (.inl i) n)→Q (.ref p) H'
theorem scRow:zP ["row","word","place","new","ahead","behind"] ["row","word","place","new"] (zH zZq):=by walk_at "sc"
theorem yBy(F:Fun K "row_changed" "row_changed" zZq f fd)(B:Bl mg):FnOk P w K mg base CX0 1 f fd ["row","word","place","new"] zYl:=by
 refine F.ok scRow (by walk_at "ln") fun c A o s H vs Q E hr h=>?_;obtain⟨a,xs,us,wd,i,vn,n,rfl,ha,hs,hul,hi,hn,q⟩:=h;have nd:=scRow.nd;refine⟨_,(zC (pS 4 nd (xQ vS (pv 0) wG (wC (pv 2))))
  (zC (pS 5 nd (zCh (zU xM (pv 1) zV (zQ _)) (xQ vS (pv 0) (wC (pv 2)) wG) (xQ vS (pv 0) (wC (zK yP (pv 2) zD)) wG)))
  (zC (zR (zU xM (pv 1) zV (zQ _)) (zF (zJ (zK jN (pv 4) (pv 5)))) zL)
  (zF (zJ (zK jN (zK jN (pv 4) (yT (zA (pv 3) zB))) (pv 5))))))), ?_⟩
 walk_at "st";walk_at "rd3";have hxl:=hs.length;refine⟨a,xs,rfl,SqL.of ha,fun p1 hp1=>?_⟩;rw[zDp xs hi];have s1:=zG hp1 (.lst (xs.take i.toNat));have e1:=zE (H:=H) (a:=p1) (o:=.lst (xs.take i.toNat));generalize upd H p1 (.lst (xs.take i.toNat))=H1 at s1 e1⊢;have hT:Reps H (xs.take i.toNat) (us.take i.toNat):=Reps.take _ hs;have fin:∀(j:Nat)(p2:Addr),H1 p2=none→(∀p H',Same H H'→Rep H' (.ref p) (.lst (us.take i.toNat++n::us.drop j))→Q (.ref p) H')→∀(p:Addr),upd H1 p2 (.lst (xs.drop j)) p=none→zVs (V.ref p1) (V.ref p) (upd (upd H1 p2 (.lst (xs.drop j))) p (HO.lst [vn])) fun x H1=>zVs x (V.ref p2) H1 Q:=fun j p2 hp2 q p3 hp3=>by
  have s2:=zG hp2 (.lst (xs.drop j));have e2:=zE (H:=H1) (a:=p2) (o:=.lst (xs.drop j));generalize upd H1 p2 (.lst (xs.drop j))=H2 at s2 e2 hp3⊢;have s3:=zG hp3 (.lst [vn]);have e3:=zE (H:=H2) (a:=p3) (o:=.lst [vn]);generalize upd H2 p3 (.lst [vn])=H3 at s3 e3⊢;refine⟨p1,p3,_,_,rfl,rfl,s3 _ _ (s2 _ _ e1),e3,by rw[mU,nU,nB];lia,fun p4 hp4=>?_⟩;have s4:=zG hp4 (.lst (xs.take i.toNat++ [vn]));have e4:=zE (H:=H3) (a:=p4) (o:=.lst (xs.take i.toNat++ [vn]));generalize upd H3 p4 (.lst (xs.take i.toNat++ [vn]))=H4 at s4 e4⊢;refine⟨p4,p2,_,_,rfl,rfl,e4,s4 _ _ (s3 _ _ e2),by rw[mU,mL,nU,rG,nB];lia,fun p5 hp5=>?_⟩;have G:=s1.trans (s2.trans (s3.trans (s4.trans (zG hp5 (.lst (xs.take i.toNat++ [vn]++xs.drop j))))));refine q p5 _ G ⟨p5,_,rfl,zE,Reps.same G _ _ ?_⟩;rw[rR];exact Reps.append (show Reps H ([vn]++xs.drop j) (n::us.drop j) from⟨vn,_,rfl,hn,Reps.drop _ hs⟩) hT
 have i1:(i+1).toNat=i.toNat+1:=by lia
 cases wd with
 | put=>
  refine iN (by decide+kernel) ⟨a,xs,rfl,SqL.of (s1 _ _ ha),fun p2 hp2=>iN (by decide+kernel) ?_⟩;rw[uE xs (by lia),i1] at*;exact fin _ p2 hp2 q
 | ins=>
  refine iP rfl ⟨a,xs,rfl,SqL.of (s1 _ _ ha),fun p2 hp2=>iN (by decide+kernel) ?_⟩;rw[uE xs hi] at*;exact fin _ p2 hp2 q
 | tak=>
  refine iN (by decide+kernel) ⟨a,xs,rfl,SqL.of (s1 _ _ ha),fun p2 hp2=>iP rfl ?_⟩;rw[uE xs (by lia),i1] at*;have s2:=zG hp2 (.lst (xs.drop (i.toNat+1)));have e2:=zE (H:=H1) (a:=p2) (o:=.lst (xs.drop (i.toNat+1)));generalize upd H1 p2 (.lst (xs.drop (i.toNat+1)))=H2 at s2 e2⊢;refine⟨p1,p2,_,_,rfl,rfl,s2 _ _ e1,e2,by rw[mU,nU,rG];lia,fun p3 hp3=>?_⟩;have G:=s1.trans (s2.trans (zG hp3 (.lst (xs.take i.toNat++xs.drop (i.toNat+1)))));exact q p3 _ G ⟨p3,_,rfl,zE,Reps.same G _ _ (Reps.append (Reps.drop _ hs) hT)⟩
def zQy:Sp:=fun vs H Q _=>∃(v:V)(t:T)(w:Wd)(k:Key)(vn:V)(n:T)(m:Nat),vs= [v, .str w.s,kV k,vn]∧Rep H v t∧T.fewm m t∧m≤63∧T.sz t≤50000∧okK k∧vL w t k=true∧Rep H vn n∧∀v' H',Same H H'→Rep H' v' (zZ w t k n)→Q v' H'
theorem scPart:zP ["holder","word","step","new"] ["holder","word","step","new"] (zH zTj):=by walk_at "sc"
theorem zWt(F:Fun K "part_changed" "part_changed" zTj f fd)(B:Bl mg)(Grecord_changed:Dn P w K mg base 1 "record_changed" ["record","word","name","new"] zYr)(Grow_changed:Dn P w K mg base 1 "row_changed" ["row","word","place","new"] zYl):FnOk P w K mg base CX0 2 f fd ["holder","word","step","new"] zQy:=by
 refine F.ok scPart (by walk_at "ln") fun c A o s H vs Q E hr h=>?_;obtain⟨v,t,wd,k,vn,n,m,rfl,hv,hf,hm,hz,hk,hc,hn,q⟩:=h;have nd:=scPart.nd;refine⟨_,(zC (zR (zT (pI B.isinstance zI B.dict xF (pv 0))) (zF (zJ (pD Grecord_changed hr (zA (pv 0) (zA (pv 1) (zA (pv 2) (zA (pv 3) zB))))))) zL)
  (zF (zJ (pD Grow_changed hr (zA (pv 0) (zA (pv 1) (zA (pv 2) (zA (pv 3) zB)))))))), ?_⟩
 walk_at "st";walk_at "rd3"
 cases t with
 | dic ks us=>
  obtain⟨a,ps,rfl,ha,hkk,hs⟩:=hv;have hku:=hf.2.2.1;have hkm:=hf.2.1;refine⟨"dict",jO ha,iP (by decide) ?_⟩
  cases k with
  | inl i=>cases wd<;>cases hc
  | inr x=>
   refine⟨a,ps,ks,us,wd,x,vn,n,rfl,ha,hkk,hs,hf.1,hku,by lia, ?_,hn,fun p H' g h=>q _ H' g h⟩
   cases wd with
   | put=>exact .inl rfl
   | ins=>cases hc
   | tak=>
    refine .inr ⟨rfl, ?_⟩;have hc':(if ts x∈ks then some (yD (ts x) ks us) else none).isSome=true:=hc
    by_cases h:ts x∈ks
    ·exact h
    ·rw[mI h] at hc';cases hc'
 | lst us=>
  obtain⟨a,xs,rfl,ha,hs⟩:=hv;refine⟨"list",jH ha,iN (by decide) ?_⟩
  cases k with
  | inl i=>exact⟨a,xs,us,wd,i,vn,n,rfl,ha,hs,hf.1,hk.1,hn,fun p H' g h=>q _ H' g h⟩
  | inr x=>cases wd<;>cases hc
 | tup us=>exact hf.elim
 | non=>cases wd<;>cases k<;>cases hc
 | bl b=>cases wd<;>cases k<;>cases hc
 | int b=>cases wd<;>cases k<;>cases hc
 | str b=>cases wd<;>cases k<;>cases hc
end
end K38
namespace K38
open PySem L2 PySem.W
seal L2.PSs L2.PS L2.PE L2.PT L2.PW L2.PA L2.PI L2.PG L2.PGs L2.PPs L2.PTs
def clsFn(s:Stmt):Stmt:=match s with
 | .ClassDef _ _ _ (f::_) _ _ _ _ _ _ _=>f
 | _=>s
abbrev wZ:Stmt:=clsFn (top 23)
theorem zYh:zP ["self","text","at"] ["self","text","at"] (zH wZ):=by walk_at "sc"
section
variable{P:Program}{w:World}{K:PySem.W.Frag}{mg:Str→Option Value}{base:Heap}{C B fI dT:Addr}{nm:Str}{oc kV doc pm cdv ct:Value}{od an:Option Addr}{osl:Array (Option Value)}
theorem zRq(lk:K.lookup fI=some ⟨oc,od, .func (fnOf "__init__" "NoPlace.__init__" (xG wZ) (yY wZ) (zH wZ) (.ref dT) kV doc pm an cdv ct),osl⟩)(hcd:codeIn K cdv "NoPlace.__init__" =true)(c:zLj K nm C B fI)(b:zTl K B)(hmB:mg "CabinetError" =some (.ref B)):
  FnOk P w K mg base CX0 1 fI (fnOf "__init__" "NoPlace.__init__" (xG wZ) (yY wZ) (zH wZ) (.ref dT) kV doc pm an cdv ct) ["self","text","at"] (zBt C):=by
 refine zMx (k:=0) lk hcd zYh (fun vs H Q E h=>?_) fun A outer s H vs Q E hr h=>?_
 ·obtain⟨x,v0,v,rfl,_⟩:=h
  rfl
 obtain⟨x,v0,v,rfl,hx,q⟩:=h;refine⟨_,(zC (kZ (zTz c b rfl hmB (zA (pv 0) (zA (pv 1) zB)))) (zF (zXn c (pv 2) (pv 0)))), ?_⟩;refine⟨.ref x,rfl,v0,rfl,x,v0,rfl,hx,v,rfl, .ref x,rfl,x,rfl,hx,fun d hd=>q d hd⟩
theorem zIm{o:Obj}{items:Array Value}{n:Nat}(hd:K.lookup dT=some o)(hs:o.data= .seq items n)(h1:items.size=1):Binds K (fnOf "__init__" "NoPlace.__init__" (xG wZ) (yY wZ) (zH wZ) (.ref dT) kV doc pm an cdv ct) ["self","text","at"] []:=fun s us hK hl=>by
 rw[pY] at hl⊢;obtain⟨l⟩:=items
 match l,h1 with
 | [i0],_=>
  match us,hl with
  | [a,b,c],_=>exact binds_K hK rfl hd hs rfl rfl
end
def XAt(C:Addr)(n:Int)(H:Hp)(E:XK):Prop:=∀d H',Same H H'→H' d=some (.xd [("at", .int n)])→E (.ref C) (some d) H'
theorem XAt.of{C:Addr}{n:Int}{H H1:Hp}{E:XK}{d:Addr}(h:XAt C n H E)(g:Same H H1)(hd:H1 d=none):E (.ref C) (some d) (upd H1 d (.xd [("at", .int n)])):=h d _ (g.trans (zG hd _)) zE
theorem zDn(t:T)(ks:List Key):∃u,(goT t ks).getLast? =some u∧u∈goT t ks:=by
 have h:=(gL t ks).1
 cases e:(goT t ks).getLast? with
 | none=>rw[List.getLast?_eq_none_iff.mp e] at h;exact absurd h (by decide)
 | some u=>exact⟨u,rfl,List.mem_of_getLast? e⟩
theorem uV{α:Type}{xs:List α}{v:α}(h:xs.getLast? =some v):atI xs (-1)=some v:=by
 rcases List.eq_nil_or_concat xs with e |⟨ys,y,e⟩
 ·rw[e] at h;cases h
 ·rw[List.concat_eq_append] at e
  subst e;rw[List.getLast?_concat] at h;cases h;exact qB _ _
theorem Reps.last{H:Hp}{vs:List V}{us:List T}{u:T}(h:Reps H vs us)(hu:us.getLast? =some u):∃v,vs.getLast? =some v∧Rep H v u:=by
 have hl:=h.length;rw[aD] at hu;have hi:=(nE.mp hu).1;have hi':us.length - 1<vs.length:=by lia
 obtain⟨t,h1,h2⟩:=h.get (nF hi');rw[hu] at h1;cases h1;refine⟨_, ?_,h2⟩;rw[aD,hl];exact nF hi'
abbrev sWc:Stmt:=top 46
abbrev sSl:Stmt:=top 47
abbrev sCs:Stmt:=top 45
abbrev sCa:Stmt:=top 43
theorem uT(ks:List Key):jU (ks.map kV) none (some (-1))=ks.dropLast.map kV:=by
 have e:HT.sIx (ks.map kV).length (ks.map kV).length (some (-1))=ks.length - 1:=by
  show(if(-1:Int)<0 then((-1:Int)+((ks.map kV).length:Int)).toNat else min (-1:Int).toNat (ks.map kV).length)=_;rw[mK (by decide),mJ]
  lia
 unfold jU;rw[e,HT.sIx_none,rZ,eL,List.dropLast_eq_take,dY]
structure Tq(m:Nat)(H:Hp)(v:V)(t:T)(pa:Addr)(ks:List Key):Prop where
 v:Rep H v t
 few:T.fewm m t
 m:m<62
 sz:T.sz t≤50000
 pa:H pa=some (.lst (ks.map kV))
 ok:∀k∈ks,okK k
 l8:ks.length≤8
theorem Tq.pure{m:Nat}{H:Hp}{v:V}{t:T}{pa:Addr}{ks:List Key}(h:Tq m H v t pa ks):T.pure t:=qC _ t (mD _) (T.fewm_few (by have:=h.m;lia) _ h.few)
section
variable{P:Program}{w:World}{K:PySem.W.Frag}{mg:Str→Option Value}{base:Heap}{f:Addr}{fd:FuncData}{C:Addr}
def spWc(C:Addr):Sp:=fun vs H Q E=>∃(wd:Wd)(vn:V),vs= [.str wd.s,vn]∧(wd= .put→∀H',Same H H'→Q vn H')∧(wd≠ .put→XAt C 0 H E)
theorem scWc:zP ["word","new"] ["word","new"] (zH sWc):=by walk_at "sc"
theorem ok_wc(F:Fun K "whole_changed" "whole_changed" sWc f fd)(B:Bl mg)(RNoPlace:Xr P w K mg base 1 "NoPlace" C):FnOk P w K mg base (CXE nC P w) 3 f fd ["word","new"] (spWc C):=by
 refine F.okx scWc (by walk_at "ln") fun c A o s H vs Q E hr h=>?_;obtain⟨wd,vn,rfl,q,qx⟩:=h;have nd:=scWc.nd;refine⟨_,(zC (zR (zU zEk (pv 0) zV (zQ _)) (zF (zAp RNoPlace hr (by lia) rfl rfl lvs (zA zV (zA zD zB)))) zL)
  (zF (zJ (pv 1)))), ?_⟩
 walk_at "st";unfold zBq;walk_at "rd3";have raise:wd≠ .put→∀d,H d=none→E (Value.ref C) (some d) (upd H d (HO.xd [(Str.ofString "at",V.int 0)])):=fun h d hd=>(qx h).of (Same.refl _) hd
 cases wd with
 | put=>exact⟨false,by decide+kernel,iN (by decide) (q rfl H (Same.refl _))⟩
 | ins=>exact⟨true,by decide+kernel,iP rfl ⟨_,_,⟨rfl,rfl⟩,raise (by intro z;cases z)⟩⟩
 | tak=>exact⟨true,by decide+kernel,iP rfl ⟨_,_,⟨rfl,rfl⟩,raise (by intro z;cases z)⟩⟩
def spSl(C:Addr):Sp:=fun vs H Q E=>∃(v:V)(t:T)(pa:Addr)(ks:List Key)(m:Nat),vs= [v, .ref pa]∧Tq m H v t pa ks∧(ks.length≤(goT t ks.dropLast).length→∀p xs H',Same H H'→H' p=some (.lst xs)→Reps H' xs (goT t ks.dropLast)→Q (.ref p) H')∧((goT t ks.dropLast).length<ks.length→XAt C (((goT t ks.dropLast).length:Int)- 1) H E)
theorem scSl:zP ["thing","path","stops","step"] ["thing","path"] (zH sSl):=by walk_at "sc"
theorem ok_sl(F:Fun K "stops_to_last" "stops_to_last" sSl f fd)(B:Bl mg)(Gleads_within:Dn P w K mg base 3 "leads_within" ["thing","step"] zPp)(RNoPlace:Xr P w K mg base 1 "NoPlace" C):FnOk P w K mg base (CXE nC P w) 4 f fd ["thing","path"] (spSl C):=by
 refine F.okx scSl (by walk_at "ln") fun c A o s H vs Q E hr h=>?_;obtain⟨v,t,pa,ks,m,rfl,hT,q,qx⟩:=h;have nd:=scSl.nd;have hu:=jC hr;refine⟨_,(zC (pS 2 nd (yT (zA (pv 0) zB)))
  (zC (qD PassesOwn.leaving rfl (xU (xQ vS (pv 1) wG (wC (wT xW zD)))) (zW (i:=3) nd rfl (nO rfl)) (zC (zR (xC (zT (pD Gleads_within hr (zA (yE ix_list (pv 2) (wT xW zD) (fun _ _=>rfl)) (zA (pv 3) zB))))) (zF (zAp RNoPlace hr (by lia) rfl rfl lvs (zA zV (zA (zK vC (zM zY rfl B.len yH (zA (pv 2) zB)) zD) zB)))) zL)
  (zF (kZ (uU aL bQ PySem.F.type_list_append zEx (pv 2) (zA (zAe (yE ix_list (yE ix_list (pv 2) (wT xW zD) (fun _ _=>rfl)) (pv 3) (fun _ _=>rfl)) (jM hu (yE ix_list (pv 2) (wT xW zD) (fun _ _=>rfl)) (pv 3) (fun _ _=>rfl))) zB))))))
  (zF (zJ (pv 2))))), ?_⟩
 walk_at "st";unfold zBq;walk_at "rd3";intro ps hps;have s1:=zG hps (.lst [v]);have e1:=zE (H:=H) (a:=ps) (o:=.lst [v]);have hz:=hT.sz;have h8:=hT.l8;generalize hH1:upd H ps (.lst [v])=H1 at s1 e1⊢;refine⟨pa,_,rfl,SqL.of (s1 _ _ hT.pa),fun pl hpl=>⟨pl,rfl,⟨_,SqL.of zE⟩, ?_⟩⟩;rw[uT];have s2:=zG hpl (.lst (ks.dropLast.map kV));have e2:=zE (H:=H1) (a:=pl) (o:=.lst (ks.dropLast.map kV));generalize upd H1 pl (.lst (ks.dropLast.map kV))=H2 at s2 e2⊢;have hdl:ks.dropLast.length=ks.length - 1:=dF;have hks:∀k∈ks.dropLast,okK k:=fun k hk=>hT.ok k (List.dropLast_subset ks hk);have hplps:pl≠ps:=fun z=>by rw[z,e1] at hpl;cases hpl
 generalize ks.dropLast=ds at hdl hks e2 q qx⊢;have hgl:=gL t ds;refine jD (K:=K) (a:=pl) (xs:=ds.map kV) (fun i σ' H'=>∃o us u ys c,σ'= [some v,some (.ref pa),some (.ref ps),o]∧Same H H'∧H' pl=some (.lst (ds.map kV))∧H' ps=some (.lst (ys++ [c]))∧Reps H ys us∧Rep H c u∧us.length=i∧goT t ds=us++goT u (ds.drop i)∧T.pure u∧T.sz u≤100000)
  ⟨none,[],t,[],v,rfl,s1.trans s2,e2,s2 _ _ e1,rfl,hT.v,rfl,rfl,hT.pure,by lia⟩ (fun i σ' H' _ h=>by
   obtain⟨o,us,u,ys,c,_,g,h,_⟩:=h;exact SqL.of h) ?_ ?_
 ·rintro i x σ' H' hx ⟨o,us,u,ys,c,rfl,g,hpl',hS,hR,hc,hl,hg,hpu,hzu⟩
  walk_at "rd3";have hyl:=hR.length;rw[nI] at hx
  cases hki:ds[i]? with
  | none=>rw[hki] at hx;cases hx
  | some k=>
   rw[hki] at hx;have ex:kV k=x:=mV hx;subst ex;have hik:=(nE.mp hki).1;have hdr:ds.drop i=k::ds.drop (i+1):=by
    rw[aA hik,(nE.mp hki).2]
   rw[hdr] at hg;refine yK (SqL.of hS) (qB _ _) ⟨c,u,k,rfl,Rep.same g _ _ hc,hpu,hzu,hks _ (mQ hki),fun H2 g2=>⟨_,rfl, ?_⟩⟩;have hS2:=g2 _ _ hS;have gg:=g.trans g2
   cases hs:zS u k with
   | none=>
    have e:goT u (k::ds.drop (i+1))= [u]:=by show(match zS u k with | none=>[u] | some u'=>u::goT u' (ds.drop (i+1)))=_;rw[hs]
    rw[e] at hg;have hlen:(goT t ds).length=i+1:=by rw[hg,mL,hl];rfl
    refine iP rfl ⟨_,SqL.of hS2,_,_,⟨rfl,rfl⟩,fun d hd=>?_⟩;have qq:=(qx (by lia)).of gg hd;rw[hlen] at qq;rw[mL,hyl,hl,nB];exact qq
   | some u'=>
    have e:goT u (k::ds.drop (i+1))=u::goT u' (ds.drop (i+1)):=by show(match zS u k with | none=>[u] | some u'=>u::goT u' (ds.drop (i+1)))=_;rw[hs]
    rw[e] at hg;refine iN (by simp) ⟨nO ⟨rfl,_,SqL.of hS2⟩, ?_⟩;have hend:∀c',Rep H c' u'→T.pure u'→T.sz u'≤100000→zHo (V.ref ps) [c'] H2 (fun _ H1=>Same H H1∧H1 pl=some (.lst (ds.map kV))∧∃us' u1 ys' c1,H1 ps=some (.lst (ys'++ [c1]))∧Reps H ys' us'∧Rep H c1 u1∧us'.length=i+1∧goT t ds=us'++goT u1 (ds.drop (i+1))∧T.pure u1∧T.sz u1≤100000):=fun c' h1 h2 h3=>
     ⟨ps,ys++ [c],c',rfl,rfl,hS2,by rw[mU,mL];show ys.length+1<_;lia,gg.put hps _,by rw[zO hplps];exact g2 _ _ hpl',us++ [u],u',ys++ [c],c',zE,Reps.snoc hc hR,h1,by rw[mL,hl];rfl,by rw[hg,rR];rfl,h2,h3⟩
    obtain⟨c',h1,h2,h3,⟨b,zs,j,rfl,hb,ej,hat⟩|⟨b,qs,rfl,hb,hvq⟩⟩:=zNq hc hpu hzu (hks _ (mQ hki)) hs
    ·refine .inl ?_
     walk_at "rd3";refine yK (SqL.of hS2) (qB _ _) ?_;rw[ej];exact yK (SqL.of (gg _ _ hb)) hat (hend _ h1 h2 h3)
    ·refine .inr ?_
     walk_at "rd3";exact yK (SqL.of hS2) (qB _ _) ⟨b,rfl,c', .inl ⟨qs,k, .inl (gg _ _ hb),rfl,hvq.symm⟩,hend _ h1 h2 h3⟩
 ·rintro σ' H' ⟨o,us,u,ys,c,rfl,g,hpl',hS,hR,hc,hl,hg,hpu,hzu⟩
  walk_at "rd3";rw[mJ,eM] at hg;rw[mJ] at hl;have hlen:(goT t ds).length=ds.length+1:=by rw[hg,mL,hl];rfl
  refine q (by lia) ps _ _ g hS ?_;rw[hg];exact Reps.snoc (Rep.same g _ _ hc) (Reps.same g _ _ hR)
end
end K38
namespace K38
open PySem L2 PySem.W
seal L2.PSs L2.PS L2.PE L2.PT L2.PW L2.PA L2.PI L2.PG L2.PGs L2.PPs L2.PTs
theorem zVv{t u:T}{k:Key}(hk:okK k)(hs:zS t k=some u):vL .put t k=true:=by
 rcases yZ hs with⟨us,i,rfl,rfl,h,_⟩|⟨ks,us,x,rfl,rfl,hm,rfl,_⟩
 ·have hi:=(nE.mp h).1
  have h0:0≤i∧i≤59:=hk;exact mZ (by lia)
 ·rfl
section
variable{P:Program}{w:World}{K:PySem.W.Frag}{mg:Str→Option Value}{base:Heap}{f:Addr}{fd:FuncData}{C:Addr}
def zZz(C:Addr):Sp:=fun vs H Q E=>∃(v:V)(t:T)(wd:Wd)(pa:Addr)(ks:List Key)(vn:V)(n:T)(m:Nat),vs= [v, .str wd.s, .ref pa,vn]∧Tq m H v t pa ks∧Rep H vn n∧(∀r,chG wd (fun s k=>zZ wd s k n) t ks n= .inr r→∀v' H',Same H H'→Rep H' v' r→Q v' H')∧(∀j:Nat,chG wd (fun s k=>zZ wd s k n) t ks n= .inl j→XAt C (j:Int) H E)
theorem scCs:zP ["thing","word","path","new","stops","changed","place"] ["thing","word","path","new"] (zH sCs):=by walk_at "sc"
theorem ok_cs(F:FunD K "change_shared" "change_shared" sCs f fd)(B:Bl mg)(Gwhole_changedx:Dx nC P w K mg base 3 "whole_changed" ["word","new"] (spWc C))(Gstops_to_lastx:Dx nC P w K mg base 4 "stops_to_last" ["thing","path"] (spSl C))(Gcan_change:Dn P w K mg base 4 "can_change" ["holder","word","step"] spCc)(Gpart_changed:Dn P w K mg base 2 "part_changed" ["holder","word","step","new"] zQy)(RNoPlace:Xr P w K mg base 1 "NoPlace" C):FnOk P w K mg base (CXE nC P w) 5 f fd ["thing","word","path","new"] (zZz C):=by
 refine F.okx scCs (by walk_at "ln") fun c A o s H vs Q E hr h=>?_;obtain⟨v,t,wd,pa,ks,vn,n,m,rfl,hT,hn,q,qx⟩:=h;have nd:=scCs.nd;refine⟨_,(zC (zR (xC (zCo (pv 2) (fun _=>rfl))) (zF (zJ (zDo Gwhole_changedx hr (by lia) rfl lvs (zA (pv 1) (zA (pv 3) zB))))) zL)
  (zC (pS 4 nd (zDo Gstops_to_lastx hr (by lia) rfl lvs (zA (pv 0) (zA (pv 2) zB))))
  (zC (zR (xC (zT (pD Gcan_change hr (zA (yE ix_list (pv 4) (wT xW zD) (fun _ _=>rfl)) (zA (pv 1) (zA (yE ix_list (pv 2) (wT xW zD) (fun _ _=>rfl)) zB)))))) (zF (zAp RNoPlace hr (by lia) rfl rfl lvs (zA zV (zA (zK vC (zM zY rfl B.len yH (zA (pv 2) zB)) zD) zB)))) zL)
  (zC (pS 5 nd (pD Gpart_changed hr (zA (yE ix_list (pv 4) (wT xW zD) (fun _ _=>rfl)) (zA (pv 1) (zA (yE ix_list (pv 2) (wT xW zD) (fun _ _=>rfl)) (zA (pv 3) zB))))))
  (zC (qD PassesOwn.leaving rfl (zXj rfl B.range (zA (zK vC (zM zY rfl B.len yH (zA (pv 2) zB)) zD) (zA (wT xW zD) (zA (wT xW zD) zB)))) (zW (i:=6) nd rfl (nO rfl)) (zF (pS 5 nd (pD Gpart_changed hr (zA (yE ix_list (pv 4) (pv 6) (fun _ _=>rfl)) (zA zV (zA (yE ix_list (pv 2) (pv 6) (fun _ _=>rfl)) (zA (pv 5) zB))))))))
  (zF (zJ (pv 5)))))))), ?_⟩
 walk_at "st";unfold zBq zYz;walk_at "rd3";refine⟨_, .inl ⟨_,SqL.of hT.pa,rfl⟩, ?_⟩;have hz:=hT.sz;have h8:=hT.l8;have hm:=hT.m
 cases hk:ks.getLast? with
 | none=>
  have e0:ks= []:=List.getLast?_eq_none_iff.mp hk;subst e0;refine iP rfl ⟨wd,vn,rfl,fun e H' g=>?_,fun e=>?_⟩
  ·subst e
   exact q n rfl vn H' g (Rep.same g _ _ hn)
  ·refine qx 0 ?_
   cases wd with
   | put=>exact absurd rfl e
   | ins=>rfl
   | tak=>rfl
 | some k=>
  have hne:ks≠ []:=fun z=>by rw[z] at hk;cases hk
  have hpos:0<ks.length:=dL.mpr hne;have hie:(ks.map kV).isEmpty=false:=by cases ks with | nil=>exact absurd rfl hne | cons _ _=>rfl
  have hch:∀pt:T→Key→T,chG wd pt t ks n=if(goT t ks.dropLast).length<ks.length then .inl ((goT t ks.dropLast).length - 1) else
    match (goT t ks.dropLast).getLast? with
    | none=>.inl 0
    | some s=>if vL wd s k=true then .inr (bld (goT t ks.dropLast) ks (ks.length - 1) (pt s k)) else .inl (ks.length - 1):=fun pt=>by unfold chG;rw[hk]<;>rfl
  rw[hch] at q qx;have hgl:=gL t ks.dropLast;have hdl:ks.dropLast.length=ks.length - 1:=dF;refine iN (by rw[hie];decide) ⟨v,t,pa,ks,m,rfl,hT,fun hle p xs H1 g1 hp1 hR=>?_,fun hlt=>?_⟩
  ·have hnlt:¬(goT t ks.dropLast).length<ks.length:=by lia
   rw[mI hnlt] at q qx;have hlen:(goT t ks.dropLast).length=ks.length:=by lia
   obtain⟨s,hs,hsm⟩:=zDn t ks.dropLast;rw[hs] at q qx;obtain⟨xv,hxv,hxr⟩:=Reps.last hR hs;have hsi:(goT t ks.dropLast)[ks.length - 1]? =some s:=by rw[aD,hlen] at hs;exact hs
   obtain⟨s1,s2,s3⟩:=kB ks.dropLast t _ s hT.few hsi;have hkm:k∈ks:=List.mem_of_getLast? hk;have hkl:atI (ks.map kV) (-1)=some (kV k):=uV (by rw[List.getLast?_map,hk];rfl);have sp:T.pure s:=qC _ s (mD _) (T.fewm_few (by lia) _ s1);refine yK (SqL.of hp1) (uV hxv) (yK (SqL.of (g1 _ _ hT.pa)) hkl ⟨xv,s,wd,k,rfl,hxr,sp,by lia,hT.ok k hkm,fun H2 g2=>⟨_,rfl, ?_⟩⟩);have g12:=g1.trans g2
   by_cases hc:vL wd s k=true
   ·have q:=q _ (mK hc)
    refine iN (by rw[hc];decide) (yK (SqL.of (g2 _ _ hp1)) (uV hxv) (yK (SqL.of (g12 _ _ hT.pa)) hkl ⟨xv,s,wd,k,vn,n,m,rfl,Rep.same g2 _ _ hxr,s1,by lia,by lia,hT.ok k hkm,hc,Rep.same g12 _ _ hn,fun v' H3 g3 hv3=>?_⟩));have g13:=g12.trans g3;have hp3:=g3 _ _ (g2 _ _ hp1);have hpa3:=g13 _ _ hT.pa;have hR3:=Reps.same (g2.trans g3) _ _ hR;have hxl:=hR.length;refine⟨_,SqL.of hpa3, ?_⟩;rw[mJ];refine⟨by lia,by lia, ?_⟩;rw[show((ks.length:Int)- 2+1).toNat=ks.length - 1 by lia];refine zPs (fun i σ' H'=>∃o c r,σ'= [some v,some (.str wd.s),some (.ref pa),some vn,some (.ref p),some c,o]∧Same H3 H'∧Rep H' c r∧i≤ks.length - 1∧bld (goT t ks.dropLast) ks (ks.length - 1 - i) r=bld (goT t ks.dropLast) ks (ks.length - 1) (zZ wd s k n)) ⟨_,v',_,rfl,Same.refl _,hv3,pB _,rfl⟩ ?_ ?_
    ·rintro i σ' H' hi ⟨o,c,r,rfl,g,hc',hil,hb⟩
     walk_at "rd3";obtain⟨M,hM⟩:∃M,ks.length - 1 - i=M+1:=⟨ks.length - 2 - i,by lia⟩;have hpl:(ks.length:Int)- 2 - (i:Int)=(M:Int):=by lia
     rw[hpl];obtain⟨k',u',u2,h1,h2,h3,h4⟩:=zCz ks.dropLast t M (by lia);have hki:ks[M]? =some k':=by
      rw[List.getElem?_dropLast,mK (by lia)] at h1;exact h1
     obtain⟨a1,a2,a3⟩:=kB ks.dropLast t M u' hT.few h2;have hMx:M<xs.length:=by lia
     obtain⟨u1,hu1,hr1⟩:=hR3.get (i:=M) (v:=xs[M]) (nF hMx);rw[h2] at hu1;cases hu1;have hok:=hT.ok k' (mQ hki);refine yK (SqL.of (g _ _ hp3)) (yM (nF hMx)) (yK (SqL.of (g _ _ hpa3)) (yM (j:=M) (by rw[nI,hki];rfl)) ⟨_,u', .put,k',c,r,m,rfl,Rep.same g _ _ hr1,a1,by lia,by lia,hok,zVv hok h4,hc',fun v4 H4 g4 hv4=>⟨_,v4,⟨rfl,rfl⟩,g.trans g4,_,hv4,by lia, ?_⟩⟩);have e1:(goT t ks.dropLast).getD M .non=u':=by rw[nS,h2];rfl
     have e2:ks.getD M (.inl 0)=k':=by rw[nS,hki];rfl
     rw[hM] at hb;have hb':bld (goT t ks.dropLast) ks M (zZ .put ((goT t ks.dropLast).getD M .non) (ks.getD M (.inl 0)) r)=_:=hb;rw[e1,e2] at hb';rw[show ks.length - 1 - (i+1)=M by lia];exact hb'
    ·rintro σ' H' ⟨o,c,r,rfl,g,hc',hil,hb⟩
     walk_at "rd3";rw[show ks.length - 1 - (ks.length - 1)=0 by lia] at hb;have hb':r=_:=hb;rw[hb'] at hc';exact q c H' (g13.trans g) hc'
   ·have hcf:vL wd s k=false:=by cases hq:vL wd s k with | true=>exact absurd hq hc | false=>rfl
    have qx:=qx _ (mI hc);refine iP hcf ⟨_,SqL.of (g12 _ _ hT.pa),_,_,⟨rfl,rfl⟩,fun d hd=>?_⟩;have qq:=qx.of g12 hd;rw[show(((ks.length - 1:Nat)):Int)=((ks.map kV).length:Int)- 1 by rw[mJ];lia] at qq;exact qq
  ·have qx:=qx _ (mK hlt)
   rw[show((((goT t ks.dropLast).length - 1:Nat)):Int)=((goT t ks.dropLast).length:Int)- 1 by lia] at qx;exact qx
structure Nq(m:Nat)(t n:T):Prop where
 few:T.fewm m n
 dep:T.dep t≤16
 depn:T.dep n≤8
 sz:T.sz n≤40000
def zQb(C:Addr):Sp:=fun vs H Q E=>∃(v:V)(t:T)(wd:Wd)(pa:Addr)(ks:List Key)(vn:V)(n:T)(m:Nat),vs= [v, .str wd.s, .ref pa,vn]∧Tq m H v t pa ks∧Rep H vn n∧Nq m t n∧(∀r,chG wd (fun s k=>zZ wd s k n) t ks n= .inr r→∀v' H' D,Same H H'→Sp1 H' v' r D→(∀b∈D,H b=none)→Q v' H')∧(∀j:Nat,chG wd (fun s k=>zZ wd s k n) t ks n= .inl j→XAt C (j:Int) H E)
theorem scCa:zP ["thing","word","path","new"] ["thing","word","path","new"] (zH sCa):=by walk_at "sc"
theorem zZa(F:FunD K "changed_at" "changed_at" sCa f fd)(Gchange_sharedx:Dx nC P w K mg base 5 "change_shared" ["thing","word","path","new"] (zZz C))(Gcopied:Dn P w K mg base (1+20) "copied" ["thing"] (zPc 20)):FnOk P w K mg base (CXE nC P w) 22 f fd ["thing","word","path","new"] (zQb C):=by
 refine F.okx scCa (by walk_at "ln") fun c A o s H vs Q E hr h=>?_;obtain⟨v,t,wd,pa,ks,vn,n,m,rfl,hT,hn,hN,q,qx⟩:=h;have nd:=scCa.nd;refine⟨_,(zF (zJ (pD Gcopied hr (zA (zDo Gchange_sharedx hr (by lia) rfl lvs (zA (pv 0) (zA (pv 1) (zA (pv 2) (zA (pv 3) zB))))) zB)))), ?_⟩;walk_at "st";walk_at "rd3";refine⟨v,t,wd,pa,ks,vn,n,m,rfl,hT,hn,fun r hr' v1 H1 g1 hv1=>?_,qx⟩;have hz:=hT.sz;have hm:=hT.m;have hnz:=hN.sz;rcases yCx (w:=wd) hT.m hT.few hN.few hT.sz hN.dep hN.depn hT.l8 with⟨j,h1,_⟩|⟨r0,r',h1,_,_,⟨a1,a2,a3⟩,_⟩
 ·rw[h1] at hr';cases hr'
 ·rw[h1] at hr'
  have e:=Sum.inr.inj hr';subst e;exact⟨v1,r0,rfl,hv1,qC _ r0 (mD _) (T.fewm_few (by lia) _ a1),by lia,by lia,fun v2 H2 D g2 hv2 hD=>q r0 h1 v2 H2 D (g1.trans g2) hv2 fun b hb=>xA g1 (hD b hb)⟩
end
end K38
namespace K38
open PySem L2
seal L2.PSs L2.PS L2.PE L2.PT L2.PW L2.PA L2.PI L2.PG L2.PGs L2.PPs L2.PTs
abbrev yDa:Stmt:=top 12
abbrev yCm:Stmt:=top 14
section
variable{P:Program}{w:World}{K:W.Frag}{mg:Str→Option Value}{base:Heap}{f:Addr}{fd:FuncData}
theorem jT{H:Hp}{v:V}(h:tyS H v=some "NoneType"):v= .non:=by
 cases v with
 | non=>rfl
 | ref a=>
  have h':(match H a with | some (.lst _)=>some "list" | some (.tup _)=>some "tuple" | some (.dK _)=>some "dict" | _=>none)=some "NoneType":=h
  split at h'<;>first | exact absurd (mV h') (by decide)| cases h'
 | bl b=>exact absurd (mV h) (by decide)
 | int b=>exact absurd (mV h) (by decide)
 | str b=>exact absurd (mV h) (by decide)
 | byt b=>cases h
 | flt b=>cases h
 | ty b=>cases h
def zNe:Sp:=fun vs H Q _=>∃(v:V)(t:String),vs= [v]∧tyR H v=some t∧∀H',Same H H'→Q (wE t) H'
theorem zXs{H:Hp}{v:V}(h:tyR H v=some "NoneType"):v= .non:=by
 cases v with
 | ref a=>
  have h':(match H a with | some (.frz _ (.dK _))=>some "dict" | _=>tyS H (.ref a))=some "NoneType":=h
  split at h'
  ·exact absurd (mV h') (by decide)
  ·exact jT h'
 | non=>rfl
 | bl b=>exact jT (H:=H) (show tyS H (.bl b)=_ from h)
 | int b=>exact jT (H:=H) (show tyS H (.int b)=_ from h)
 | str b=>exact jT (H:=H) (show tyS H (.str b)=_ from h)
 | byt b=>exact jT (H:=H) (show tyS H (.byt b)=_ from h)
 | flt b=>exact jT (H:=H) (show tyS H (.flt b)=_ from h)
 | ty b=>exact jT (H:=H) (show tyS H (.ty b)=_ from h)
theorem zKf(F:Fun K "kind_of" "kind_of" zBr f fd)(B:Bl mg):FnOk P w K mg base CX0 1 f fd ["thing"] zNe:=by
 refine F.ok scKindOf (by walk_at "ln") fun c A o s H vs Q E hr h=>?_;obtain⟨v,t,rfl,ht,q⟩:=h;have nd:=scKindOf.nd;refine⟨_,(zC (zR (zHq (zKp (pv 0))) (zF (zJ zV)) zL)
  (zC (zR (zT (zM (vU (T:="bool") (by decide)) rfl B.isinstance zI (zA (pv 0) (zA (wJ (v:=.ty "bool") rfl B.bool kW rfl) zB)))) (zF (zJ zV)) zL)
  (zC (zR (zT (zM (vU (T:="int") (by decide)) rfl B.isinstance zI (zA (pv 0) (zA (wJ (v:=.ty "int") rfl B.int jL rfl) zB)))) (zF (zJ zV)) zL)
  (zC (zR (zT (zM (vU (T:="str") (by decide)) rfl B.isinstance zI (zA (pv 0) (zA (wJ (v:=.ty "str") rfl B.str vM rfl) zB)))) (zF (zJ zV)) zL)
  (zC (zR (zT (zM (vU (T:="list") (by decide)) rfl B.isinstance zI (zA (pv 0) (zA (wJ (v:=.ty "list") rfl B.list xT rfl) zB)))) (zF (zJ zV)) zL)
  (zC (zR (zT (zM (vU (T:="dict") (by decide)) rfl B.isinstance zI (zA (pv 0) (zA (wJ (v:=.ty "dict") rfl B.dict xF rfl) zB)))) (zF (zJ zV)) zL)
  (zF (zJ zAj)))))))), ?_⟩
 walk_at "st";walk_at "rd3";have q:=q H (Same.refl H);have hm:=zYf ht;simp only[ht,Option.some.injEq,eQ]
 by_cases hv:v= .non
 ·subst hv;cases ht;rw[mK rfl];exact q
 ·rw[mI hv]
  simp only[tyL,mG,tF,dN] at hm;rcases hm with rfl | rfl | rfl | rfl | rfl | rfl | rfl
  ·exact absurd (zXs ht) hv
  all_goals (simpa [zN,wE] using q)
def zZc:Sp:=fun vs H Q _=>∃c:Nat,vs= [.str (tx [c])]∧∀H',Same H H'→Q (.bl (decide (c∈sgnL))) H'
theorem zHd(c:Nat):c∈sgnL↔32≤c∧c≤126∧c≠37:=by
 unfold sgnL;rw[aR,nM];constructor
 ·rintro⟨⟨i,hi,rfl⟩,h⟩
  have:=bC.mp hi;simp at h
  lia
 ·rintro⟨h1,h2,h3⟩
  exact⟨⟨c - 32,bC.mpr (by lia),by lia⟩,by simp[h3]⟩
theorem scSgn:zP ["sign"] ["sign"] (zH yDa):=by walk_at "sc"
theorem yCs(F:Fun K "is_text_sign" "is_text_sign" yDa f fd)(B:Bl5 mg):FnOk P w K mg base CX0 1 f fd ["sign"] zZc:=by
 refine F.ok scSgn (by walk_at "ln") fun c A o s H vs Q E hr h=>?_;obtain⟨c,rfl,q⟩:=h;have nd:=scSgn.nd;refine⟨_,(zF (zJ (xN (zJq zEq zEq zV (pv 0) zV) (xJ (yG zEk (zM zRi rfl B.ord yAo (zA (pv 0) zB)) zD (zQ _)))))), ?_⟩;walk_at "st";walk_at "rd3";have e1:ts (Str.ofString " ")= [32]:=by decide+kernel
 have e2:ts (Str.ofString "~")= [126]:=by decide+kernel
 have e3:ts (tx [c])= [c]:=rfl;have e4:(↑((#[c]:Array Nat).getD 0 0):Int)=(c:Int):=rfl;have l1:∀a b:Nat,([a]:List Nat)< [b]↔a<b:=fun a b=>by
  constructor
  ·intro h
   cases h with
   | rel h=>exact h
   | cons h=>cases h
  ·exact fun h=>.rel h
 have z:=q H (Same.refl H);rw[e1,e2,e3,e4]
 by_cases c1:c<32
 ·refine⟨false,by rw[mZ ((l1 _ _).mpr c1)];rfl,zIl ?_⟩
  rw[nJ (fun h=>by have:=(zHd c).mp h;lia)] at z;exact z
 ·refine⟨true,by rw[nJ (fun h=>c1 ((l1 _ _).mp h))];rfl,zZo ?_⟩
  by_cases c2:126<c
  ·refine⟨false,by rw[mZ ((l1 _ _).mpr c2)];rfl,zIl ?_⟩
   rw[nJ (fun h=>by have:=(zHd c).mp h;lia)] at z;exact z
  ·refine⟨true,by rw[nJ (fun h=>c2 ((l1 _ _).mp h))];rfl,zZo ⟨rfl, ?_⟩⟩
   have e:decide (c∈sgnL)= !decide ((c:Int)=37):=by
    rw[rD,rN,zHd];simp
    lia
   rw[e] at z;exact z
def tyK:Key→String
 | .inl _=>"int"
 | .inr _=>"str"
theorem yBd{H:Hp}:∀k:Key,tyS H (kV k)=some (tyK k)
 | .inl _=>rfl
 | .inr _=>rfl
theorem yBm{k:Key}{x:Str}(h:kV k= .str x):k=Sum.inr x:=by
 cases k with
 | inl i=>cases h
 | inr y=>cases h;rfl
def zGf:V→Bool
 | .non=>true
 | .bl _=>true
 | .int i=>decide (-(10 ^ 12)≤i∧i≤10 ^ 12)
 | .str x=>decide (x.length≤30)&& (ts x).all fun c=>decide (c∈sgnL)
 | _=>false
def xP:U→Bool
 | .leaf v=>zGf v
 | .lst us=>decide (us.length≤60)
 | .dic ks _=>decide (ks.length≤30)&& ks.all fun k=>qF (kV k)
def zYx:Sp:=fun vs H Q _=>∃(v:V)(u:U),vs= [v]∧Ru H v u∧U.ok u∧U.sz u≤1000∧∀H',Same H H'→Q (.bl (xP u)) H'
theorem scSnd:zP ["thing","kind"] ["thing"] (zH yCm):=by walk_at "sc"
theorem zZl(F:Fun K "is_sound_outside" "is_sound_outside" yCm f fd)(B:Bl5 mg)(M:Ms mg)(Gkind_of:Dn P w K mg base 1 "kind_of" ["thing"] zNe)(Gis_text_sign:Dn P w K mg base 1 "is_text_sign" ["sign"] zZc)(Gis_name:Dn P w K mg base 1 "is_name" ["thing"] zHt):FnOk P w K mg base CX0 2 f fd ["thing"] zYx:=by
 refine F.ok scSnd (by walk_at "ln") fun c A o s H vs Q E hr h=>?_;obtain⟨v,u,rfl,hv,hok,hz,q⟩:=h;have nd:=scSnd.nd;refine⟨_,(zC (pS 1 nd (pD Gkind_of hr (zA (pv 0) zB)))
  (zC (zR (zU xM (pv 1) zV (zQ _)) (zF (zJ (yG vN (zM zSe rfl B.abs yAb (zA (pv 0) zB)) (zK kS zD zD) (zQ _)))) zL)
  (zC (zR (zU xM (pv 1) zV (zQ _)) (zF (zJ (xN (yG vN (zM jS rfl B.len yH (zA (pv 0) zB)) (zBa rfl M.MOST_IN_TEXT) (zQ _)) (xJ (zM (wX rfl) rfl B.all jP (zA (yV (own:=["sign"]) (F:=[]) ⟨rfl,by walk_at "wu",by walk_at "wu",by walk_at "wu", .nil⟩ rfl (zLp (pv 0)) (fun _ _ _ _=>zW (i:=0) (by show(xK ["sign"] []).Nodup;decide+kernel) rfl (nO rfl)) (fun _ _ _ _=>yR) (fun _ _ _ _=>(pD Gis_text_sign hr (zA (pv 0) zB)))) zB)))))) zL)
  (zC (zR (zU xM (pv 1) zV (zQ _)) (zF (zJ (yG vN (zM zY rfl B.len yH (zA (pv 0) zB)) (zBa rfl M.MOST_IN_ROW) (zQ _)))) zL)
  (zC (zR (zU xM (pv 1) zV (zQ _)) (zF (zJ (xN (yG vN (zM zOk rfl B.len yH (zA (pv 0) zB)) (zBa rfl M.MOST_IN_RECORD) (zQ _)) (xJ (zM (wX rfl) rfl B.all jP (zA (uO (yV (own:=["name"]) (F:=[]) ⟨rfl,by walk_at "wu",by walk_at "wu",by walk_at "wu", .nil⟩ rfl (zBm (pv 0)) (fun _ _ _ _=>zW (i:=0) (by show(xK ["name"] []).Nodup;decide+kernel) rfl (nO rfl)) (fun _ _ _ _=>yR) (fun _ _ _ _=>(pD Gis_name hr (zA (pv 0) zB))))) zB)))))) zL)
  (zF (zJ (zKy (zXh (pv 1)))))))))), ?_⟩
 walk_at "st";walk_at "rd3";refine⟨v,_,rfl,hv.ty,fun H1 g1=>?_⟩;have hv:=hv.same g1
 cases u with
 | lst us=>
  rw[show wE (tyU (U.lst us))= .str "row" from by show wE "list" =_;decide+kernel];obtain⟨a,vs,rfl,ha,hs⟩:=hv;have hl:=hs.length;refine⟨rfl,iN (by decide+kernel) ⟨rfl,iN (by decide+kernel) ⟨rfl,iP rfl ⟨a,rfl,vs,SqL.of ha, ?_⟩⟩⟩⟩;have z:=q _ g1;rw[show xP (.lst us)=decide ((vs.length:Int)≤60) from by show decide _=_;rw[eO,hl];lia] at z;exact z
 | dic ks us=>
  rw[show wE (tyU (U.dic ks us))= .str "record" from by show wE "dict" =_;decide+kernel];obtain⟨a,ps,rfl,ha,hk,hs⟩:=hv;obtain⟨nk,hle,hsh,hok⟩:=hok;have hpl:ps.length=ks.length:=by have:=congrArg List.length hk;simpa using this
  have hul:=U.szs_len us;have hz':U.szs us+1≤1000:=hz;refine⟨rfl,iN (by decide+kernel) ⟨rfl,iN (by decide+kernel) ⟨rfl,iN (by decide+kernel) ⟨rfl,iP rfl ⟨a,rfl,ps,ha, ?_⟩⟩⟩⟩⟩
  by_cases h30:ks.length≤30
  ·rw[mK (by rw[hpl];lia)]
   refine⟨a,rfl,ps, ?_⟩;have body:∀(o:Obj)(H2:Hp)(th:Hp→Hp),H2 a=some (.frz o (.dK ps))→(∀H',Same H2 H'→∀p xs,H' p=some (.lst xs)→th H' p=some (.lst xs))→(∀H',Same H2 H'→Same H1 (th H'))→
     wF [Str.ofString "name"] [] (wY 0) zAu (qV zHt [] E0 (zAy (zBh 0) zHx)) [some (V.ref a),some (V.str (Str.ofString "record"))]
      (fun v H'_1=>∃p,v=V.ref p∧∃x,SqL K (th H'_1) p (List.map V.bl x)∧Q (V.bl (x.all id)) (th H'_1)) (Itd a o ps) H2:=by
    intro o H2 th ha2 hth hgth;refine gK (fun i zs H'=>Same H2 H'∧zs=((ks.take i).map fun k=>qF (kV k)).map V.bl) (by rw[mU];lia) ⟨Same.refl _,rfl⟩ (fun i zs H' h=>h.1 _ _ ha2) ?_ ?_
    ·rintro i kv zs H' hkv _ ⟨g,rfl⟩
     have hki:ks[i]? =some kv.1:=by rw[←hk,nI,hkv];rfl
     have hmk:=mQ hki;walk_at "rd3";refine⟨kV kv.1,tyK kv.1,rfl,yBd kv.1,fun x e=>?_,fun H3 g3=>⟨g.trans g3, ?_⟩⟩
     ·refine hsh x ?_
      rw[←yBm e];exact hmk
     ·rw[yB hki,nA,nA];rfl
    ·rintro zs H' _ ⟨g,rfl⟩ p hp
     have g2:=g.trans (zG hp (.lst (List.map V.bl ((ks.take ps.length).map fun k=>qF (kV k)))));refine⟨p,rfl,_,SqL.of (hth _ g2 p _ zE), ?_⟩;have z:=q _ (g1.trans (hgth _ g2));rw[hpl,nQ] at z⊢;rw[show xP (.dic ks us)=(ks.map fun k=>qF (kV k)).all id from by
      show(decide _ && _)=_;rw[mZ h30,aO,rW];rfl] at z
     exact z
   rcases ha with ha |⟨o,ha⟩
   ·exact .inl ⟨ha,fun o=>body o _ (thaw H1) zE (fun H' g p xs e=>wI e (by intro o v z;cases z)) fun H' g=>qX (o:=o) ha g⟩
   ·exact .inr ⟨o,ha,body o H1 (thaw H1) ha (fun H' g p xs e=>wI e (by intro o v z;cases z)) fun H' g=>zEz fun b u e=>.inl (g b u e)⟩
  ·rw[mI (by rw[hpl];lia)]
   have z:=q _ g1;rw[show xP (.dic ks us)=false from by show(decide _ && _)=_;rw[nJ h30];rfl] at z;exact z
 | leaf x=>
  obtain⟨rfl,hx⟩:=hv;have z:=q _ g1
  cases v with
  | non=>
   rw[show wE (tyU (U.leaf .non))= .str "nothing" from by decide+kernel];exact⟨rfl,iN (by decide+kernel) ⟨rfl,iN (by decide+kernel) ⟨rfl,iN (by decide+kernel) ⟨rfl,iN (by decide+kernel) z⟩⟩⟩⟩
  | bl b=>
   rw[show wE (tyU (U.leaf (.bl b)))= .str "truth" from by show wE "bool" =_;decide+kernel];exact⟨rfl,iN (by decide+kernel) ⟨rfl,iN (by decide+kernel) ⟨rfl,iN (by decide+kernel) ⟨rfl,iN (by decide+kernel) z⟩⟩⟩⟩
  | int i=>
   rw[show wE (tyU (U.leaf (.int i)))= .str "number" from by show wE "int" =_;decide+kernel];refine⟨rfl,iP rfl ⟨i,rfl, ?_⟩⟩;rw[show xP (.leaf (.int i))=decide ((if i<0 then -i else i)≤1000000000000) from by
    show decide _=_;rw[eO];split<;>lia] at z
   exact z
  | str x=>
   rw[show wE (tyU (U.leaf (.str x)))= .str "text" from by show wE "str" =_;decide+kernel];have hx1:=hok x rfl;have hlen:=kR x;refine⟨rfl,iN (by decide+kernel) ⟨rfl,iP rfl ⟨x,rfl,by lia, ?_⟩⟩⟩
   by_cases h30:x.length≤30
   ·rw[mK (by lia)]
    refine⟨x,rfl,zDq (fun i ys H'=>Same H1 H'∧ys=(((ts x).take i).map fun c=>decide (c∈sgnL)).map V.bl) (by rw[mU];lia) ⟨Same.refl _,rfl⟩ ?_ ?_⟩
    ·rintro i d ys H' hd _ ⟨hS,rfl⟩
     walk_at "rd3";refine⟨d,rfl,fun H3 g3=>⟨hS.trans g3, ?_⟩⟩;have e:(ts x).take (i+1)=(ts x).take i++ [d]:=by rw[cC,hd];rfl
     rw[e];simp only[nA,mY,rT]
    ·rintro ys H' hl' ⟨hS,rfl⟩ p hp
     refine⟨p,rfl,_,SqL.of zE, ?_⟩;have z:=q _ (g1.trans (hS.trans (zG hp (.lst ((((ts x).take (ts x).length).map fun c=>decide (c∈sgnL)).map V.bl)))));rw[nQ] at z⊢;rw[show xP (.leaf (.str x))=((ts x).map fun c=>decide (c∈sgnL)).all id from by
      show(decide _ && _)=_;rw[mZ h30,aO,rW];rfl] at z
     exact z
   ·rw[mI (by lia)]
    rw[show xP (.leaf (.str x))=false from by show(decide _ && _)=_;rw[nJ h30];rfl] at z;exact z
  | ref a=>
   rw[show wE (tyU (U.leaf (.ref a)))= .non from by show wE "tuple" =_;decide+kernel];exact⟨rfl,iN (by decide+kernel) ⟨rfl,iN (by decide+kernel) ⟨rfl,iN (by decide+kernel) ⟨rfl,iN (by decide+kernel) z⟩⟩⟩⟩
  | byt b=>rcases hx with h |⟨a,xs,h,_⟩<;>cases h
  | flt b=>rcases hx with h |⟨a,xs,h,_⟩<;>cases h
  | ty b=>rcases hx with h |⟨a,xs,h,_⟩<;>cases h
abbrev sHp:Stmt:=top 15
abbrev sPo:Stmt:=top 16
abbrev sPz:Stmt:=top 17
abbrev sTh:Stmt:=top 13
def kids:U→List U
 | .lst us=>us
 | .dic _ us=>us
 | .leaf _=>[]
def isH:U→Bool
 | .leaf _=>false
 | _=>true
def yI(us:List U):List U:=(us.map kids).flatten
def spHp:Sp:=fun vs H Q _=>∃(v:V)(u:U),vs= [v]∧Ru H v u∧∀H',Same H H'→Q (.bl (isH u)) H'
theorem zWg:∀u:U,(zN (tyU u) "list" || zN (tyU u) "dict")=isH u
 | .leaf .non=>by decide+kernel
 | .leaf (.bl _)=>by show(zN "bool" "list" || zN "bool" "dict")=false;decide+kernel
 | .leaf (.int _)=>by show(zN "int" "list" || zN "int" "dict")=false;decide+kernel
 | .leaf (.str _)=>by show(zN "str" "list" || zN "str" "dict")=false;decide+kernel
 | .leaf (.byt _)=>by show(zN "tuple" "list" || zN "tuple" "dict")=false;decide+kernel
 | .leaf (.flt _)=>by show(zN "tuple" "list" || zN "tuple" "dict")=false;decide+kernel
 | .leaf (.ref _)=>by show(zN "tuple" "list" || zN "tuple" "dict")=false;decide+kernel
 | .leaf (.ty _)=>by show(zN "tuple" "list" || zN "tuple" "dict")=false;decide+kernel
 | .lst _=>by show(zN "list" "list" || zN "list" "dict")=true;decide+kernel
 | .dic _ _=>by show(zN "dict" "list" || zN "dict" "dict")=true;decide+kernel
theorem scHp:zP ["thing"] ["thing"] (zH sHp):=by walk_at "sc"
theorem ok_hp(F:Fun K "holds_parts" "holds_parts" sHp f fd)(B:Bl mg):FnOk P w K mg base CX0 1 f fd ["thing"] spHp:=by
 refine F.ok scHp (by walk_at "ln") fun c A o s H vs Q E hr h=>?_;obtain⟨v,u,rfl,hv,q⟩:=h;have nd:=scHp.nd;refine⟨_,(zF (zJ (zM (zLz (T:="list") (W:="dict") (by decide) (by decide)) rfl B.isinstance zI (zA (pv 0) (zA (gT (zA (wJ (v:=.ty "list") rfl B.list xT rfl) (zA (wJ (v:=.ty "dict") rfl B.dict xF rfl) zB))) zB))))), ?_⟩;walk_at "st";walk_at "rd3";intro p hp;have g:=zG hp (.tup [V.ty "list",V.ty "dict"]);refine⟨v,tyU u,p,⟨rfl,rfl⟩,zE,(hv.same g).ty, ?_⟩;have z:=q _ g;rw[←zWg] at z;exact z
def spPo:Sp:=fun vs H Q _=>∃(H0:Hp)(v:V)(u:U),vs= [v]∧Same H0 H∧Ru H0 v u∧isH u=true∧∀l ys H',Same H H'→H' l=some (.lst ys)→Rus H0 ys (kids u)→Q (.ref l) H'
theorem scPo:zP ["thing"] ["thing"] (zH sPo):=by walk_at "sc"
theorem ok_po(F:Fun K "parts_of" "parts_of" sPo f fd)(B:Bl mg):FnOk P w K mg base CX0 1 f fd ["thing"] spPo:=by
 refine F.ok scPo (by walk_at "ln") fun c A o s H vs Q E hr h=>?_;obtain⟨H0,v,u,rfl,g0,hv,hh,q⟩:=h;have nd:=scPo.nd;refine⟨_,(zC (zR (zT (zM (vU (T:="dict") (by decide)) rfl B.isinstance zI (zA (pv 0) (zA (wJ (v:=.ty "dict") rfl B.dict xF rfl) zB)))) (zF (zJ (yU (zBc rfl) rfl B.list xT (zA (yAn aJ bR PySem.F.type_dict_values zFr (pv 0)) zB)))) zL)
  (zF (zJ (yU zHh rfl B.list xT (zA (pv 0) zB))))), ?_⟩
 walk_at "st";walk_at "rd3"
 cases u with
 | leaf _=>cases hh
 | lst us=>
  have hty:tyR H v=some "list":=(hv.same g0).ty;obtain⟨a,xs,rfl,ha,hs⟩:=hv;exact⟨"list",hty,iN (by decide+kernel) ⟨a,rfl,xs, .inl (SqL.of (g0 _ _ ha)),fun l hl=>q l xs _ (zG hl _) zE hs⟩⟩
 | dic ks us=>
  have hty:tyR H v=some "dict":=(hv.same g0).ty;obtain⟨a,ps,rfl,ha,hk,hs⟩:=hv;refine⟨"dict",hty,iP (by decide+kernel) ?_⟩;have ha:=ha.same g0;refine⟨.ref a,rfl,⟨a,ps,rfl,ha⟩,a,ps,rfl,rfl,ha,fun p hp=>?_⟩;have g:=zG hp (zEf p a);exact⟨p,rfl,a,zE,ps,ha.same g,fun l hl=>q l _ _ (g.trans (zG hl _)) zE hs⟩
def spPz:Sp:=fun vs H Q _=>∃(a:Addr)(xs:List V)(us:List U),vs= [.ref a]∧H a=some (.lst xs)∧Rus H xs us∧(∀u∈us,isH u=true)∧U.szs us≤10000∧∀l ys H',Same H H'→H' l=some (.lst ys)→Rus H' ys (yI us)→Q (.ref l) H'
theorem zLh(us:List U)(u:U):yI (us++ [u])=yI us++kids u:=by simp[yI]
theorem zNi:∀u:U,U.szs (kids u)+1=U.sz u∨kids u= []
 | .leaf _=>.inr rfl
 | .lst _=>.inl rfl
 | .dic _ _=>.inl rfl
theorem zKj:∀us:List U,(yI us).length≤U.szs us
 | []=>mD _
 | u::us=>by
  have:=zKj us;have e:yI (u::us)=kids u++yI us:=rfl;rw[e,mL];show _≤U.sz u+U.szs us;have h1:=U.szs_len (kids u);rcases zNi u with h | h
  ·lia
  ·rw[h];simp only[nX];lia
theorem scPz:zP ["holders","parts","holder"] ["holders"] (zH sPz):=by walk_at "sc"
theorem yDe(F:Fun K "parts_of_all" "parts_of_all" sPz f fd)(B:Bl mg)(Gparts_of:Dn P w K mg base 1 "parts_of" ["thing"] spPo):FnOk P w K mg base CX0 2 f fd ["holders"] spPz:=by
 refine F.ok scPz (by walk_at "ln") fun c A o s H vs Q E hr h=>?_;obtain⟨a,xs,us,rfl,ha,hs,hh,hz,q⟩:=h;have nd:=scPz.nd;refine⟨_,(zC (pS 1 nd (yT zB))
  (zC (qD PassesOwn.never rfl (xU (pv 0)) (zW (i:=2) nd rfl (nO rfl)) (zF (kZ (uU aL PySem.F.slot_list_extend PySem.F.type_list_extend zEr (pv 1) (zA (pD Gparts_of hr (zA (pv 2) zB)) zB)))))
  (zF (zJ (pv 1))))), ?_⟩
 walk_at "st";walk_at "rd3";intro p hp;have g0:=zG hp (.lst []);have hpa:p≠a:=fun z=>by rw[z,ha] at hp;cases hp
 refine⟨⟨_,SqL.of (g0 _ _ ha)⟩, ?_⟩;refine jD (K:=K) (a:=a) (xs:=xs) (fun i σ H2=>(∃o,σ= [some (V.ref a),some (V.ref p),o])∧Same H H2∧∃ys,H2 p=some (.lst ys)∧Rus H ys (yI (us.take i))) ⟨⟨_,rfl⟩,g0,[],zE,rfl⟩ (fun i σ H2 _ h=>SqL.of (h.2.1 _ _ ha)) ?_ ?_
 ·rintro i x σ H2 hx ⟨⟨o,rfl⟩,g,ys,hp2,hR⟩
  obtain⟨u,hu,hr'⟩:=hs.get hx;have hm:=mQ hu;walk_at "rd3";refine⟨nO ⟨rfl,_,SqL.of hp2⟩,H,x,u,rfl,g,hr',hh u hm,fun l zs H3 g3 hl hZ=>?_⟩;have h1:=hR.length;have h2:=hZ.length;have h3:=zKj (us.take (i+1));have h4:U.szs (us.take (i+1))≤U.szs us:=by
   conv=>rhs;rw[←tU (i+1) us]
   rw[U.szs_append];lia
  have e:=zLh (us.take i) u;rw[←yB hu] at e;have h5:=congrArg List.length e;rw[mL] at h5;refine⟨p,l,ys,zs,rfl,rfl,g3 _ _ hp2,hl,by rw[mU];lia,⟨_,rfl⟩,(g.trans g3).put hp _,ys++zs,zE, ?_⟩;rw[e];exact Rus.append hZ hR
 ·rintro σ H2 ⟨⟨o,rfl⟩,g,ys,hp2,hR⟩
  walk_at "rd3";have hl:=hs.length;rw[hl,nQ] at hR;exact q p ys H2 g hp2 (hR.same g)
def jd:Nat→Nat→List U→Bool
 | 0,_,_=>false
 | k+1,z,us=>if 200<z+us.length∨us.all xP=false then false else if us.any isH=false then true else jd k (z+us.length) (yI us)
theorem zJz:∀us:List U,U.szs (yI us)≤U.szs us
 | []=>mD _
 | u::us=>by
  have:=zJz us;have e:yI (u::us)=kids u++yI us:=rfl;rw[e,U.szs_append];show _≤U.sz u+U.szs us;rcases zNi u with h | h
  ·lia
  ·rw[h];show 0+_≤_;lia
theorem zBe:∀us:List U,yI (us.filter isH)=yI us
 | []=>rfl
 | u::us=>by
  have ih:=zBe us
  cases u with
  | leaf v=>rw[bZ (by simp[isH])];exact ih
  | lst ws=>
   rw[aM rfl];show ws++yI (us.filter isH)=ws++yI us;rw[ih]
  | dic ks ws=>
   rw[aM rfl];show ws++yI (us.filter isH)=ws++yI us;rw[ih]
theorem zJx:∀{us:List U},U.oks us→U.oks (yI us)
 | [],_=>mN
 | u::us,h=>by
  have ih:=zJx h.2;have e:yI (u::us)=kids u++yI us:=rfl;rw[e];refine U.oks_of fun x hx=>?_;rcases nD.mp hx with z | z
  ·cases u with
   | leaf v=>cases z
   | lst ws=>exact U.oks_mem h.1 z
   | dic ks ws=>exact U.oks_mem h.1.2.2.2 z
  ·exact U.oks_mem ih z
theorem zCc:∀us:List U,U.szs (us.filter isH)≤U.szs us
 | []=>mD _
 | x::r=>by
  have ih:=zCc r
  cases hx:isH x with
  | true=>rw[aM hx];show U.sz x+_≤U.sz x+_;lia
  | false=>rw[bZ (by rw[hx];decide)];show _≤U.sz x+_;lia
def spTh:Sp:=fun vs H Q _=>∃(v:V)(u:U),vs= [v]∧Ru H v u∧U.ok u∧U.sz u≤1000∧∀H',Same H H'→Q (.bl (jd 9 0 [u])) H'
theorem scTh:zP ["thing","level","size","depth","holders"] ["thing"] (zH sTh):=by walk_at "sc"
theorem ok_th(F:Fun K "is_thing" "is_thing" sTh f fd)(B:Bl mg)(M:Ms mg)(Gis_sound_outside:Dn P w K mg base 2 "is_sound_outside" ["thing"] zYx)(Gholds_parts:Dn P w K mg base 1 "holds_parts" ["thing"] spHp)(Gparts_of_all:Dn P w K mg base 2 "parts_of_all" ["holders"] spPz):FnOk P w K mg base CX0 3 f fd ["thing"] spTh:=by
 refine F.ok scTh (by walk_at "ln") fun c A o s H vs Q E hr h=>?_;obtain⟨v,u,rfl,hv,hok,hz,q⟩:=h;have nd:=scTh.nd;refine⟨_,(zC (pS 1 nd (yT (zA (pv 0) zB)))
  (zC (pS 2 nd zD)
  (zC (pS 3 nd zD)
  (zC (zSj PassesOwn.never (zU vN (pv 3) (zBa rfl M.MOST_DEPTH) (zQ _)) (zC (zTv (i:=2) nd rfl (nO rfl) (zM zY rfl B.len yH (zA (pv 1) zB)) zSq)
  (zC (zR (PW.pt (kL (zU jW (pv 2) (zBa rfl M.MOST_SIZE) (zQ _)) (qJ (xC (zT (zM (wX rfl) rfl B.all jP (zA (yV (own:=["part"]) (F:=[]) ⟨rfl,by walk_at "wu",by walk_at "wu",by walk_at "wu", .nil⟩ rfl (xU (pv 1)) (fun _ _ _ _=>zW (i:=0) (by show(xK ["part"] []).Nodup;decide+kernel) rfl (nO rfl)) (fun _ _ _ _=>yR) (fun _ _ _ _=>(pD Gis_sound_outside hr (zA (pv 0) zB)))) zB))))))) (zF (zJ wA)) zL)
  (zC (zFw (i:=4) nd rfl (nO rfl) (own:=["part"]) (F:=[]) ⟨rfl,by walk_at "wu",by walk_at "wu",by walk_at "wu", .nil⟩ rfl (xU (pv 1)) (fun _ _ _ _=>zW (i:=0) (by show(xK ["part"] []).Nodup;decide+kernel) rfl (nO rfl)) (fun _ _ _ _=>(zWk (zT (pD Gholds_parts hr (zA (pv 0) zB))))) (fun _ _ _ _=>(pv 0)))
  (zC (zR (xC (zCo (pv 4) (fun _=>rfl))) (zF (zJ wA)) zL)
  (zC (pS 1 nd (pD Gparts_of_all hr (zA (pv 4) zB)))
  (zF (zTv (i:=3) nd rfl (nO rfl) zD zSq))))))))
  (zF (zJ wA)))))), ?_⟩
 walk_at "st";walk_at "rd3";intro p hp;have g0:=zG hp (.lst [v]);refine⟨fun m σ H2=>∃(i z:Nat)(a:Addr)(xs:List V)(us:List U)(o:Option V),m=9 - i∧i≤9∧σ= [some v,some (V.ref a),some (V.int z),some (V.int i),o]∧Same H H2∧H2 a=some (.lst xs)∧Rus H2 xs us∧U.oks us∧U.szs us≤1000∧z≤1000*i∧jd 9 0 [u]=jd (9 - i) z us, ?_⟩;refine⟨⟨9,0,0,p,[v],[u],none,rfl,by decide,rfl,g0,zE,⟨v,[],rfl,hv.same g0,rfl⟩,⟨hok,mN⟩, ?_,by decide,rfl⟩, ?_⟩
 ·show U.sz u+0≤1000
  lia
 rintro m σ H2 ⟨i,z,a,xs,us,o,rfl,hi,rfl,g,ha,hs,hoks,hsz,hzi,hj⟩;have hxl:=hs.length;have hul:=U.szs_len us;walk_at "rd3"
 by_cases h8:i≤8
 ·rw[mK (by lia)]
  obtain⟨k,hk⟩:∃k,9 - i=k+1:=⟨8 - i,by lia⟩;rw[hk] at hj;refine⟨fun σ' H'=>∃(a':Addr)(xs':List V)(o':Option V),σ'= [some v,some (V.ref a'),some (V.int ((z+us.length:Nat):Int)),some (V.int ((i+1:Nat):Int)),o']∧Same H H'∧H' a'=some (.lst xs')∧Rus H' xs' (yI us)∧jd 9 0 [u]=jd k (z+us.length) (yI us), ?_, ?_⟩
  ·rintro σ' H' ⟨a',xs',o',rfl,g',ha',hs',hj'⟩
   refine⟨9 - (i+1),by lia,i+1,rfl,by lia,z+us.length,a',⟨o',rfl⟩,g',xs',ha',yI us,hs',zJx hoks,nN (zJz us) hsz,by lia, ?_⟩;rw[show 9 - (i+1)=k by lia];exact hj'
  ·walk_at "rd3"
   simp only[tAug,ipI];walk_at "rd3";refine⟨xs,SqL.of ha, ?_⟩;have ej:jd (k+1) z us=if 200<z+us.length∨us.all xP=false then false else if us.any isH=false then true else jd k (z+us.length) (yI us):=rfl;rw[ej] at hj
   by_cases h200:200<z+us.length
   ·rw[mK (by rw[hxl];lia)]
    have zq:=q _ g;rw[hj,mK (.inl h200)] at zq;exact zq
   ·rw[mI (by rw[hxl];lia)]
    refine⟨⟨xs,SqL.of ha⟩,xX (K:=K) (xs:=xs) (fun j ys H'=>Same H2 H'∧ys=((us.take j).map xP).map V.bl) (by rw[mU];lia) ⟨Same.refl _,rfl⟩ (fun j ys H' _ h=>SqL.of (h.1 _ _ ha)) ?_ ?_⟩
    ·rintro j x ys H' hx _ ⟨g3,rfl⟩
     obtain⟨u',hu,hr'⟩:=hs.get hx;have hm:=mQ hu;walk_at "rd3";refine⟨x,u',rfl,hr'.same g3,U.oks_mem hoks hm,nN (U.szs_le hm) hsz,fun H4 g4=>⟨g3.trans g4, ?_⟩⟩;rw[yB hu,nA,nA];rfl
    ·rintro ys H' _ ⟨g3,rfl⟩ p1 hp1
     have g4:=g3.trans (zG hp1 (.lst (((us.take xs.length).map xP).map V.bl)));refine⟨p1,rfl,_,SqL.of zE, ?_⟩;rw[hxl,nQ] at g4⊢;have eall:(us.map xP).all id=us.all xP:=by rw[rW];rfl
     rw[eall];generalize upd H' p1 (.lst ((us.map xP).map V.bl))=H3 at g4⊢
     by_cases hall:us.all xP=false
     ·rw[mK hall]
      have zq:=q _ (g.trans g4);rw[hj,mK (.inr hall)] at zq;exact zq
     ·rw[mI hall]
      rw[mI (fun h=>h.elim h200 hall)] at hj;have ha3:=g4 _ _ ha;have hs3:=hs.same g4;refine⟨⟨xs,SqL.of ha3⟩,xX (K:=K) (xs:=xs) (fun j ys H'=>Same H3 H'∧Rus H3 ys ((us.take j).filter isH)) (by rw[mU];lia) ⟨Same.refl _,rfl⟩ (fun j ys H' _ h=>SqL.of (h.1 _ _ ha3)) ?_ ?_⟩
      ·rintro j x ys H' hx _ ⟨g5,hys⟩
       obtain⟨u',hu,hr'⟩:=hs3.get hx;walk_at "rd3";refine⟨x,u',rfl,hr'.same g5,fun H4 g6=>⟨isH u',rfl, ?_⟩⟩;rw[yB hu,List.filter_append]
       cases hh:isH u' with
       | true=>
        rw[mK rfl,aM hh];exact⟨g5.trans g6,hys.snoc hr'⟩
       | false=>
        rw[mI (by decide),bZ (by rw[hh];decide),List.filter_nil,pY];exact⟨g5.trans g6,hys⟩
      ·rintro ys H' _ ⟨g5,hys⟩ p2 hp2
       rw[hxl,nQ] at hys;have g6:=g5.trans (zG hp2 (.lst ys));have hyl:=hys.length;refine⟨!ys.isEmpty, .inl ⟨ys,SqL.of zE,rfl⟩, ?_⟩;have eany:(!ys.isEmpty)=us.any isH:=by
        have e1:ys.isEmpty=(us.filter isH).isEmpty:=by
         cases ys with
         | nil=>cases hf:us.filter isH with
          | nil=>rfl
          | cons _ _=>rw[hf] at hyl;cases hyl
         | cons _ _=>cases hf:us.filter isH with
          | nil=>rw[hf] at hyl;cases hyl
          | cons _ _=>rfl
        rw[e1,rD,cJ]
        cases hf:us.filter isH with
        | nil=>
         simp only[List.isEmpty_nil,Bool.not_true,rM,false_iff];rintro⟨x,h1,h2⟩;have:x∈us.filter isH:=aR.mpr ⟨h1,h2⟩;rw[hf] at this;cases this
        | cons x r=>
         have:x∈us.filter isH:=by rw[hf];exact mF
         have:=aR.mp this;exact⟨fun _=>⟨x,this.1,this.2⟩,fun _=>rfl⟩
       rw[eany];have hp2':upd H' p2 (.lst ys) p2=some (.lst ys):=zE;generalize upd H' p2 (.lst ys)=H4 at g6 hp2'⊢
       cases hany:us.any isH with
       | false=>
        rw[mK rfl];have zq:=q _ (g.trans (g4.trans g6));rw[hj,mK hany] at zq;exact zq
       | true=>
        rw[mI (by decide)];rw[mI (by rw[hany];decide)] at hj;have hszf:=zCc us;refine⟨p2,ys,us.filter isH,rfl,hp2',hys.same g6,fun u' hu'=>(aR.mp hu').2,by lia,fun l zs H5 g7 hl hz'=>?_⟩;rw[zBe] at hz';refine⟨_,rfl,_,_,rfl,rfl,l,⟨some (V.ref p2), ?_⟩,g.trans (g4.trans (g6.trans g7)),zs,hl,hz',hj⟩;simp only[dU,dW,hxl,Int.natCast_add,Int.cast_ofNat_Int]
 ·rw[mI (by lia)]
  have e9:9 - i=0:=by lia
  rw[e9] at hj;have zq:=q _ g;rw[hj] at zq;exact zq
end
mutual
def T.gd:T→Prop
 | .str x=>x.length≤1000∧∀c∈x,c∈sgnL∨c=9∨c=10
 | .lst us=>T.gds us
 | .tup us=>T.gds us
 | .dic ks us=>ks.Nodup∧ks.length=us.length∧(∀k∈ks,k.length≤1000)∧T.gds us
 | .non=>True
 | .bl _=>True
 | .int _=>True
def T.gds:List T→Prop
 | []=>True
 | u::us=>T.gd u∧T.gds us
end
mutual
def okT:T→Bool
 | .non=>true
 | .bl _=>true
 | .int i=>decide (-(10 ^ 12)≤i∧i≤10 ^ 12)
 | .str x=>decide (x.length≤30)&& x.all fun c=>decide (c∈sgnL)
 | .tup _=>false
 | .lst ts=>decide (ts.length≤60)&& gZ ts
 | .dic ks ts=>(decide (ks.length≤30)&& ks.all yJ)&& gZ ts
def gZ:List T→Bool
 | []=>true
 | t::ts=>okT t && gZ ts
end
def wP(t:T):Bool:=okT t && decide (T.dep t≤8)&& decide (T.sz t≤200)
mutual
def okU:U→Bool
 | .leaf v=>zGf v
 | .lst us=>decide (us.length≤60)&& qK us
 | .dic ks us=>(decide (ks.length≤30)&& ks.all fun k=>qF (kV k))&& qK us
def qK:List U→Bool
 | []=>true
 | u::us=>okU u && qK us
end
mutual
def Em:T→U→Prop
 | .non,u=>u= .leaf .non
 | .bl b,u=>u= .leaf (.bl b)
 | .int i,u=>u= .leaf (.int i)
 | .str x,u=>u= .leaf (.str (tx x))
 | .tup _,u=>∃a,u= .leaf (.ref a)
 | .lst ts,u=>∃us,u= .lst us∧Ems ts us
 | .dic ks ts,u=>∃us,u= .dic (ks.map nK) us∧Ems ts us
def Ems:List T→List U→Prop
 | [],us=>us= []
 | t::ts,us=>∃u r,us=u::r∧Em t u∧Ems ts r
end
theorem Ems.length:∀{ts:List T}{us:List U},Ems ts us→us.length=ts.length
 | [],us,h=>by
  have h':us= []:=h;rw[h'];rfl
 | t::ts,us,⟨u,r,e,_,h⟩=>by
  rw[e,mS,mS,Ems.length h]
mutual
theorem zYj{H:Hp}:∀(v:V)(t:T),Rep H v t→T.gd t→∃u,Ru H v u∧Em t u∧U.ok u∧U.sz u≤T.sz t
 | v, .non,h,_=>⟨.leaf .non,⟨h, .inl rfl⟩,rfl,(fun x e=>by cases e),mD _⟩
 | v, .bl b,h,_=>⟨.leaf (.bl b),⟨h, .inl rfl⟩,rfl,(fun x e=>by cases e),mD _⟩
 | v, .int i,h,_=>⟨.leaf (.int i),⟨h, .inl rfl⟩,rfl,(fun x e=>by cases e),mD _⟩
 | v, .str x,h,g=>⟨.leaf (.str (tx x)),⟨h, .inl rfl⟩,rfl,(fun y e=>by cases e;rw[yN];exact g.1),mD _⟩
 | v, .tup ts,⟨a,vs,e,h,hs⟩,_=>⟨.leaf (.ref a),⟨e, .inr ⟨a,vs,rfl,h⟩⟩,⟨a,rfl⟩,(fun y e=>by cases e),cK (pB _)⟩
 | v, .lst ts,⟨a,vs,e,h,hs⟩,g=>by
  obtain⟨us,h1,h2,h3,h4⟩:=zMb vs ts hs g;exact⟨.lst us,⟨a,vs,e,h,h1⟩,⟨us,rfl,h2⟩,h3,cK h4⟩
 | v, .dic ks ts,⟨a,ps,e,h,hk,hs⟩,g=>by
  obtain⟨us,h1,h2,h3,h4⟩:=zMb _ ts hs g.2.2.2;refine⟨.dic (ks.map nK) us,⟨a,ps,e, .inl h,hk,h1⟩,⟨us,rfl,h2⟩,⟨qI g.1, ?_, ?_,h3⟩,cK h4⟩
  ·rw[mJ,g.2.1,h2.length]
  ·intro x hx
   obtain⟨k,hk',e'⟩:=nM.mp hx;have e2:tx k=x:=Sum.inr.inj e';rw[←e2,yN];exact g.2.2.1 k hk'
theorem zMb{H:Hp}:∀(vs:List V)(ts:List T),Reps H vs ts→T.gds ts→∃us,Rus H vs us∧Ems ts us∧U.oks us∧U.szs us≤T.szs ts
 | vs,[],h,_=>⟨[],h,rfl,mN,mD _⟩
 | _,t::ts,⟨v,r,e,h1,h2⟩,g=>by
  obtain⟨u,a1,a2,a3,a4⟩:=zYj v t h1 g.1;obtain⟨us,b1,b2,b3,b4⟩:=zMb r ts h2 g.2;exact⟨u::us,⟨v,r,e,a1,b1⟩,⟨u,us,rfl,a2,b2⟩,⟨a3,b3⟩,Nat.add_le_add a4 b4⟩
end
theorem zUg(ks:List (List Nat)):((ks.map nK).all fun k=>qF (kV k))=ks.all yJ:=by
 rw[rW]
 congr 1
mutual
theorem zYy:∀(t:T)(u:U),Em t u→okU u=okT t∧(okT t=true→U.dep u=T.dep t∧U.sz u=T.sz t)
 | .non,u,h=>by rw[show u=_ from h];exact⟨rfl,fun _=>⟨rfl,rfl⟩⟩
 | .bl _,u,h=>by rw[show u=_ from h];exact⟨rfl,fun _=>⟨rfl,rfl⟩⟩
 | .int _,u,h=>by rw[show u=_ from h];exact⟨rfl,fun _=>⟨rfl,rfl⟩⟩
 | .str x,u,h=>by
  rw[show u=_ from h];refine⟨?_,fun _=>⟨rfl,rfl⟩⟩;show(decide ((tx x).length≤30)&& (ts (tx x)).all fun c=>decide (c∈sgnL))=_;rw[yN,xD];rfl
 | .tup _,u,⟨a,e⟩=>by rw[e];exact⟨rfl,fun h=>nomatch h⟩
 | .lst ts,u,⟨us,e,h⟩=>by
  obtain⟨a,b⟩:=zKw ts us h;rw[e];refine⟨?_,fun z=>?_⟩
  ·show(decide (us.length≤60)&& qK us)=(decide (ts.length≤60)&& gZ ts)
   rw[h.length,a]
  ·have z':(decide (ts.length≤60)&& gZ ts)=true:=z
   rw[nZ] at z';obtain⟨b1,b2⟩:=b z'.2;exact⟨congrArg Nat.succ b1,congrArg Nat.succ b2⟩
 | .dic ks ts,u,⟨us,e,h⟩=>by
  obtain⟨a,b⟩:=zKw ts us h;rw[e];refine⟨?_,fun z=>?_⟩
  ·show((decide ((ks.map nK).length≤30)&& (ks.map nK).all fun k=>qF (kV k))&& qK us)=((decide (ks.length≤30)&& ks.all yJ)&& gZ ts)
   rw[mJ,zUg,a]
  ·have z':((decide (ks.length≤30)&& ks.all yJ)&& gZ ts)=true:=z
   rw[nZ] at z';obtain⟨b1,b2⟩:=b z'.2;exact⟨congrArg Nat.succ b1,congrArg Nat.succ b2⟩
theorem zKw:∀(ts:List T)(us:List U),Ems ts us→qK us=gZ ts∧(gZ ts=true→U.deps us=T.deps ts∧U.szs us=T.szs ts)
 | [],us,h=>by rw[show us=_ from h];exact⟨rfl,fun _=>⟨rfl,rfl⟩⟩
 | t::ts,us,⟨u,r,e,h1,h2⟩=>by
  obtain⟨a1,a2⟩:=zYy t u h1;obtain⟨b1,b2⟩:=zKw ts r h2;rw[e];refine⟨?_,fun z=>?_⟩
  ·show(okU u && qK r)=(okT t && gZ ts)
   rw[a1,b1]
  ·have z':(okT t && gZ ts)=true:=z
   rw[nZ] at z';obtain⟨c1,c2⟩:=a2 z'.1;obtain⟨d1,d2⟩:=b2 z'.2;exact⟨by show max (U.dep u) (U.deps r)=max (T.dep t) (T.deps ts);rw[c1,d1],by show U.sz u+U.szs r=T.sz t+T.szs ts;rw[c2,d2]⟩
end
theorem zIu:∀(a b:List U),qK (a++b)=(qK a && qK b)
 | [],b=>rfl
 | u::a,b=>by
  show(okU u && qK (a++b))=((okU u && qK a)&& qK b);rw[zIu a b,Bool.and_assoc]
theorem zJa:∀(a b:List U),U.deps (a++b)=max (U.deps a) (U.deps b)
 | [],b=>by show U.deps b=max 0 (U.deps b);lia
 | u::a,b=>by
  show max (U.dep u) (U.deps (a++b))=max (max (U.dep u) (U.deps a)) (U.deps b);rw[zJa a b];lia
theorem zUl:∀u:U,okU u=(xP u && qK (kids u))
 | .leaf v=>by show zGf v=(zGf v && true);rw[cI]
 | .lst us=>rfl
 | .dic ks us=>rfl
theorem zEh:∀us:List U,qK us=(us.all xP && qK (yI us))
 | []=>rfl
 | u::us=>by
  have e:yI (u::us)=kids u++yI us:=rfl;show(okU u && qK us)=((xP u && us.all xP)&& qK (yI (u::us)));rw[e,zIu,zUl u,zEh us];cases xP u<;>cases us.all xP<;>cases qK (kids u)<;>cases qK (yI us)<;>rfl
theorem zJr:∀us:List U,U.szs us=us.length+U.szs (yI us)
 | []=>rfl
 | u::us=>by
  have e:yI (u::us)=kids u++yI us:=rfl;have ih:=zJr us;rw[e,U.szs_append];show U.sz u+U.szs us=us.length+1+(U.szs (kids u)+U.szs (yI us));rw[ih]
  cases u with
  | leaf v=>show 1+_=_+(0+_);lia
  | lst ws=>show U.szs ws+1+_=_+(U.szs ws+_);lia
  | dic ks ws=>show U.szs ws+1+_=_+(U.szs ws+_);lia
theorem zEe:∀us:List U,U.deps us=if us.any isH=true then U.deps (yI us)+1 else 0
 | []=>rfl
 | u::us=>by
  have e:yI (u::us)=kids u++yI us:=rfl;have ih:=zEe us;show max (U.dep u) (U.deps us)=if(isH u || us.any isH)=true then U.deps (yI (u::us))+1 else 0
  rw[e,zJa,ih]
  cases u with
  | leaf v=>
   show max 0 _=if(false || us.any isH)=true then max 0 (U.deps (yI us))+1 else 0
   rw[Bool.false_or];split<;>lia
  | lst ws=>
   show max (U.deps ws+1) _=if(true || us.any isH)=true then max (U.deps ws) (U.deps (yI us))+1 else 0
   rw[Bool.true_or,mK rfl];split
   ·lia
   ·rename_i h
    have hn:yI us= []:=by
     clear ih e
     induction us with
     | nil=>rfl
     | cons x r ihr=>
      rw[bH,eP,not_or] at h;have e:yI (x::r)=kids x++yI r:=rfl;rw[e,ihr h.2]
      cases x with
      | leaf v=>rfl
      | lst ws=>exact absurd rfl h.1
      | dic ks ws=>exact absurd rfl h.1
    rw[hn];show max (U.deps ws+1) 0=max (U.deps ws) 0+1;lia
  | dic ks ws=>
   show max (U.deps ws+1) _=if(true || us.any isH)=true then max (U.deps ws) (U.deps (yI us))+1 else 0
   rw[Bool.true_or,mK rfl];split
   ·lia
   ·rename_i h
    have hn:yI us= []:=by
     clear ih e
     induction us with
     | nil=>rfl
     | cons x r ihr=>
      rw[bH,eP,not_or] at h;have e:yI (x::r)=kids x++yI r:=rfl;rw[e,ihr h.2]
      cases x with
      | leaf v=>rfl
      | lst ws=>exact absurd rfl h.1
      | dic ks ws=>exact absurd rfl h.1
    rw[hn];show max (U.deps ws+1) 0=max (U.deps ws) 0+1;lia
theorem zRa{us:List U}(h:us.any isH=false):yI us= []:=by
 induction us with
 | nil=>rfl
 | cons x r ihr=>
  rw[bH,Bool.or_eq_false_iff] at h;have e:yI (x::r)=kids x++yI r:=rfl;rw[e,ihr h.2]
  cases x with
  | leaf v=>rfl
  | lst ws=>cases h.1
  | dic ks ws=>cases h.1
theorem zQu:∀(n z:Nat)(us:List U),jd n z us=true↔qK us=true∧U.deps us<n∧z+U.szs us≤200
 | 0,z,us=>by
  constructor
  ·intro h;cases h
  ·intro h;exact absurd h.2.1 (sJ _)
 | n+1,z,us=>by
  have ih:=zQu n (z+us.length) (yI us);have e1:=zEh us;have e2:=zJr us;have e3:=zEe us;unfold jd
  by_cases c1:200<z+us.length∨us.all xP=false
  ·rw[mK c1]
   constructor
   ·intro h;cases h
   ·rintro⟨h1,h2,h3⟩
    rcases c1 with c | c
    ·lia
    ·rw[e1,c] at h1;cases h1
  ·rw[mI c1]
   rw[not_or,eF] at c1
   by_cases c2:us.any isH=false
   ·rw[mK c2]
    rw[zRa c2] at e1 e2;rw[c2] at e3;rw[mI (by decide)] at e3;constructor
    ·intro _
     refine⟨by rw[e1,c1.2];rfl,by lia, ?_⟩;have:U.szs ([]:List U)=0:=rfl
     lia
    ·intro _;rfl
   ·rw[mI c2,ih]
    rw[eF] at c2;rw[c2,mK rfl] at e3;rw[c1.2,aO] at e1;rw[e1,e2,e3];constructor
    ·rintro⟨a,b,c⟩;exact⟨a,by lia,by lia⟩
    ·rintro⟨a,b,c⟩;exact⟨a,by lia,by lia⟩
theorem zRb{t:T}{u:U}(h:Em t u):jd 9 0 [u]=wP t:=by
 obtain⟨a,b⟩:=zYy t u h;rw[rD,zQu];have e1:qK [u]=okU u:=by show(okU u && true)=_;rw[cI]
 have e2:U.deps [u]=U.dep u:=by show max (U.dep u) 0=_;lia
 have e3:U.szs [u]=U.sz u:=by show U.sz u+0=_;lia
 unfold wP;rw[e1,e2,e3,a,nZ,nZ,pC,pC];constructor
 ·rintro⟨x,y,z⟩
  obtain⟨d,s⟩:=b x;exact⟨⟨x,by lia⟩,by lia⟩
 ·rintro⟨⟨x,y⟩,z⟩
  obtain⟨d,s⟩:=b x;exact⟨x,by lia,by lia⟩
def zYv:Sp:=fun vs H Q _=>∃(v:V)(t:T),vs= [v]∧Rep H v t∧T.gd t∧T.sz t≤1000∧∀H',Same H H'→Q (.bl (wP t)) H'
theorem th_T{P:Program}{w:World}{K:W.Frag}{mg:Str→Option Value}{base:Heap}{f:Addr}{fd:FuncData}{k:Nat}{ps:List Str}(h:FnOk P w K mg base CX0 k f fd ps spTh):FnOk P w K mg base CX0 k f fd ps zYv:=
 h.imp fun vs H Q E ⟨v,t,e,hv,g,hz,q⟩=>by
  obtain⟨u,a1,a2,a3,a4⟩:=zYj v t hv g;refine⟨v,u,e,a1,a3,by lia,fun H' g'=>?_⟩;rw[zRb a2];exact q H' g'
abbrev sWn:Stmt:=top 66
mutual
def T.wn:T→Bool
 | .lst us=>decide (us.length≤60)&& T.wns us
 | .dic _ us=>decide (us.length≤30)&& T.wns us
 | .tup _=>true
 | .non=>true
 | .bl _=>true
 | .int _=>true
 | .str _=>true
def T.wns:List T→Bool
 | []=>true
 | t::ts=>T.wn t && T.wns ts
end
theorem zGt:∀us:List T,T.wns us=us.all T.wn
 | []=>rfl
 | t::ts=>by
  show(T.wn t && T.wns ts)=_;rw[zGt ts];rfl
section
variable{P:Program}{w:World}{K:W.Frag}{mg:Str→Option Value}{base:Heap}{f:Addr}{fd:FuncData}
theorem scWn:zP ["_law_thing"] ["_law_thing"] (zH sWn):=by walk_at "sc"
def zTm(n:Nat):Sp:=fun vs H Q _=>∃(v:V)(t:T),vs= [v]∧Rep H v t∧T.okq t∧T.dep t<n∧∀H',Same H H'→Q (.bl (T.wn t)) H'
theorem zZd{n:Nat}(F:Fun K "_law_within" "_law_within" sWn f fd)(B:Bl mg)(G_law_within:Dn P w K mg base (1+n) "_law_within" ["_law_thing"] (zTm n)):FnOk P w K mg base CX0 (1+n+1) f fd ["_law_thing"] (zTm (n+1)):=by
 refine F.ok scWn (by walk_at "ln") fun c A o s H vs Q E hr h=>?_;obtain⟨v,t,rfl,hv,hp,hd,q⟩:=h;have nd:=scWn.nd;have hu:=jC hr;refine⟨_,(zC (zR (zT (pI B.isinstance zI B.list xT (pv 0))) (zF (zJ (xN (yG vN (zM zY rfl B.len yH (zA (pv 0) zB)) zD (zQ _)) (xJ (zM (wX rfl) rfl B.all jP (zA (yV (own:=["_law_one"]) (F:=[]) ⟨rfl,by walk_at "wu",by walk_at "wu",by walk_at "wu", .nil⟩ rfl (xU (pv 0)) (fun _ _ _ _=>zW (i:=0) (by show(xK ["_law_one"] []).Nodup;decide+kernel) rfl (nO rfl)) (fun _ _ _ _=>yR) (fun _ _ _ _=>(pD G_law_within hr (zA (pv 0) zB)))) zB)))))) zL)
  (zC (zR (zT (pI B.isinstance zI B.dict xF (pv 0))) (zF (zJ (xN (yG vN (zM gM rfl B.len yH (zA (pv 0) zB)) zD (zQ _)) (xJ (zM (wX rfl) rfl B.all jP (zA (uO (yV (own:=["_law_name"]) (F:=[("_law_thing",0)]) ⟨rfl,by walk_at "wu",by walk_at "wu",by walk_at "wu",(.cons rfl rfl rfl .nil)⟩ rfl (zBm (pv 0)) (fun _ _ _ _=>zW (i:=0) (by show(xK ["_law_name"] [("_law_thing",0)]).Nodup;decide+kernel) rfl (nO rfl)) (fun _ _ _ _=>yR) (fun _ _ _ _=>(pD G_law_within hr (zA (jM hu (pv 1) (pv 0) (fun _ _=>rfl)) zB))))) zB)))))) zL)
  (zF (zJ wA)))), ?_⟩
 walk_at "st";walk_at "rd3";have hty:=hv.ty
 cases t with
 | lst us=>
  obtain⟨a,xs,rfl,ha,hs⟩:=hv;obtain⟨hl0,hp⟩:=hp;have hd':T.deps us+1<n+1:=hd;refine⟨"list",jH ha, ?_⟩;rw[mK (by decide)];have hxl:=hs.length;refine⟨a,rfl,xs,SqL.of ha, ?_⟩
  by_cases h60:us.length≤60
  ·rw[mK (by lia)]
   refine⟨a,rfl,⟨xs,SqL.of ha⟩,xX (K:=K) (xs:=xs) (fun i ys H'=>Same H H'∧ys=((us.take i).map T.wn).map V.bl) (by rw[mU];lia) ⟨Same.refl _,rfl⟩ (fun i ys H' _ h=>SqL.of (h.1 _ _ ha)) ?_ ?_⟩
   ·rintro i u ys H' hu' _ ⟨g,rfl⟩
    obtain⟨t',ht',hr'⟩:=hs.get hu';have hm:=mQ ht';have d1:=T.deps_le hm;walk_at "rd3";refine⟨u,t',rfl,Rep.same g u t' hr',T.okqs_mem hp hm,by lia,fun H4 g4=>⟨g.trans g4, ?_⟩⟩;rw[yB ht',nA,nA];rfl
   ·rintro ys H' _ ⟨g,rfl⟩ p hp'
    refine⟨p,rfl,_,SqL.of zE, ?_⟩;rw[hxl,nQ];have e:(us.map T.wn).all id=T.wn (.lst us):=by
     show _=(decide (us.length≤60)&& T.wns us);rw[mZ h60,zGt,rW];rfl
    rw[e];exact q _ (g.trans (zG hp' _))
  ·rw[mI (by lia)]
   have e:T.wn (.lst us)=false:=by
    show(decide (us.length≤60)&& T.wns us)=false;rw[nJ h60];rfl
   rw[←e];exact q _ (Same.refl _)
 | dic ks us=>
  obtain⟨d,ps,rfl,hdd,hk,hs⟩:=hv;obtain⟨nk,_,hl0,hp⟩:=hp;have hd':T.deps us+1<n+1:=hd;refine⟨"dict",jO hdd, ?_⟩;rw[mI (by decide)];refine⟨"dict",jO hdd, ?_⟩;rw[mK (by decide)];have hRd:Rep H (.ref d) (.dic ks us):=⟨d,ps,rfl,hdd,hk,hs⟩;have hpl:ps.length=us.length:=by have:=hs.length;rwa [mJ] at this
  have nkp:(ps.map (·.1)).Nodup:=by rw[hk];exact qI nk
  refine⟨d,rfl,ps,hdd, ?_⟩
  by_cases h30:us.length≤30
  ·rw[mK (by lia)]
   refine⟨d,rfl,ps, .inl ⟨hdd,fun o=>?_⟩⟩;have hyf:Reps (upd H d (.frz o (.dK ps))) (ps.map (·.2)) us:=gU hRd (tE _) hs;refine gK (fun i zs H'=>Same (upd H d (.frz o (.dK ps))) H'∧zs=((us.take i).map T.wn).map V.bl) (by rw[mU];lia) ⟨Same.refl _,rfl⟩ (fun i zs H' h=>h.1 _ _ zE) ?_ ?_
   ·rintro i rv zs H' hrv _ ⟨g,rfl⟩
    obtain⟨t1,ht1,hr1⟩:=hyf.get (i:=i) (v:=rv.2) (by rw[nI,hrv];rfl);have hm:=mQ ht1;have d1:=T.deps_le hm;walk_at "rd3";refine⟨rv.2, .inl ⟨ps,rv.1, .inr ⟨o,g _ _ zE⟩,rfl,(uF nkp hrv).symm⟩,_,t1,rfl,Rep.same g _ _ hr1,T.okqs_mem hp hm,by lia,fun H4 g4=>⟨g.trans g4, ?_⟩⟩;rw[yB ht1,nA,nA];rfl
   ·rintro zs H' _ ⟨g,rfl⟩ p hp'
    refine⟨p,rfl,_,SqL.of (wI zE (by intro o v z;cases z)), ?_⟩;rw[hpl,nQ];have e:(us.map T.wn).all id=T.wn (.dic ks us):=by
     show _=(decide (us.length≤30)&& T.wns us);rw[mZ h30,zGt,rW];rfl
    rw[e];exact q _ (qX (o:=o) hdd (g.trans (zG hp' _)))
  ·rw[mI (by lia)]
   have e:T.wn (.dic ks us)=false:=by
    show(decide (us.length≤30)&& T.wns us)=false;rw[nJ h30];rfl
   rw[←e];exact q _ (Same.refl _)
 | tup us=>exact⟨_,hty,iN (by simp[tyT,zN]) ⟨_,hty,iN (by simp[tyT,zN]) (q _ (Same.refl _))⟩⟩
 | non=>exact⟨_,hty,iN (by decide) ⟨_,hty,iN (by decide) (q _ (Same.refl _))⟩⟩
 | bl b=>exact⟨_,hty,iN (by simp[tyT,zN]) ⟨_,hty,iN (by simp[tyT,zN]) (q _ (Same.refl _))⟩⟩
 | int b=>exact⟨_,hty,iN (by simp[tyT,zN]) ⟨_,hty,iN (by simp[tyT,zN]) (q _ (Same.refl _))⟩⟩
 | str b=>exact⟨_,hty,iN (by simp[tyT,zN]) ⟨_,hty,iN (by simp[tyT,zN]) (q _ (Same.refl _))⟩⟩
theorem yAk(F:Fun K "_law_within" "_law_within" sWn f fd):FnOk P w K mg base CX0 1 f fd ["_law_thing"] (zTm 0):=by
 refine F.ok scWn (by walk_at "ln") fun c A o s H vs Q E hr h=>?_;obtain⟨v,t,rfl,hv,hp,hd,q⟩:=h;exact absurd hd (sJ _)
theorem zQo(F:Fun K "_law_within" "_law_within" sWn f fd)(B:Bl mg)(b:Binds K fd ["_law_thing"] [])(kp:W.keepIn K (.ref f)=true)(m:mg "_law_within" =some (.ref f)):∀n:Nat,FnOk P w K mg base CX0 (1+n) f fd ["_law_thing"] (zTm n)
 | 0=>yAk F
 | n+1=>zZd F B ⟨_,_,zQo F B b kp m n,b,kp,m⟩
end
abbrev sMn:Stmt:=top 65
mutual
def T.md:T→Nat
 | .lst us=>1+T.mds us
 | .dic _ us=>1+T.mds us
 | .tup _=>0
 | .non=>0
 | .bl _=>0
 | .int _=>0
 | .str _=>0
def T.mds:List T→Nat
 | []=>0
 | t::ts=>max (T.md t) (T.mds ts)
end
mutual
def T.mc:T→Nat
 | .lst us=>1+T.mcs us
 | .dic _ us=>1+T.mcs us
 | .tup _=>1
 | .non=>1
 | .bl _=>1
 | .int _=>1
 | .str _=>1
def T.mcs:List T→Nat
 | []=>0
 | t::ts=>T.mc t+T.mcs ts
end
theorem zYq:∀(us:List T)(b:Nat),(us.map fun t=>((T.md t:Nat):Int)).foldl mxI (b:Int)=((max b (T.mds us):Nat):Int)
 | [],b=>by show(b:Int)=((max b 0:Nat):Int);rw[Nat.max_zero]
 | t::us,b=>by
  show(us.map fun t=>((T.md t:Nat):Int)).foldl mxI (mxI b (T.md t:Nat))=((max b (max (T.md t) (T.mds us)):Nat):Int);have e:mxI b (T.md t:Nat)=((max b (T.md t):Nat):Int):=by
   unfold mxI;split<;>lia
  rw[e,zYq us,Nat.max_assoc]
theorem yDf(us:List T):mxD 0 (us.map fun t=>((T.md t:Nat):Int))=(T.mds us:Nat):=by
 cases us with
 | nil=>rfl
 | cons t us=>exact zYq us (T.md t)
theorem zQv:∀us:List T,(us.map fun t=>((T.mc t:Nat):Int)).sum=(T.mcs us:Nat)
 | []=>rfl
 | t::us=>by
  rw[mY,cH,zQv us];show _=((T.mc t+T.mcs us:Nat):Int)
  lia
section
variable{P:Program}{w:World}{K:W.Frag}{mg:Str→Option Value}{base:Heap}{f:Addr}{fd:FuncData}
theorem scMn:zP ["_law_thing","_law_inner","_law_some"] ["_law_thing"] (zH sMn):=by walk_at "sc"
def zGg(n:Nat):Sp:=fun vs H Q _=>∃(v:V)(t:T),vs= [v]∧Rep H v t∧T.okq t∧T.dep t<n∧∀p H',Same H H'→H' p=some (.tup [.int (T.md t:Nat), .int (T.mc t:Nat)])→Q (.ref p) H'
theorem yAd{n:Nat}(F:Fun K "_law_many" "_law_many" sMn f fd)(B:Bl2 mg)(G_law_many:Dh P w K mg base (1+n) "_law_many" ["_law_thing"] (zGg n)):FnOkH P w K mg base (1+n+1) f fd ["_law_thing"] (zGg (n+1)):=by
 refine F.okh scMn (by walk_at "ln") fun c A o s H vs Q E hr h=>?_;obtain⟨v,t,rfl,hv,hp,hd,q⟩:=h;have nd:=scMn.nd;have hu:=hr.hu;refine⟨_,(zC (zR (xC (zT (zM (gC (T:="list") (U:="dict") (by decide) (by decide)) rfl B.isinstance zI (zA (pv 0) (zA (gT (zA (wJ (v:=.ty "list") rfl B.list xT rfl) (zA (wJ (v:=.ty "dict") rfl B.dict xF rfl) zB))) zB))))) (zF (zJ (gT (zA zD (zA zD zB))))) zL)
  (zC (pS 1 nd (pv 0))
  (zC (zGd (zR (zT (pI B.isinstance zI B.dict xF (pv 0))) (zF (pS 1 nd (yU (zBc rfl) rfl B.list xT (zA (zVb aJ bR PySem.F.type_dict_values zFr (pv 0)) zB)))) zL))
  (zC (zFw (i:=2) nd rfl (nO rfl) (own:=["_law_one"]) (F:=[]) ⟨rfl,by walk_at "wu",by walk_at "wu",by walk_at "wu", .nil⟩ rfl (xU (pv 1)) (fun _ _ _ _=>zW (i:=0) (by show(xK ["_law_one"] []).Nodup;decide+kernel) rfl (nO rfl)) (fun _ _ _ _=>yR) (fun _ _ _ _=>(wV G_law_many hr (by lia) rfl (zA (pv 0) zB))))
  (zF (zJ (gT (zA (zK yP zD (zWf rfl rfl B.max (zA (yV (own:=["_law_one"]) (F:=[]) ⟨rfl,by walk_at "wu",by walk_at "wu",by walk_at "wu", .nil⟩ rfl (xU (pv 2)) (fun _ _ _ _=>zW (i:=0) (by show(xK ["_law_one"] []).Nodup;decide+kernel) rfl (nO rfl)) (fun _ _ _ _=>yR) (fun _ _ _ _=>(yE (wL (K:=K) rfl) (pv 0) zD (fun _ _=>rfl)))) zB) zD)) (zA (zK yP zD (zM (zTx rfl) rfl B.sum yBq (zA (yV (own:=["_law_one"]) (F:=[]) ⟨rfl,by walk_at "wu",by walk_at "wu",by walk_at "wu", .nil⟩ rfl (xU (pv 2)) (fun _ _ _ _=>zW (i:=0) (by show(xK ["_law_one"] []).Nodup;decide+kernel) rfl (nO rfl)) (fun _ _ _ _=>yR) (fun _ _ _ _=>(yE (wL (K:=K) rfl) (pv 0) zD (fun _ _=>rfl)))) zB))) zB))))))))), ?_⟩
 walk_at "st";walk_at "rd3";have hty:=hv.ty;intro p hp0;have g1:=zG hp0 (.tup [V.ty "list",V.ty "dict"]);refine⟨v,_,p,⟨rfl,rfl⟩,zE,zAc g1 hty, ?_⟩;generalize upd H p (.tup [V.ty "list",V.ty "dict"])=H1 at g1⊢
 by_cases hh:(zN (tyT t) "list" || zN (tyT t) "dict")=false
 ·rw[mK hh]
  intro p2 hp2;refine q p2 _ (g1.trans (zG hp2 _)) ?_
  cases t with
  | lst us=>exact absurd hh (by simp[tyT,zN])
  | dic ks us=>exact absurd hh (by simp[tyT,zN])
  | _=>exact zE
 rw[mI hh];unfold zSf;walk_at "rd3";refine⟨fun σ' H'=>∃l xs us,σ'= [some v,some (V.ref l),none]∧Same H H'∧H' l=some (.lst xs)∧Reps H' xs us∧T.okqs us∧T.deps us<n∧us.length≤200000∧T.md t=1+T.mds us∧T.mc t=1+T.mcs us, ?_, ?_⟩
 ·refine⟨_,zAc g1 hty, ?_⟩
  cases t with
  | lst us=>
   obtain⟨a,xs,rfl,ha,hs⟩:=hv;exact iN (by simp[tyT,zN]) ⟨a,xs,us,rfl,g1,g1 _ _ ha,Reps.same g1 _ _ hs,hp.2,(show T.deps us<n from Nat.lt_of_succ_lt_succ hd),hp.1,rfl,rfl⟩
  | dic ks us=>
   obtain⟨d,ps,rfl,hdd,hk,hs⟩:=hv;have hpl:ps.length=us.length:=by have:=hs.length;rwa [mJ] at this
   refine iP (by simp[tyT,zN]) ⟨?_,d,rfl,⟨ps, .inl (g1 _ _ hdd)⟩,fun p3 hp3=>⟨d,zE,ps, .inl (zG hp3 _ _ _ (g1 _ _ hdd)),fun l hl=>?_⟩⟩
   ·exact .inr (.inr (.inl ⟨rfl, .inl ⟨ps,g1 _ _ hdd⟩⟩))
   ·have g3:=(g1.trans (zG hp3 (zEf p3 d))).trans (zG hl (.lst (ps.map (·.2))))
    exact⟨l,_,us,rfl,g3,zE,Reps.same g3 _ _ hs,hp.2.2.2,(show T.deps us<n from Nat.lt_of_succ_lt_succ hd),hp.2.2.1,rfl,rfl⟩
  | _=>exact absurd rfl hh
 rintro σ' H2 ⟨l,xs,us,rfl,g2,hl,hs,hok,hdu,hlen,e1,e2⟩;have hxl:=hs.length;walk_at "rd3";refine⟨⟨xs,SqL.of hl⟩,xX (K:=K) (xs:=xs) (fun i ys H'=>Same H2 H'∧ys.length=i∧∀(j:Nat)(t':T),us[j]? =some t'→j<i→∃p,ys[j]? =some (V.ref p)∧H' p=some (.tup [.int (T.md t':Nat), .int (T.mc t':Nat)])) (by rw[mU];lia) ⟨Same.refl _,rfl,fun j _ _ h=>absurd h (sJ _)⟩ (fun i ys H' _ h=>SqL.of (h.1 _ _ hl)) ?_ ?_⟩
 ·rintro i u ys H' hu' _ ⟨g,hyl,hj⟩
  obtain⟨t',ht',hr'⟩:=hs.get hu';have hm:=mQ ht';have d1:=T.deps_le hm;walk_at "rd3";refine⟨u,t',rfl,Rep.same g u t' hr',T.okqs_mem hok hm,by lia,fun p4 H4 g4 h4=>⟨g.trans g4,by rw[mL,hyl];rfl,fun j t1 h1 hji=>?_⟩⟩
  by_cases e:j<i
  ·obtain⟨p5,h5,h6⟩:=hj j t1 h1 e
   exact⟨p5,by rw[pU (by lia)];exact h5,g4 _ _ h6⟩
  ·have e':j=i:=by lia
   subst e';rw[ht'] at h1;cases h1;exact⟨p4,by rw[nY (by lia),hyl,Nat.sub_self];rfl,h4⟩
 rintro ys H3 _ ⟨g3,hyl,hj⟩ p5 hp5;have g5:=g3.trans (zG hp5 (.lst ys));have hj5:∀(j:Nat)(t':T),us[j]? =some t'→∃p,ys[j]? =some (V.ref p)∧upd H3 p5 (.lst ys) p=some (.tup [.int (T.md t':Nat), .int (T.mc t':Nat)]):=fun j t' h=>by
  have hlt:j<us.length:=by
   rcases Nat.lt_or_ge j us.length with z | z
   ·exact z
   ·rw[sB z] at h;cases h
  obtain⟨p6,h6,h7⟩:=hj j t' h (by lia);exact⟨p6,h6,zG hp5 _ _ _ h7⟩
 have h5:upd H3 p5 (.lst ys) p5=some (.lst ys):=zE;generalize upd H3 p5 (.lst ys)=H5 at g5 h5 hj5;have one:∀{i:Nat}{y:V},ys[i]? =some y→∃t' p,us[i]? =some t'∧y=V.ref p∧H5 p=some (.tup [.int (T.md t':Nat), .int (T.mc t':Nat)]):=fun {i y} hy=>by
  have hlt:i<ys.length:=by
   rcases Nat.lt_or_ge i ys.length with z | z
   ·exact z
   ·rw[sB z] at hy;cases hy
  have h1:us[i]? =some (us[i]'(by lia)):=nF _;obtain⟨p6,h6,h7⟩:=hj5 i _ h1;rw[hy] at h6;exact⟨_,p6,h1,mV h6,h7⟩
 refine⟨p5,rfl,⟨ys,SqL.of h5⟩,xX (K:=K) (xs:=ys) (fun i zs H'=>Same H5 H'∧zs=((us.take i).map fun t=>((T.md t:Nat):Int)).map V.int) (by rw[mU];lia) ⟨Same.refl _,rfl⟩ (fun i zs H' _ h=>SqL.of (h.1 _ _ h5)) ?_ ?_⟩
 ·rintro i y zs H' hy _ ⟨g,rfl⟩
  obtain⟨t',p6,h6,rfl,h7⟩:=one hy;walk_at "rd3";refine wM (SqT.of (g _ _ h7)) (yM (j:=0) rfl) ⟨g, ?_⟩;rw[yB h6,nA,nA];rfl
 rintro zs H6 _ ⟨g6,rfl⟩ p6 hp6;rw[hyl,hxl,nQ];refine⟨p6,rfl,_,SqL.of zE,p5,rfl, ?_⟩;have g7:=g6.trans (zG hp6 (.lst ((us.map fun t=>((T.md t:Nat):Int)).map V.int)));generalize upd H6 p6 (.lst ((us.map fun t=>((T.md t:Nat):Int)).map V.int))=H7 at g7⊢;have h57:=g7 _ _ h5;refine⟨⟨ys,SqL.of h57⟩,xX (K:=K) (xs:=ys) (fun i zs H'=>Same H7 H'∧zs=((us.take i).map fun t=>((T.mc t:Nat):Int)).map V.int) (by rw[mU];lia) ⟨Same.refl _,rfl⟩ (fun i zs H' _ h=>SqL.of (h.1 _ _ h57)) ?_ ?_⟩
 ·rintro i y zs H' hy _ ⟨g,rfl⟩
  obtain⟨t',p7,h6,rfl,h7⟩:=one hy;walk_at "rd3";refine wM (SqT.of (g _ _ (g7 _ _ h7))) (yM (j:=1) rfl) ⟨g, ?_⟩;rw[yB h6,nA,nA];rfl
 rintro zs H8 _ ⟨g8,rfl⟩ p8 hp8;rw[hyl,hxl,nQ];refine⟨p8,rfl,_,SqL.of zE,fun p9 hp9=>?_⟩;refine q p9 _ (g2.trans (g5.trans (g7.trans (g8.trans ((zG hp8 _).trans (zG hp9 _)))))) ?_;rw[zE,yDf,zQv,e1,e2];simp
theorem yAq(F:Fun K "_law_many" "_law_many" sMn f fd):FnOkH P w K mg base 1 f fd ["_law_thing"] (zGg 0):=by
 refine F.okh scMn (by walk_at "ln") fun c A o s H vs Q E hr h=>?_;obtain⟨v,t,rfl,hv,hp,hd,q⟩:=h;exact absurd hd (sJ _)
theorem zSd(F:Fun K "_law_many" "_law_many" sMn f fd)(B:Bl2 mg)(b:Binds K fd ["_law_thing"] [])(kp:W.keepIn K (.ref f)=true)(m:mg "_law_many" =some (.ref f)):∀n:Nat,FnOkH P w K mg base (1+n) f fd ["_law_thing"] (zGg n)
 | 0=>yAq F
 | n+1=>yAd F B ⟨_,_,zSd F B b kp m n,b,kp,m⟩
abbrev sLt:Stmt:=top 67
def T.isT(t:T):Bool:=decide (T.md t≤8)&& (decide (T.mc t≤200)&& T.wn t)
theorem scLt:zP ["_law_thing","_law_deep_here","_law_many_here"] ["_law_thing"] (zH sLt):=by walk_at "sc"
def spLt:Sp:=fun vs H Q _=>∃(v:V)(t:T),vs= [v]∧Rep H v t∧T.okq t∧T.dep t<20∧∀H',Same H H'→Q (.bl (T.isT t)) H'
theorem ok_lt(F:Fun K "_law_is_thing" "_law_is_thing" sLt f fd)(B:Bl mg)(G_law_many:Dn P w K mg base (1+20) "_law_many" ["_law_thing"] (zGg 20))(G_law_within:Dn P w K mg base (1+20) "_law_within" ["_law_thing"] (zTm 20)):FnOk P w K mg base CX0 22 f fd ["_law_thing"] spLt:=by
 refine F.ok scLt (by walk_at "ln") fun c A o s H vs Q E hr h=>?_;obtain⟨v,t,rfl,hv,hp,hd,q⟩:=h;have nd:=scLt.nd;refine⟨_,(zC (yAi (pD G_law_many hr (zA (pv 0) zB)) (zRg (n:=2) rfl (uQ (zW (i:=1) nd rfl (nO rfl)) (uQ (zW (i:=2) nd rfl (nO rfl)) zNb))))
  (zF (zJ (xN (yG vN (pv 1) zD (zQ _)) (xN (yG vN (pv 2) zD (zQ _)) (xJ (pD G_law_within hr (zA (pv 0) zB)))))))), ?_⟩
 walk_at "st";walk_at "rd3";refine⟨v,t,rfl,hv,hp,hd,fun p H1 g1 h1=>?_⟩;refine⟨p,rfl,_,SqT.of h1,rfl,_,_,rfl,_,_,rfl,rfl,_,rfl, ?_⟩
 by_cases h8:T.md t≤8
 ·rw[mK (by lia)]
  refine⟨_,rfl, ?_⟩
  by_cases h200:T.mc t≤200
  ·rw[mK (by lia)]
   refine⟨v,t,rfl,Rep.same g1 _ _ hv,hp,hd,fun H2 g2=>?_⟩;have e:T.isT t=T.wn t:=by unfold T.isT;rw[mZ h8,mZ h200];rfl
   rw[←e];exact q _ (g1.trans g2)
  ·rw[mI (by lia)]
   have e:T.isT t=false:=by unfold T.isT;rw[nJ h200,Bool.false_and,Bool.and_false]
   rw[←e];exact q _ g1
 ·rw[mI (by lia)]
  have e:T.isT t=false:=by unfold T.isT;rw[nJ h8];rfl
  rw[←e];exact q _ g1
end
abbrev zZh:Stmt:=top 44
abbrev yBa:Stmt:=top 40
abbrev yBg:Stmt:=top 41
abbrev yAe:Stmt:=top 42
section
variable{P:Program}{w:World}{K:W.Frag}{mg:Str→Option Value}{base:Heap}{f:Addr}{fd:FuncData}{C C2:Addr}
def zTp(C2:Addr):Sp:=fun vs H Q E=>∃(v:V)(t:T),vs= [v]∧Rep H v t∧T.gd t∧T.sz t≤1000∧(wP t=true→∀H',Same H H'→Q v H')∧(wP t=false→∀H',Same H H'→E (.ref C2) none H')
theorem scSou:zP ["thing"] ["thing"] (zH zZh):=by walk_at "sc"
theorem yAt(F:Fun K "sound" "sound" zZh f fd)(Gis_thing:Dn P w K mg base 3 "is_thing" ["thing"] zYv)(RTooGreat:Xr0 K mg "TooGreat" C2):FnOk P w K mg base (CXE nC P w) 4 f fd ["thing"] (zTp C2):=by
 refine F.okx scSou (by walk_at "ln") fun c A o s H vs Q E hr h=>?_;obtain⟨v,t,rfl,hv,hg,hz,q,qx⟩:=h;have nd:=scSou.nd;refine⟨_,(zC (zR (xC (zT (pD Gis_thing hr (zA (pv 0) zB)))) (zF (zPi RTooGreat rfl rfl lvs (zA zV zB))) zL)
  (zF (zJ (pv 0)))), ?_⟩
 walk_at "st";unfold zJy;walk_at "rd3";refine⟨v,t,rfl,hv,hg,hz,fun H1 g1=>?_⟩
 cases ht:wP t with
 | false=>exact⟨false,rfl,iP rfl (qx ht _ g1)⟩
 | true=>exact⟨true,rfl,iN (by decide) (q ht _ g1)⟩
def zYs(C C2:Addr):Sp:=fun vs H Q E=>∃(v:V)(t:T)(pa:Addr)(ks:List Key)(vn:V)(n:T)(m:Nat),vs= [v, .ref pa,vn]∧Tq m H v t pa ks∧Rep H vn n∧Nq m t n∧
 (∀r,chG .ins (fun s k=>zZ .ins s k n) t ks n= .inr r→T.gd r∧T.sz r≤1000∧(wP r=true→∀v' H' D,Same H H'→Sp1 H' v' r D→(∀b∈D,H b=none)→Q v' H')∧(wP r=false→∀H',Same H H'→E (.ref C2) none H'))∧
 (∀j:Nat,chG .ins (fun s k=>zZ .ins s k n) t ks n= .inl j→XAt C (j:Int) H E)
theorem scIns:zP ["thing","path","new"] ["thing","path","new"] (zH yBg):=by walk_at "sc"
theorem yBk(F:Fun K "inserted" "inserted" yBg f fd)(Gsoundx:Dx nC P w K mg base 4 "sound" ["thing"] (zTp C2))(Gchanged_atx:Dx nC P w K mg base 22 "changed_at" ["thing","word","path","new"] (zQb C)):FnOk P w K mg base (CXE nC P w) 23 f fd ["thing","path","new"] (zYs C C2):=by
 refine F.okx scIns (by walk_at "ln") fun c A o s H vs Q E hr h=>?_;obtain⟨v,t,pa,ks,vn,n,m,rfl,hT,hn,hN,q,qx⟩:=h;have nd:=scIns.nd;refine⟨_,(zF (zJ (zDo Gsoundx hr (by lia) rfl lvs (zA (zDo Gchanged_atx hr (by lia) rfl lvs (zA (pv 0) (zA zV (zA (pv 1) (zA (pv 2) zB))))) zB)))), ?_⟩;walk_at "st";walk_at "rd3";refine⟨v,t, .ins,pa,ks,vn,n,m,rfl,hT,hn,hN,fun r hr' v1 H1 D g1 hv1 hD=>?_,qx⟩;obtain⟨r1,r2,r3,r4⟩:=q r hr';exact⟨v1,r,rfl,Sp1.rep _ _ _ hv1,r1,r2,fun h H2 g2=>r3 h v1 H2 D (g1.trans g2) (Sp1.same g2 hv1) hD,fun h H2 g2=>r4 h H2 (g1.trans g2)⟩
def zUe(C:Addr):Sp:=fun vs H Q E=>∃(v:V)(t:T)(pa:Addr)(ks:List Key)(m:Nat),vs= [v, .ref pa]∧Tq m H v t pa ks∧T.dep t≤16∧(∀r,chG .tak (fun s k=>zZ .tak s k .non) t ks .non= .inr r→∀v' H' D,Same H H'→Sp1 H' v' r D→(∀b∈D,H b=none)→Q v' H')∧
 (∀j:Nat,chG .tak (fun s k=>zZ .tak s k .non) t ks .non= .inl j→XAt C (j:Int) H E)
theorem scTkn:zP ["thing","path"] ["thing","path"] (zH yAe):=by walk_at "sc"
theorem yBo(F:Fun K "taken" "taken" yAe f fd)(Gcad:Ddx nC P w K mg base 22 "changed_at" ["thing","word","path","new"] [.non] (zQb C)):FnOk P w K mg base (CXE nC P w) 23 f fd ["thing","path"] (zUe C):=by
 refine F.okx scTkn (by walk_at "ln") fun c A o s H vs Q E hr h=>?_;obtain⟨v,t,pa,ks,m,rfl,hT,hd,q,qx⟩:=h;have nd:=scTkn.nd;refine⟨_,(zF (zJ (zZp Gcad hr (by lia) rfl (zYn lvs) (zA (pv 0) (zA zV (zA (pv 1) zB)))))), ?_⟩;walk_at "st";walk_at "rd3";exact⟨v,t, .tak,pa,ks, .non, .non,m,rfl,hT,rfl,⟨mN,hd,pB _,(show 1≤40000 by decide)⟩,q,qx⟩
def zNz(C C2:Addr):Sp:=fun vs H Q E=>∃(v:V)(t:T)(pa:Addr)(ks:List Key)(vn:V)(n:T)(m:Nat),vs= [v, .ref pa,vn]∧Tq m H v t pa ks∧Rep H vn n∧Nq m t n∧
 (∀r,chG .put (fun s k=>zZ .put s k n) t ks n= .inr r→T.gd r∧T.sz r≤1000∧(wP r=true→∀v' H' D,Same H H'→Sp1 H' v' r D→(∀b∈D,H b=none)→Q v' H')∧(wP r=false→∀H',Same H H'→E (.ref C2) none H'))∧
 (∀j:Nat,chG .put (fun s k=>zZ .put s k n) t ks n= .inl j→XAt C (j:Int) H E)
theorem scPut:zP ["thing","path","new"] ["thing","path","new"] (zH yBa):=by walk_at "sc"
theorem zZg(F:Fun K "put" "put" yBa f fd)(Gsoundx:Dx nC P w K mg base 4 "sound" ["thing"] (zTp C2))(Gchanged_atx:Dx nC P w K mg base 22 "changed_at" ["thing","word","path","new"] (zQb C)):FnOk P w K mg base (CXE nC P w) 23 f fd ["thing","path","new"] (zNz C C2):=by
 refine F.okx scPut (by walk_at "ln") fun c A o s H vs Q E hr h=>?_;obtain⟨v,t,pa,ks,vn,n,m,rfl,hT,hn,hN,q,qx⟩:=h;have nd:=scPut.nd;refine⟨_,(zF (zJ (zDo Gsoundx hr (by lia) rfl lvs (zA (zDo Gchanged_atx hr (by lia) rfl lvs (zA (pv 0) (zA zV (zA (pv 1) (zA (pv 2) zB))))) zB)))), ?_⟩;walk_at "st";walk_at "rd3";refine⟨v,t, .put,pa,ks,vn,n,m,rfl,hT,hn,hN,fun r hr' v1 H1 D g1 hv1 hD=>?_,qx⟩;obtain⟨r1,r2,r3,r4⟩:=q r hr';exact⟨v1,r,rfl,Sp1.rep _ _ _ hv1,r1,r2,fun h H2 g2=>r3 h v1 H2 D (g1.trans g2) (Sp1.same g2 hv1) hD,fun h H2 g2=>r4 h H2 (g1.trans g2)⟩
end
abbrev zKx:Stmt:=top 38
abbrev zDy:Stmt:=top 35
section
variable{P:Program}{w:World}{K:W.Frag}{mg:Str→Option Value}{base:Heap}{f:Addr}{fd:FuncData}
def zGq:Sp:=fun vs H Q _=>∃(v:V)(t:T),vs= [v]∧Rep H v t∧T.few t∧∀l H',Same H H'→H l=none→H' l=some (.lst ((yX t).map scv))→Q (.ref l) H'
theorem scSteps:zP ["thing"] ["thing"] (zH zKx):=by walk_at "sc"
theorem zUc(F:Fun K "steps_from" "steps_from" zKx f fd)(B:Bl2 mg):FnOk P w K mg base CX0 1 f fd ["thing"] zGq:=by
 refine F.ok scSteps (by walk_at "ln") fun c A o s H vs Q E hr h=>?_;obtain⟨v,t,rfl,hv,hf,q⟩:=h;have nd:=scSteps.nd;refine⟨_,(zC (zR (zT (pI B.isinstance zI B.list xT (pv 0))) (zF (zJ (yU (zKh rfl) rfl B.list xT (zA (yU zKu rfl B.range zVq (zA (zM zY rfl B.len yH (zA (pv 0) zB)) zB)) zB)))) zL)
  (zC (zR (zT (pI B.isinstance zI B.dict xF (pv 0))) (zF (zJ (zM (zDz rfl) rfl B.sorted zPn (zA (pv 0) zB)))) zL)
  (zF (zJ (yT zB))))), ?_⟩
 walk_at "st";walk_at "rd3"
 cases t with
 | lst us=>
  have hty:tyS H v=some "list":=hv.ty;obtain⟨a,xs,rfl,ha,hx⟩:=hv;have hxl:=hx.length;have hul:=hf.1;refine⟨_,hty,iP (by decide+kernel) ⟨a,rfl,xs,SqL.of ha,fun p hp=>⟨_,zE,by lia,by lia,fun l hl=>?_⟩⟩⟩;have hlp:l≠p:=fun z=>by rw[z,zE] at hl;cases hl
  refine q l _ ((zG hp _).trans (zG hl _)) (by rw[zO hlp] at hl;exact hl) ?_;rw[zE,nR,hxl];show _=some (HO.lst (((List.range us.length).map fun(i:Nat)=>T.int (i:Int)).map scv));rw[pQ]
  rfl
 | dic ks us=>
  have hty:tyS H v=some "dict":=hv.ty;obtain⟨a,ps,rfl,ha,hk,hx⟩:=hv;obtain⟨nk,h64,hle,hf⟩:=hf;refine⟨_,hty,iN (by decide+kernel) ⟨_,hty,iP (by decide+kernel) ⟨a,rfl,ps, .inl ha,ks.map tx,by rw[hk,pQ];rfl,by rw[mJ];exact h64,fun l ss hl hp1 hs1=>?_⟩⟩⟩;refine q l _ (zG hl _) hl ?_;rw[zE,zGy hp1 hs1];show _=some (HO.lst (((uW ks).map T.str).map scv));rw[pQ,pQ]
  rfl
 | tup us=>exact hf.elim
 | non=>exact⟨_,hv.ty,iN (by decide+kernel) ⟨_,hv.ty,iN (by decide+kernel) fun p hp=>q p _ (zG hp _) hp zE⟩⟩
 | bl b=>exact⟨"bool",hv.ty,iN (by decide+kernel) ⟨"bool",hv.ty,iN (by decide+kernel) fun p hp=>q p _ (zG hp _) hp zE⟩⟩
 | int b=>exact⟨"int",hv.ty,iN (by decide+kernel) ⟨"int",hv.ty,iN (by decide+kernel) fun p hp=>q p _ (zG hp _) hp zE⟩⟩
 | str b=>exact⟨"str",hv.ty,iN (by decide+kernel) ⟨"str",hv.ty,iN (by decide+kernel) fun p hp=>q p _ (zG hp _) hp zE⟩⟩
def uP(n:Nat):Sp:=fun vs H Q _=>∃(v:V)(t:T),vs= [v]∧Rep H v t∧T.few t∧T.dep t<n∧n≤100∧T.sz t≤10000∧
 ∀a ps H',Same H H'→H a=none→H' a=some (.lst (ps.map V.ref))→Lay H' ps ((pth n t).map (·.map scv))→(∀p∈ps,H p=none)→ps.Nodup→a∉ps→Q (.ref a) H'
theorem scSpots:zP ["thing","paths","step"] ["thing"] (zH zDy):=by walk_at "sc"
theorem zPj{n:Nat}(F:Fun K "spots" "spots" zDy f fd)(B:Bl2 mg)(Gsteps_from:Dn P w K mg base 1 "steps_from" ["thing"] zGq)(Gspots:Dn P w K mg base (2+n) "spots" ["thing"] (uP n)):
  FnOk P w K mg base CX0 (2+n+1) f fd ["thing"] (uP (n+1)):=by
 refine F.ok scSpots (by walk_at "ln") fun c A o s H vs Q E hr h=>?_;obtain⟨v,t,rfl,hv,hf,hd,hn,hz,q⟩:=h;have nd:=scSpots.nd;have hu:=jC hr;refine⟨_,(zC (pS 1 nd (yT (zA (yT zB) zB)))
  (zC (qD PassesOwn.never rfl (xU (pD Gsteps_from hr (zA (pv 0) zB))) (zW (i:=2) nd rfl (cF rfl)) (zF (kZ (uU aL PySem.F.slot_list_extend PySem.F.type_list_extend zEr (pv 1) (zA (yV (own:=["path"]) (F:=[("step",2)]) ⟨rfl,by walk_at "wu",by walk_at "wu",by walk_at "wu",(.cons rfl rfl rfl .nil)⟩ rfl (xU (pD Gspots hr (zA (zAe (yE ix_list (pv 0) (pv 2) (fun _ _=>rfl)) (jM hu (pv 0) (pv 2) (fun _ _=>rfl))) zB))) (fun _ _ _ _=>zW (i:=0) (by show(xK ["path"] [("step",2)]).Nodup;decide+kernel) rfl (nO rfl)) (fun _ _ _ _=>yR) (fun _ _ _ _=>(zK jN (yT (zA (pv 1) zB)) (pv 0)))) zB)))))
  (zF (zJ (pv 1))))), ?_⟩
 walk_at "st";walk_at "rd3";intro p0 hp0 a0 ha0;have hap:a0≠p0:=fun z=>by rw[z,zE] at ha0;cases ha0
 have haH:H a0=none:=by rw[zO hap] at ha0;exact ha0
 have g00:=(zG hp0 (.lst [])).trans (zG ha0 (.lst [V.ref p0]));refine⟨v,t,rfl,Rep.same g00 v t hv,hf,fun l H1 g1 hl0 hl=>⟨l,rfl,⟨_,SqL.of hl⟩, ?_⟩⟩;have hla:l≠a0:=fun z=>by rw[z,zE] at hl0;cases hl0
 have hsz:=zBj (n+1) t hf;refine jD (K:=K) (a:=l) (xs:=(yX t).map scv) (fun i σ H2=>(∃o,σ= [some v,some (V.ref a0),o])∧Same H H2∧H2 l=some (.lst ((yX t).map scv))∧∃ps,H2 a0=some (.lst (ps.map V.ref))∧Lay H2 ps ((zAx n t i).map (·.map scv))∧(∀p∈ps,H p=none)∧ps.Nodup∧a0∉ps) ⟨⟨_,rfl⟩,g00.trans g1,hl,[p0],g1 _ _ zE,⟨g1 _ _ (by rw[zO hap.symm];exact zE),mN⟩,fun p hp=>by rw[mP.mp hp];exact hp0,by simp,by simp[hap]⟩ (fun i σ H2 _ h=>SqL.of h.2.2.1) ?_ ?_
 ·rintro i x σ H2 hx ⟨⟨o,rfl⟩,g,hl2,ps,ha,hL,hfr,hnd,hna⟩
  obtain⟨s',hs',rfl⟩:∃s',(yX t)[i]? =some s'∧x=scv s':=by
   rw[nI] at hx
   cases hc:(yX t)[i]? with
   | none=>rw[hc] at hx;cases hx
   | some s'=>rw[hc] at hx;exact⟨s',rfl,(mV hx).symm⟩
  have hsm:=mQ hs';obtain⟨k1,k2,k3⟩:=zMt hf hsm;walk_at "rd3";refine⟨nO ⟨rfl,_,SqL.of ha⟩,zVy rfl rfl (Rep.same g _ _ hv) hf hsm fun c hc=>⟨c,kid t s',rfl,hc,k1,by lia,by lia,by lia,fun b rs H3 g3 hb0 hb hLr hrf hrn hbn=>⟨b,rfl,⟨_,SqL.of hb⟩, ?_⟩⟩⟩;have hlr:=hLr.length;rw[mJ] at hlr;have hkl:=zBj n _ k1;refine xX (K:=K) (xs:=rs.map V.ref) (fun j zs H'=>Same H3 H'∧∃qs,zs=qs.map V.ref∧Lay H' qs (((pth n (kid t s')).take j).map fun p=>(s'::p).map scv)∧(∀q∈qs,H3 q=none)∧qs.Nodup) (by rw[mU,mJ];lia) ⟨Same.refl _,[],rfl,mN,fun _ h=>(nomatch h),sC⟩ (fun j zs H' _ h=>SqL.of (h.1 _ _ hb)) ?_ ?_
  ·rintro j y zs H' hy _ ⟨g4,qs,rfl,hLq,hq0,hqn⟩
   obtain⟨r,hr',rfl⟩:∃r,rs[j]? =some r∧y=V.ref r:=by
    rw[nI] at hy
    cases hc:rs[j]? with
    | none=>rw[hc] at hy;cases hy
    | some r=>rw[hc] at hy;exact⟨r,rfl,(mV hy).symm⟩
   obtain⟨wv,hw1,hw2⟩:=hLr.get hr';obtain⟨pp,hpp,rfl⟩:∃pp,(pth n (kid t s'))[j]? =some pp∧wv=pp.map scv:=by
    rw[nI] at hw1
    cases hc:(pth n (kid t s'))[j]? with
    | none=>rw[hc] at hw1;cases hw1
    | some pp=>rw[hc] at hw1;exact⟨pp,rfl,(mV hw1).symm⟩
   have hpl:=(zHn n _ pp (mQ hpp)).2;walk_at "rd3";intro p1 hp1;have g5:=zG hp1 (.lst [scv s']);refine⟨p1,r,[scv s'],pp.map scv,rfl,rfl,zE,g5 _ _ (g4 _ _ hw2),by rw[mU,mJ];simp only[mS,nX];lia,fun p2 hp2=>?_⟩;have g6:=g5.trans (zG hp2 (.lst ([scv s']++pp.map scv)));refine⟨g4.trans g6,qs++ [p2],by simp, ?_, ?_, ?_⟩
   ·rw[yB hpp,nA]
    exact Lay.append (show Lay _ [p2] [(s'::pp).map scv] from⟨zE,mN⟩) (hLq.same g6)
   ·intro q hq
    rcases nD.mp hq with z | z
    ·exact hq0 q z
    ·rw[mP.mp z]
     exact xA (g4.trans g5) hp2
   ·refine zBv hqn fun z=>?_
    obtain⟨o',ho'⟩:=(hLq.same g5).there z;rw[hp2] at ho';cases ho'
  ·rintro zs H' _ ⟨g4,qs,rfl,hLq,hq0,hqn⟩ L hL0
   rw[mJ,hlr,nQ] at hLq;have g5:=zG hL0 (.lst (qs.map V.ref));have G:=g3.trans (g4.trans g5);have hlps:=hL.length;have hlqs:=hLq.length;rw[mJ] at hlps hlqs;have hto:=zQf (n:=n) (t:=t) i;have haq:a0∉qs:=fun z=>by
    have:=hq0 _ z;rw[g3 _ _ ha] at this;cases this
   refine⟨a0,L,ps.map V.ref,qs.map V.ref,rfl,rfl,G _ _ ha,zE,by rw[mU,mJ,mJ];lia,⟨_,rfl⟩, ?_, ?_,ps++qs, ?_, ?_, ?_, ?_, ?_⟩
   ·exact(g.trans G).put haH _
   ·rw[zO hla];exact G _ _ hl2
   ·rw[zE,nA]
   ·rw[zMf hs',nA,pQ]
    refine Lay.away ?_ (Lay.append (hLq.same g5) (hL.same G));intro z;rcases nD.mp z with c | c
    ·exact hna c
    ·exact haq c
   ·intro p hp
    rcases nD.mp hp with c | c
    ·exact hfr p c
    ·exact xA (g.trans g3) (hq0 p c)
   ·refine bA.mpr ⟨hnd,hqn,fun a1 h1 b1 h2 e=>?_⟩
    subst e;obtain⟨o',ho'⟩:=hL.there h1;have:=hq0 _ h2;rw[g3 _ _ ho'] at this;cases this
   ·intro z
    rcases nD.mp z with c | c
    ·exact hna c
    ·exact haq c
 ·rintro σ H2 ⟨⟨o,rfl⟩,g,hl2,ps,ha,hL,hfr,hnd,hna⟩
  walk_at "rd3";rw[mJ,zPf] at hL;exact q a0 ps H2 g haH ha hL hfr hnd hna
theorem zPd(F:Fun K "spots" "spots" zDy f fd):FnOk P w K mg base CX0 2 f fd ["thing"] (uP 0):=by
 refine F.ok scSpots (by walk_at "ln") fun c A o s H vs Q E hr h=>?_;obtain⟨v,t,rfl,hv,hf,hd,_⟩:=h;exact absurd hd (sJ _)
theorem zFd(F:Fun K "spots" "spots" zDy f fd)(B:Bl2 mg)(Gs:Dn P w K mg base 1 "steps_from" ["thing"] zGq)(b:Binds K fd ["thing"] [])(kp:W.keepIn K (.ref f)=true)(m:mg "spots" =some (.ref f)):
  ∀n:Nat,FnOk P w K mg base CX0 (2+n) f fd ["thing"] (uP n)
 | 0=>zPd F
 | n+1=>zPj F B Gs ⟨_,_,zFd F B Gs b kp m n,b,kp,m⟩
end
mutual
theorem zMr:∀t:T,T.gx t→okT t=T.wn t∧T.md t=T.dep t∧T.mc t=T.sz t
 | .non,_=>⟨rfl,rfl,rfl⟩
 | .bl _,_=>⟨rfl,rfl,rfl⟩
 | .int i,h=>⟨mZ h,rfl,rfl⟩
 | .str x,h=>by
  refine⟨?_,rfl,rfl⟩;show(decide (x.length≤30)&& x.all fun c=>decide (c∈sgnL))=true;rw[mZ h.1,aO,nV];exact fun c hc=>mZ (h.2 c hc)
 | .tup _,h=>h.elim
 | .lst us,h=>by
  obtain⟨a,b,c⟩:=zLo us h;refine⟨?_, ?_, ?_⟩
  ·show(decide (us.length≤60)&& gZ us)=(decide (us.length≤60)&& T.wns us)
   rw[a]
  ·show 1+T.mds us=T.deps us+1
   lia
  ·show 1+T.mcs us=T.szs us+1
   lia
 | .dic ks us,h=>by
  obtain⟨a,b,c⟩:=zLo us h.2.2.2;refine⟨?_, ?_, ?_⟩
  ·show((decide (ks.length≤30)&& ks.all yJ)&& gZ us)=(decide (us.length≤30)&& T.wns us)
   rw[a,h.2.1,nV.mpr h.2.2.1,cI]
  ·show 1+T.mds us=T.deps us+1
   lia
  ·show 1+T.mcs us=T.szs us+1
   lia
theorem zLo:∀ts:List T,T.gxs ts→gZ ts=T.wns ts∧T.mds ts=T.deps ts∧T.mcs ts=T.szs ts
 | [],_=>⟨rfl,rfl,rfl⟩
 | t::ts,h=>by
  obtain⟨a,b,c⟩:=zMr t h.1;obtain⟨a',b',c'⟩:=zLo ts h.2;refine⟨?_, ?_, ?_⟩
  ·show(okT t && gZ ts)=(T.wn t && T.wns ts)
   rw[a,a']
  ·show max (T.md t) (T.mds ts)=max (T.dep t) (T.deps ts)
   rw[b,b']
  ·show T.mc t+T.mcs ts=T.sz t+T.szs ts
   rw[c,c']
end
theorem zAd{t:T}(h:T.gx t):T.isT t=wP t:=by
 obtain⟨a,b,c⟩:=zMr t h;unfold T.isT wP;rw[a,b,c];cases T.wn t<;>cases decide (T.dep t≤8)<;>cases decide (T.sz t≤200)<;>rfl
theorem zHs{k:List Nat}(h:yJ k=true):k.length≤1000:=by
 have:=vZ h
 lia
mutual
theorem zRd:∀t:T,T.gx t→T.gd t
 | .non,_=>mN
 | .bl _,_=>mN
 | .int _,_=>mN
 | .str _,h=>⟨nN h.1 (by decide),fun c hc=>.inl (h.2 c hc)⟩
 | .tup _,h=>h.elim
 | .lst us,h=>zGw us h
 | .dic ks us,h=>⟨h.1,h.2.1,fun k hk=>zHs (h.2.2.1 k hk),zGw us h.2.2.2⟩
theorem zGw:∀ts:List T,T.gxs ts→T.gds ts
 | [],_=>mN
 | t::ts,h=>⟨zRd t h.1,zGw ts h.2⟩
end
def okN:Key→Prop
 | .inl _=>True
 | .inr s=>yJ (ts s)=true
theorem uM{n:List Nat}:∀{ks:List (List Nat)}{us:List T},ks.length=us.length→n∈ks→yD n ks us∈us
 | [],_,_,h=>nomatch h
 | k::ks,[],h,_=>nomatch h
 | k::ks,u::us,h,hm=>by
  show(if k=n then u else yD n ks us)∈u::us
  by_cases e:k=n
  ·rw[mK e];exact mF
  ·rw[mI e]
   refine mH _ (uM (Nat.succ.inj h) ?_);rcases mG.mp hm with z | z
   ·exact absurd z.symm e
   ·exact z
theorem zWl{t u:T}{k:Key}(ht:T.gx t)(hs:zS t k=some u):T.gx u:=by
 rcases yZ hs with⟨us,i,rfl,rfl,h,_⟩|⟨ks,us,x,rfl,rfl,hx,rfl,_⟩
 ·exact T.gxs_mem ht (mQ h)
 ·exact T.gxs_mem ht.2.2.2 (uM ht.2.1 hx)
theorem zPk{ks:List (List Nat)}{us:List T}{n k:List Nat}{t:T}(h:k∈(xZ (ks,us) n t).1):k∈ks∨k=n:=by
 unfold xZ at h;split at h
 ·exact .inl h
 ·rcases nD.mp h with z | z
  ·exact .inl z
  ·exact .inr (mP.mp z)
theorem zKl{us:List T}{n:T}{i j:Nat}(ht:T.gxs us)(hn:T.gx n):T.gxs (us.take i++n::us.drop j):=T.gxs_of fun u hu=>by
 rcases nD.mp hu with z | z
 ·exact T.gxs_mem ht (sK z)
 ·rcases mG.mp z with z | z
  ·rw[z];exact hn
  ·exact T.gxs_mem ht (aB z)
theorem zXb{w:Wd}{t n:T}{k:Key}(ht:T.gx t)(hn:T.gx n)(hk:okN k):T.gx (zZ w t k n):=by
 cases t with
 | lst us=>
  cases k with
  | inr x=>cases w<;>exact ht
  | inl i=>
   cases w with
   | put=>exact zKl (i:=i.toNat) (j:=i.toNat+1) ht hn
   | ins=>exact zKl (i:=i.toNat) (j:=i.toNat) ht hn
   | tak=>exact T.gxs_of fun u hu=>(nD.mp hu).elim (fun z=>T.gxs_mem ht (sK z)) fun z=>T.gxs_mem ht (aB z)
 | dic ks us=>
  cases k with
  | inl i=>cases w<;>exact ht
  | inr x=>
   obtain⟨nd,hl,hn',hu⟩:=ht
   cases w with
   | put=>exact⟨gS nd,(zCk hl).1,fun k h=>(zPk h).elim (hn' k) (fun e=>by rw[e];exact hk),T.gxs_of fun u h=>(uJ h).elim (T.gxs_mem hu) (fun e=>e▸hn)⟩
   | ins=>exact⟨nd,hl,hn',hu⟩
   | tak=>exact⟨wQ nd,(kP hl).1,fun k h=>hn' k (dropN_mem.mp h).1,T.gxs_of fun u h=>T.gxs_mem hu (qY h)⟩
 | tup us=>exact ht.elim
 | non=>cases w<;>cases k<;>exact mN
 | bl b=>cases w<;>cases k<;>exact mN
 | int b=>cases w<;>cases k<;>exact ht
 | str b=>cases w<;>cases k<;>exact ht
theorem zFk{n:List Nat}{t:T}:∀{ks:List (List Nat)}{us:List T},ks.length=us.length→n∉ks→yF n t ks us=us
 | [],us,_,_=>by unfold yF;rfl
 | _::_,[],h,_=>nomatch h
 | a::ks,b::us,hl,hn=>by
  have ne:¬a=n:=fun z=>hn (by rw[z];exact mF);show(if a=n then t else b)::yF n t ks us=b::us;rw[mI ne,zFk (Nat.succ.inj hl) fun z=>hn (mH _ z)]
theorem T.gys_mem{t:T}:∀{ts:List T},T.gys ts→t∈ts→T.gy t
 | [],_,h=>nomatch h
 | u::ts,h,hm=>(mG.mp hm).elim (fun e=>e▸h.1) (T.gys_mem h.2)
mutual
theorem T.gy.wn:∀{t:T},T.gy t→T.wn t=true
 | .non,_=>rfl
 | .bl _,_=>rfl
 | .int _,_=>rfl
 | .str _,_=>rfl
 | .tup _,h=>h.elim
 | .lst us,h=>by
  show(decide (us.length≤60)&& T.wns us)=true;rw[mZ h.1,T.gys.wns (ts:=us) h.2];rfl
 | .dic ks us,h=>by
  show(decide (us.length≤30)&& T.wns us)=true;rw[mZ (by have:=h.2.1;have:=h.2.2.1;lia),T.gys.wns (ts:=us) h.2.2.2.2];rfl
theorem T.gys.wns:∀{ts:List T},T.gys ts→T.wns ts=true
 | [],_=>rfl
 | t::ts,h=>by
  show(T.wn t && T.wns ts)=true;rw[T.gy.wn (t:=t) h.1,T.gys.wns (ts:=ts) h.2];rfl
end
theorem zBw{t u:T}{k:Key}(ht:T.gy t)(hs:zS t k=some u):T.gy u:=by
 rcases yZ hs with⟨us,i,rfl,rfl,h,_⟩|⟨ks,us,x,rfl,rfl,hx,rfl,_⟩
 ·exact T.gys_mem ht.2 (mQ h)
 ·exact T.gys_mem ht.2.2.2.2 (uM ht.2.2.1 hx)
end K38
namespace K38
open PySem L2 PySem.W
seal L2.PSs L2.PS L2.PE L2.PT L2.PW L2.PA L2.PI L2.PG L2.PGs L2.PPs L2.PTs
theorem zSw{t u:T}{k:Key}(hf:T.few t)(h:zS t k=some u):T.few u∧T.dep u≤T.dep t∧T.sz u≤T.sz t:=by
 have key:∀us:List T,T.fews us→u∈us→T.few u∧T.dep u≤T.deps us+1∧T.sz u≤T.szs us+1:=fun us hf hm=>by
  have d1:=T.deps_le hm;have d2:=T.szs_le hm;exact⟨T.fews_mem hf hm,by lia,by lia⟩
 cases t with
 | lst us=>
  cases k with
  | inl i=>
   have h':us[i.toNat]? =some u:=h;exact key us hf.2 (mQ h')
  | inr x=>cases h
 | dic ks us=>
  cases k with
  | inl i=>cases h
  | inr x=>
   have h':(if ts x∈ks then some (yD (ts x) ks us) else none)=some u:=h
   by_cases hm:ts x∈ks
   ·rw[mK hm] at h'
    rw[←mV h'] at key⊢;exact key us hf.2.2.2 (wS hm hf.2.2.1)
   ·rw[mI hm] at h';cases h'
 | non=>cases h
 | bl b=>cases h
 | int b=>cases h
 | str b=>cases h
 | tup us=>cases h
theorem zVl:∀(ks:List Key)(t u:T),T.few t→u∈goT t ks→T.few u∧T.dep u≤T.dep t∧T.sz u≤T.sz t
 | [],t,u,hf,h=>by
  have e:u=t:=mP.mp h;rw[e];exact⟨hf,mD _,mD _⟩
 | k::ks,t,u,hf,h=>by
  have h':u∈(match zS t k with | none=>[t] | some u=>t::goT u ks):=h
  cases hs:zS t k with
  | none=>
   rw[hs] at h';have e:u=t:=mP.mp h';rw[e];exact⟨hf,mD _,mD _⟩
  | some t'=>
   rw[hs] at h';rcases mG.mp h' with z | z
   ·rw[z];exact⟨hf,mD _,mD _⟩
   ·obtain⟨a1,a2,a3⟩:=zSw hf hs
    obtain⟨b1,b2,b3⟩:=zVl ks t' u a1 z;exact⟨b1,by lia,by lia⟩
abbrev sTa:Stmt:=top 33
section
variable{P:Program}{w:World}{K:PySem.W.Frag}{mg:Str→Option Value}{base:Heap}{f:Addr}{fd:FuncData}{C:Addr}
theorem scTa:zP ["thing","path","stops"] ["thing","path"] (zH sTa):=by walk_at "sc"
structure Tp(H:Hp)(v:V)(t:T)(pa:Addr)(ks:List Key):Prop where
 v:Rep H v t
 few:T.few t
 dep:T.dep t≤8
 sz:T.sz t≤1000
 pa:H pa=some (.lst (ks.map kV))
 ok:∀k∈ks,okK k
 l8:ks.length≤8
theorem Tp.pure{H:Hp}{v:V}{t:T}{pa:Addr}{ks:List Key}(h:Tp H v t pa ks):T.pure t:=qC 8 t h.dep h.few
def lds(t:T)(ks:List Key):Prop:=ks.length<(goT t ks).length
instance (t:T) (ks:List Key):Decidable (lds t ks):=inferInstanceAs (Decidable (_<_))
def zQj:Sp:=fun vs H Q _=>∃(v:V)(t:T)(pa:Addr)(ks:List Key),vs= [v, .ref pa]∧Tp H v t pa ks∧lds t ks∧∀u v' H' D,(goT t ks).getLast? =some u→Same H H'→Sp1 H' v' u D→(∀b∈D,H b=none)→Q v' H'
theorem ok_ta(F:Fun K "thing_at" "thing_at" sTa f fd)(B:Bl mg)(Gstops_on:Dh P w K mg base 2 "stops_on" ["thing","path"] yAf)(Gcopied:Dh P w K mg base (1+10) "copied" ["thing"] (zPc 10)):FnOkH P w K mg base 12 f fd ["thing","path"] zQj:=by
 refine F.okh scTa (by walk_at "ln") fun c A o s H vs Q E hr h=>?_;obtain⟨v,t,pa,ks,rfl,hT,hl,q⟩:=h;have nd:=scTa.nd;have hl:ks.length<(goT t ks).length:=hl;refine⟨_,(zC (pS 2 nd (wV Gstops_on hr (by lia) rfl (zA (pv 0) (zA (pv 1) zB))))
  (zC (zR (zU vN (zM zY rfl B.len yH (zA (pv 2) zB)) (zM zY rfl B.len yH (zA (pv 1) zB)) (zQ _)) gE zL)
  (zF (zJ (wV Gcopied hr (by lia) rfl (zA (yE ix_list (pv 2) (wT xW zD) (fun _ _=>rfl)) zB)))))), ?_⟩
 walk_at "st";walk_at "rd3";have hz:=hT.sz;refine⟨v,t,pa,ks,rfl,hT.v,hT.pure,by lia,hT.pa,hT.ok,hT.l8,fun p xs H1 g1 hp1 hR=>?_⟩;have hxl:=hR.length;obtain⟨u,hu,hum⟩:=zDn t ks;obtain⟨fu,du,zu⟩:=zVl ks t u hT.few hum;obtain⟨x,hx,hxr⟩:=Reps.last hR hu;have hd:=hT.dep;refine⟨p,rfl,xs,SqL.of hp1,_,SqL.of (g1 _ _ hT.pa),iN (by rw[mJ];lia) (yK (SqL.of hp1) (uV hx) ⟨x,u,rfl,hxr,qC 8 u (by lia) fu,by lia,by lia,fun v' H2 D g2 hv2 hD=>q u v' H2 D hu (g1.trans g2) hv2 fun b hb=>xA g1 (hD b hb)⟩)⟩
end
end K38
namespace K38
open PySem L2
seal L2.PSs L2.PS L2.PE L2.PT L2.PW L2.PA L2.PI L2.PG L2.PGs L2.PPs L2.PTs
abbrev zTf:Stmt:=top 28
abbrev zLn:Stmt:=top 27
def xR(t:T):Bool:=zFe t || xL t
def vA(i:Int):List Nat:=ts (Str.ofString (toString i))
def qN:T→List Nat
 | .str x=>x
 | .int i=>91::(vA i++ [93])
 | _=>[]
def stC:T→List Nat
 | .str x=>46::x
 | .int i=>91::(vA i++ [93])
 | _=>[]
def qZ:List T→List Nat
 | []=>[46]
 | u::r=>qN u++(r.map stC).flatten
theorem yAh:∀n:Nat,n<60→1≤(vA n).length∧(vA n).length≤2∧∀c∈vA n,c∈qM:=by decide+kernel
theorem gB{i:Int}(h:xL (.int i)=true):1≤(vA i).length∧(vA i).length≤2∧∀c∈vA i,c∈qM:=by
 simp only[xL,pC] at h;have:=yAh i.toNat (by lia)
 rwa [Int.toNat_of_nonneg h.1] at this
theorem uB:Str.ofString "." =tx [46]:=by decide+kernel
theorem qO:Str.ofString "[" =tx [91]:=by decide+kernel
theorem uZ:Str.ofString "]" =tx [93]:=by decide+kernel
theorem zDa(i:Int):Str.ofString (toString i)=tx (vA i):=(kJ _).symm
theorem wO{t:T}(h:xR t=true):(∃x,t= .str x∧yJ x=true)∨∃i,t= .int i∧xL (.int i)=true:=by
 cases t with
 | str x=>exact .inl ⟨x,rfl,by simpa [xR,zFe,xL] using h⟩
 | int i=>exact .inr ⟨i,rfl,by simpa [xR,zFe,xL] using h⟩
 | _=>exact absurd h (by simp[xR,zFe,xL])
theorem zWu{t:T}(h:xR t=true):(stC t).length≤13:=by
 rcases wO h with⟨x,rfl,hx⟩|⟨i,rfl,hi⟩
 ·have:=vZ hx
  simp only[stC,mS];lia
 ·have:=gB hi
  simp only[stC,mS,mL,nX];lia
theorem zFa{i:Int}(h:xL (.int i)=true):i.natAbs.log2<1920:=by
 simp only[xL,pC] at h;have:i.natAbs.log2≤i.natAbs:=Nat.log2_le_self _
 lia
section
variable{P:Program}{w:World}{K:W.Frag}{mg:Str→Option Value}{base:Heap}{f:Addr}{fd:FuncData}
def zQx:Sp:=fun vs H Q _=>∃(v:V)(t:T),vs= [v]∧Rep H v t∧xR t=true∧∀H',Same H H'→Q (.str (tx (stC t))) H'
theorem scStep:zP ["step"] ["step"] (zH zTf):=by walk_at "sc"
theorem zWq(F:Fun K "step_text" "step_text" zTf f fd)(B:Bl mg):FnOk P w K mg base CX0 1 f fd ["step"] zQx:=by
 refine F.ok scStep (by walk_at "ln") fun c A o s H vs Q E hr h=>?_;obtain⟨v,t,rfl,hv,hs,q⟩:=h;have nd:=scStep.nd;refine⟨_,(zC (zR (zT (pI B.isinstance zI B.str vM (pv 0))) (zF (zJ (zK xI zV (pv 0)))) zL)
  (zF (zJ (zK xI (zK xI zV (yU jJ rfl B.str vM (zA (pv 0) zB))) zV)))), ?_⟩
 walk_at "st";walk_at "rd3";have q:=q _ (Same.refl _);rcases wO hs with⟨x,rfl,hx⟩|⟨i,rfl,hi⟩
 ·cases (show v=_ from hv)
  have:=vZ hx;refine⟨_,rfl,iP (show zN "str" "str" =true by decide+kernel) ⟨_,rfl, ?_, ?_⟩⟩
  ·rw[uB,yN,yN,nB];lia
  ·rw[uB,vD];exact q
 ·cases (show v=_ from hv)
  have:=gB hi;refine⟨_,rfl,iN (show¬zN "int" "str" =true by decide+kernel) ?_⟩;refine⟨i,rfl,zFa hi, ?_, ?_, ?_⟩
  ·rw[qO,zDa,yN,yN,nB];lia
  ·rw[qO,zDa,uZ,vD,yN,yN,mL,nB,nB];lia
  ·rw[qO,zDa,uZ,vD,vD]
   exact q
def zMp:Sp:=fun vs H Q _=>∃(a:Addr)(xs:List V)(us:List T),vs= [.ref a]∧H a=some (.lst xs)∧Reps H xs us∧us.length≤8∧(∀u∈us,xR u=true)∧∀H',Same H H'→Q (.str (tx (qZ us))) H'
theorem zHe:∀us:List T,((us.map fun u=>tx (stC u)).map ts).flatten=(us.map stC).flatten
 | []=>rfl
 | u::r=>by
  rw[mY,mY,pP,zHe r,xD];rfl
theorem zCi:∀us:List T,(∀u∈us,xR u=true)→(us.map stC).flatten.length≤us.length*13
 | [],_=>pB _
 | u::r,h=>by
  have h1:=zWu (h u mF);have h2:=zCi r fun v hv=>h v (mH _ hv);rw[mY,pP,mL,mS,Nat.succ_mul]
  lia
theorem zCu{u:T}{r:List T}(h:xR u=true):(∃x,u= .str x∧((u::r).map stC).flatten=46::qZ (u::r))∨((∃i,u= .int i)∧∃l,((u::r).map stC).flatten=91::l∧qZ (u::r)=91::l):=by
 rcases wO h with⟨x,rfl,hx⟩|⟨i,rfl,hi⟩
 ·exact .inl ⟨x,rfl,rfl⟩
 ·exact .inr ⟨⟨i,rfl⟩,_,rfl,rfl⟩
theorem scPText:zP ["path","text"] ["path"] (zH zLn):=by walk_at "sc"
theorem zQs(F:Fun K "path_text" "path_text" zLn f fd)(B:Bl mg)(Gstep_text:Dn P w K mg base 1 "step_text" ["step"] zQx):FnOk P w K mg base CX0 2 f fd ["path"] zMp:=by
 refine F.ok scPText (by walk_at "ln") fun c A o s H vs Q E hr h=>?_;obtain⟨a,xs,us,rfl,ha,hx,h8,hok,q⟩:=h;have nd:=scPText.nd;have hl:=hx.length;refine⟨_,(zC (zR (xC (zCo (pv 0) (fun _=>rfl))) (zF (zJ zV)) zL)
  (zC (pS 1 nd (uU tL cM cN zGz zV (zA (yV (own:=["step"]) (F:=[]) ⟨rfl,by walk_at "wu",by walk_at "wu",by walk_at "wu", .nil⟩ rfl (xU (pv 0)) (fun _ _ _ _=>zW (i:=0) (by show(xK ["step"] []).Nodup;decide+kernel) rfl (nO rfl)) (fun _ _ _ _=>yR) (fun _ _ _ _=>(pD Gstep_text hr (zA (pv 0) zB)))) zB)))
  (zF (zJ (zCh (zU xM (yE kF (pv 1) zD (fun _ _=>rfl)) zV (zQ _)) (xQ zCr (pv 1) (wC zD) wG) (pv 1)))))), ?_⟩
 walk_at "st";walk_at "rd3"
 cases us with
 | nil=>
  have hxs:xs= []:=sT hl;refine⟨false, .inl ⟨xs,SqL.of ha,by rw[hxs];rfl⟩,iP rfl ?_⟩;rw[uB];exact q _ (Same.refl _)
 | cons u r=>
  refine⟨true, .inl ⟨xs,SqL.of ha,by cases xs with | nil=>simp at hl | cons _ _=>rfl⟩,iN (by decide) ⟨rfl,⟨_,SqL.of ha⟩, ?_⟩⟩
  have hfl:=zCi _ hok;refine xX (K:=K) (xs:=xs) (fun i zs H2=>Same H H2∧zs=(((u::r).take i).map fun u=>tx (stC u)).map V.str) (by rw[mU];lia) ⟨Same.refl _,rfl⟩ (fun i zs H2 _ h=>SqL.of (h.1 _ _ ha)) ?_ ?_
  ·rintro i v zs H2 hv _ ⟨g,rfl⟩
   obtain⟨t,ht,hr'⟩:=hx.get hv;walk_at "rd3";refine⟨v,t,rfl,Rep.same g _ _ hr',hok t (mQ ht),fun H3 g3=>⟨g.trans g3, ?_⟩⟩;rw[yB ht,nA,nA];rfl
  ·rintro zs H2 _ ⟨g,rfl⟩ p hp
   rw[hl,nQ];have G:=g.trans (zG hp (.lst (((u::r).map fun u=>tx (stC u)).map V.str)));refine⟨p,(u::r).map fun u=>tx (stC u),by rw[zLv],rfl,SqL.of zE,by rw[zHe];lia, ?_⟩;rw[zHe];rcases zCu (r:=r) (hok u mF) with⟨x,rfl,e⟩|⟨_,l,e,e2⟩
   ·rw[e] at hfl⊢
    refine kT (by rw[mU,yN];lia) (c:=46) (by rw[xD];exact yM (j:=0) rfl) ⟨rfl,iP (by rw[uB]) ⟨_,rfl,by rw[mU,yN];lia, ?_⟩⟩;have:=zCt (tx (46::qZ (T.str x::r))) 1;rw[xD] at this;rw[show Txt.slice (tx (46::qZ (T.str x::r))) (some 1) none=tx (qZ (T.str x::r)) from this];exact q _ G
   ·rw[e] at hfl⊢
    refine kT (by rw[mU,yN];lia) (c:=91) (by rw[xD];exact yM (j:=0) rfl) ⟨rfl,iN (by rw[uB];decide+kernel) ?_⟩;rw[←e2];exact q _ G
abbrev zGi:Stmt:=top 31
abbrev zLs:Stmt:=top 30
abbrev zMm:Stmt:=top 29
structure Mp(mg:Str→Option Value):Prop where
 FIGURES:∃t,mg "FIGURES" =some (.str (Str.ofString "0123456789") t)
 MOST_STEPS:∃t,mg "MOST_STEPS" =some (.int 8 t)
theorem uH{x:List Nat}(h:yJ x=true):∀c∈x,c∈letL++qM:=by
 unfold yJ at h;simp only[nZ,nV,pC] at h;exact h.2
theorem zAt:∀c∈letL++qM,c≠46∧c≠91∧c≠93:=by decide+kernel
theorem zMv:∀c∈qM,c∈letL++qM:=fun c h=>nP _ h
theorem zQp{t:T}(h:xR t=true):(stC t).flatMap (rpl 91 [46,91])=46::qN t:=by
 rcases wO h with⟨x,rfl,hx⟩|⟨i,rfl,hi⟩
 ·show(46::x).flatMap (rpl 91 [46,91])=46::x
  rw[eE,jE fun z=>(zAt _ (uH hx _ z)).2.1 rfl]
  rfl
 ·show(91::(vA i++ [93])).flatMap (rpl 91 [46,91])=46::91::(vA i++ [93])
  rw[eE,sY,jE fun z=>(zAt _ (zMv _ ((gB hi).2.2 _ z))).2.1 rfl]
  rfl
theorem zCv:∀{r:List T},(∀u∈r,xR u=true)→(r.map stC).flatten.flatMap (rpl 91 [46,91])=(r.map fun t=>46::qN t).flatten
 | [],_=>rfl
 | t::r,h=>by
  rw[mY,pP,sY,zQp (h t mF),zCv fun u hu=>h u (mH _ hu)]
  rfl
theorem zHa:∀(u:T)(r:List T),qN u++(r.map fun t=>46::qN t).flatten=jn [46] ((u::r).map qN)
 | u,[]=>by simp[jn]
 | u,t::r=>by
  show qN u++((46::qN t)++(r.map fun t=>46::qN t).flatten)=qN u++ [46]++jn [46] ((t::r).map qN);rw[←zHa t r];simp
theorem zRt{x:List Nat}{r:List T}(hok:∀u∈T.str x::r,xR u=true):(qZ (.str x::r)).flatMap (rpl 91 [46,91])=jn [46] ((T.str x::r).map qN):=by
 have hx:yJ x=true:=by simpa [xR,zFe,xL] using hok _ mF
 show(x++(r.map stC).flatten).flatMap _=_;rw[sY,jE fun z=>(zAt _ (uH hx _ z)).2.1 rfl,zCv fun u hu=>hok u (mH _ hu)];exact zHa (.str x) r
theorem zPh{i:Int}{r:List T}(hok:∀u∈T.int i::r,xR u=true):(qZ (.int i::r)).flatMap (rpl 91 [46,91])=46::jn [46] ((T.int i::r).map qN):=by
 show(stC (.int i)++(r.map stC).flatten).flatMap _=_;rw[sY,zQp (hok _ mF),zCv fun u hu=>hok u (mH _ hu),←zHa]
 rfl
theorem zSa{t:T}(h:xR t=true):46∉qN t:=by
 rcases wO h with⟨x,rfl,hx⟩|⟨i,rfl,hi⟩
 ·exact fun z=>(zAt _ (uH hx _ z)).1 rfl
 ·intro z
  have z':46∈91::(vA i++ [93]):=z;simp only[mG,nD,tF,dN] at z';rcases z' with z | z | z
  ·cases z
  ·exact(zAt _ (zMv _ ((gB hi).2.2 _ z))).1 rfl
  ·cases z
theorem cut60:∀n:Nat,n<60→Txt.slice (tx (91::(vA n++ [93]))) (some 1) (some (-1))=tx (vA n):=by decide+kernel
theorem zZy{i:Int}(h:xL (.int i)=true):Txt.slice (tx (91::(vA i++ [93]))) (some 1) (some (-1))=tx (vA i):=by
 simp only[xL,pC] at h;have:=cut60 i.toNat (by lia)
 rwa [Int.toNat_of_nonneg h.1] at this
theorem zVm{i:Int}(h:xL (.int i)=true):intText? (tx (vA i))=some i:=by
 simp only[xL,pC] at h;rw[←zDa];exact W.KIN.num_reads h.1 (by lia)
theorem zVr(l:List Nat):yJ (91::l)=false:=by
 have h:decide (91∈letL)=false:=by decide+kernel
 show(decide (1≤(91::l).length)&& decide ((91::l).length≤12)&& decide (91∈letL)&& (91::l).all (fun c=>decide (c∈letL++qM)))=false;rw[h];simp
theorem xA{H H':Hp}(g:Same H H'){p:Addr}(h:H' p=none):H p=none:=by
 cases e:H p with
 | none=>rfl
 | some o=>rw[g _ _ e] at h;cases h
theorem zXz{us:List T}(hn:us≠ [])(hok:∀u∈us,xR u=true):∃c l,qZ us=c::l∧c≠46∧(c=91↔∃i r,us= .int i::r):=by
 cases us with
 | nil=>exact absurd rfl hn
 | cons u r=>
  rcases wO (hok u mF) with⟨x,rfl,hx⟩|⟨i,rfl,hi⟩
  ·cases x with
   | nil=>exact absurd hx (by decide)
   | cons c x=>
    have:=zAt _ (uH hx c mF);exact⟨c,x++(r.map stC).flatten,rfl,this.1,fun z=>absurd z this.2.1,fun⟨i,r',e⟩=>by cases e⟩
  ·exact⟨91,(vA i++ [93])++(r.map stC).flatten,rfl,by decide,fun _=>⟨i,r,rfl⟩,fun _=>rfl⟩
def zKc:Sp:=fun vs H Q _=>∃(i:Int),vs= [.str (tx (vA i))]∧xL (.int i)=true∧∀H',Same H H'→Q (.bl true) H'
theorem scWrites:zP ["figures"] ["figures"] (zH zGi):=by walk_at "sc"
theorem zPo(F:Fun K "writes_place" "writes_place" zGi f fd)(B:Bl mg)(M:Mp mg)(Gis_place:Dn P w K mg base 2 "is_place" ["thing"] uR):FnOk P w K mg base CX0 3 f fd ["figures"] zKc:=by
 refine F.ok scWrites (by walk_at "ln") fun c A o s H vs Q E hr h=>?_;obtain⟨i,rfl,hi,q⟩:=h;have nd:=scWrites.nd;obtain⟨l1,l2,l3⟩:=gB hi;have hlen:=yN (vA i);refine⟨_,(zC (zR (PW.pt (kL (xC (zIg vN vN zD (zM jS rfl B.len yH (zA (pv 0) zB)) zD)) (qJ (xC (zT (zM (wX rfl) rfl B.all jP (zA (yV (own:=["sign"]) (F:=[]) ⟨rfl,by walk_at "wu",by walk_at "wu",by walk_at "wu", .nil⟩ rfl (zLp (pv 0)) (fun _ _ _ _=>zW (i:=0) (by show(xK ["sign"] []).Nodup;decide+kernel) rfl (nO rfl)) (fun _ _ _ _=>yR) (fun _ _ _ _=>(yG zGc (pv 0) (zTn rfl M.FIGURES) (by with_unfolding_all rfl)))) zB))))))) (zF (zJ wA)) zL)
  (zF (zJ (xN (yG xM (pv 0) (yU jJ rfl B.str vM (zA (yU jK rfl B.int jL (zA (pv 0) zB)) zB)) (zQ _)) (xJ (pD Gis_place hr (zA (yU jK rfl B.int jL (zA (pv 0) zB)) zB))))))), ?_⟩
 walk_at "st";walk_at "rd3";refine⟨by lia,iP (by lia) (iN (by lia) ?_)⟩;refine zDq (fun j ys H'=>Same H H'∧ys=(((ts (tx (vA i))).take j).map fun c=>decide (c∈qM)).map V.bl) (by rw[mU,xD];lia) ⟨Same.refl _,rfl⟩ ?_ ?_
 ·rintro j d ys H' hd _ ⟨hS,rfl⟩
  walk_at "rd3";refine⟨d,rfl,hS, ?_⟩;have e:(ts (tx (vA i))).take (j+1)=(ts (tx (vA i))).take j++ [d]:=by rw[cC,hd];rfl
  rw[e,yCr];simp only[nA,mY,rT]
 ·rintro ys H' hl' ⟨hS,rfl⟩ p hp
  refine⟨p,rfl,_,SqL.of zE,iN ?_ ⟨i,zVm hi,by lia,zFa hi,iP (by rw[zDa]) ⟨i,zVm hi,by lia, .int i, .int i,rfl,rfl,fun H2 g2=>?_⟩⟩⟩
  ·rw[nQ,xD,eF,rW,nV]
   intro c hc;exact mZ (l3 c hc)
  ·rw[hi]
   exact q _ (hS.trans ((zG hp _).trans g2))
def zFx:Sp:=fun vs H Q _=>∃(u:T),vs= [.str (tx (qN u))]∧xR u=true∧∀H',Same H H'→Q (scv u) H'
theorem scRStep:zP ["part","figures"] ["part"] (zH zLs):=by walk_at "sc"
theorem zRu(F:Fun K "read_step" "read_step" zLs f fd)(B:Bl mg)(Gis_name:Dn P w K mg base 1 "is_name" ["thing"] zHt)(Gwrites_place:Dn P w K mg base 3 "writes_place" ["figures"] zKc):FnOk P w K mg base CX0 4 f fd ["part"] zFx:=by
 refine F.ok scRStep (by walk_at "ln") fun c A o s H vs Q E hr h=>?_;obtain⟨u,rfl,hu,q⟩:=h;have nd:=scRStep.nd;refine⟨_,(zC (zR (zT (pD Gis_name hr (zA (pv 0) zB))) (zF (zJ (pv 0))) zL)
  (zC (pS 1 nd (xQ zCr (pv 0) (wC zD) (wC (wT xW zD))))
  (zC (zR (PW.pt (kL (zU zEk (pv 0) (zK xI (zK xI zV (pv 1)) zV) (zQ _)) (qJ (xC (zT (pD Gwrites_place hr (zA (pv 1) zB))))))) gE zL)
  (zF (zJ (yU jK rfl B.int jL (zA (pv 1) zB))))))), ?_⟩
 walk_at "st";walk_at "rd3";rcases wO hu with⟨x,rfl,hx⟩|⟨i,rfl,hi⟩
 ·have hl:=vZ hx
  refine⟨_,"str",rfl,rfl,fun y e=>?_,fun H1 g1=>⟨true, ?_,iP rfl (q _ g1)⟩⟩
  ·have e':tx x=y:=V.str.inj e
   rw[←e',yN];lia
  ·show V.bl (yJ (ts (tx x)))=V.bl true
   rw[xD,hx]
 ·obtain⟨l1,l2,l3⟩:=gB hi
  refine⟨_,"str",rfl,rfl,fun y e=>?_,fun H1 g1=>⟨false, ?_,iN (by decide) ?_⟩⟩
  ·have e':tx (91::(vA i++ [93]))=y:=V.str.inj e
   rw[←e',yN,mS,mL,nB];lia
  ·show V.bl (yJ (ts (tx (91::(vA i++ [93])))))=V.bl false
   rw[xD,zVr]
  ·refine⟨_,rfl,by rw[mU,yN];show(91::(vA i++ [93])).length≤_;rw[mS,mL,nB];lia, ?_⟩
   rw[show Txt.slice (tx (qN (.int i))) (some 1) (some (-1))=tx (vA i) from zZy hi];refine⟨_,rfl,by rw[qO,yN,yN,nB];lia,by rw[qO,uZ,vD,yN,yN,mL,nB,nB];lia,false, ?_,iN (by decide) ⟨i,rfl,hi,fun H2 g2=>⟨true,rfl,iN (by decide) ⟨_,rfl,i,zVm hi,by rw[yN];lia,q _ (g1.trans g2)⟩⟩⟩⟩;rw[qO,uZ,vD,vD];exact mZ rfl
def zNc:Sp:=fun vs H Q _=>∃(us:List T),vs= [.str (tx (qZ us))]∧us.length≤8∧(∀u∈us,xR u=true)∧∀p H',Same H H'→H p=none→H' p=some (.lst (us.map scv))→Q (.ref p) H'
theorem scRPath:zP ["text","dotted","parts"] ["text"] (zH zMm):=by walk_at "sc"
theorem zQq(F:Fun K "read_path" "read_path" zMm f fd)(B:Bl mg)(M:Mp mg)(Gread_step:Dn P w K mg base 4 "read_step" ["part"] zFx):FnOk P w K mg base CX0 5 f fd ["text"] zNc:=by
 refine F.ok scRPath (by walk_at "ln") fun c A o s H vs Q E hr h=>?_;obtain⟨us,rfl,h8,hok,q⟩:=h;have nd:=scRPath.nd;refine⟨_,(zPy (pv 0) (yT zB) (zUs (i:=1) nd rfl (nO rfl) (zIy (i:=0) rfl (by first | exact nO rfl | exact cF (nO rfl)| exact cF (cF rfl)) (by decide+kernel) (by decide+kernel))
  (zC (pS 2 nd (zCh (zU xM (xQ zCr (pv 0) wG (wC zD)) zV (zQ _)) (uU tL PySem.F.slot_str_split PySem.F.type_str_split zIs (xQ zCr (pv 1) (wC zD) wG) (zA zV zB)) (uU tL PySem.F.slot_str_split PySem.F.type_str_split zIs (pv 1) (zA zV zB))))
  (zC (zR (zU jW (zM zY rfl B.len yH (zA (pv 2) zB)) (zBa rfl M.MOST_STEPS) (zQ _)) gE zL)
  (zF (zJ (yV (own:=["part"]) (F:=[]) ⟨rfl,by walk_at "wu",by walk_at "wu",by walk_at "wu", .nil⟩ rfl (xU (pv 2)) (fun _ _ _ _=>zW (i:=0) (by show(xK ["part"] []).Nodup;decide+kernel) rfl (nO rfl)) (fun _ _ _ _=>yR) (fun _ _ _ _=>(pD Gread_step hr (zA (pv 0) zB))))))))) (zQ _)), ?_⟩
 walk_at "st";walk_at "rd3";have fin:∀(σ:St) H1 l,Same H H1→H1 l=some (.lst ((us.map fun u=>tx (qN u)).map V.str))→∃p,V.ref l=V.ref p∧∃ys,SqL K H1 p ys∧if 8<(ys.length:Int) then False else∃a,V.ref l=V.ref a∧(∃xs,SqL K H1 a xs)∧
   wF [Str.ofString "part"] [] (wY 0) zAu (qV zFx [] E0 (zAy (zBh 0) zHx)) σ Q (Itl K a) H1:=by
  intro σ H1 l g hl;refine⟨l,rfl,_,SqL.of hl,iN (by rw[mJ,mJ];lia) ⟨l,rfl,⟨_,SqL.of hl⟩, ?_⟩⟩;refine xX (K:=K) (xs:=(us.map fun u=>tx (qN u)).map V.str) (fun i zs H2=>Same H1 H2∧zs=(us.take i).map scv) (by rw[mU,mJ,mJ];lia) ⟨Same.refl _,rfl⟩ (fun i zs H2 _ h=>SqL.of (h.1 _ _ hl)) ?_ ?_
  ·rintro i v zs H2 hv _ ⟨g2,rfl⟩
   obtain⟨t,ht,rfl⟩:∃t,us[i]? =some t∧v=V.str (tx (qN t)):=by
    rw[nI,nI] at hv
    cases hc:us[i]? with
    | none=>rw[hc] at hv;cases hv
    | some t=>rw[hc] at hv;exact⟨t,rfl,(mV hv).symm⟩
   walk_at "rd3";refine⟨t,rfl,hok t (mQ ht),fun H3 g3=>⟨g2.trans g3, ?_⟩⟩;rw[yB ht,nA];rfl
  ·rintro zs H2 _ ⟨g2,rfl⟩ p hp
   rw[mJ,mJ,nQ];exact q p _ ((g.trans g2).trans (zG hp _)) (xA (g.trans g2) hp) zE
 cases us with
 | nil=>
  refine iP (by rw[uB];rfl) fun p hp=>q p _ (zG hp _) hp zE
 | cons u r=>
  have hfl:=zCi _ hok;have hfx:(qZ (u::r)).length≤8*13+1:=by
   rcases zCu (r:=r) (hok u mF) with⟨x,rfl,e⟩|⟨_,l,e,e2⟩
   ·rw[e] at hfl;simp only[mS] at h8 hfl;lia
   ·rw[e2];rw[e] at hfl;simp only[mS] at h8 hfl⊢;lia
  have hsp:∀z:Str,ts z=jn [46] ((u::r).map qN)→Txt.split z (Str.ofString ".")=(u::r).map fun u=>tx (qN u):=fun z e=>by
   rw[show Str.ofString "." =⟨#[46]⟩ from by decide+kernel];refine zRe (by simp) ?_ ?_
   ·intro q' hq'
    obtain⟨t,ht,rfl⟩:=nM.mp hq';rw[xD];exact zSa (hok t ht)
   ·rw[e,pQ]
    congr 1
  have hdt:∀z,Txt.replace (tx (qZ (u::r))) (Str.ofString "[") (Str.ofString ".[")=z→ts z=(qZ (u::r)).flatMap (rpl 91 [46,91]):=fun z e=>by
   rw[←e,show Str.ofString "[" =⟨#[91]⟩ from by decide+kernel];have e3:ts (Str.ofString ".[")= [46,91]:=by decide+kernel
   exact(zMi _ _ 91).trans (by rw[xD];first | rw[e3] | rw[show(Str.ofString ".[").1.toList= [46,91] from e3])
  have hl1:=zIo (tx (qZ (u::r))) (Str.ofString "[") (Str.ofString ".[");have hl2:(Str.ofString ".[").length=2:=by decide+kernel
  rw[hl2,yN] at hl1;obtain⟨c,l,e1,c46,c91⟩:=zXz (tG u r) hok;refine iN (fun z=>?_) ⟨_,rfl,by rw[yN];lia,_,rfl,by rw[mU,yN];lia, ?_⟩
  ·rw[uB] at z
   have:=congrArg ts z;rw[xD,xD,e1] at this;exact c46 (List.cons.inj this).1
  have hs1:Txt.slice (tx (qZ (u::r))) none (some 1)=tx [c]:=by
   have:=zCd (tx (qZ (u::r))) 1;rw[xD,e1] at this;rw[e1];exact this
  rw[hs1];generalize Txt.replace (tx (qZ (u::r))) (Str.ofString "[") (Str.ofString ".[")=dd at hdt hl1⊢;have hdt:=hdt dd rfl;refine⟨rfl, ?_⟩;have hne1:(Str.ofString ".").length≠0:=by decide+kernel
  have hdl:dd.length≤1000:=by
   have e5:=yN (qZ (u::r));have e6:=kR dd;have e7:(ts dd).length≤(tx (qZ (u::r))).length+((tx (qZ (u::r))).length+1)*2:=hl1
   lia
  by_cases h91:c=91
  ·obtain⟨i,r',er⟩:=c91.mp h91
   obtain⟨rfl,rfl⟩:=List.cons.inj er;rw[zPh hok] at hdt;have hs2:Txt.slice dd (some 1) none=tx (jn [46] ((T.int i::r).map qN)):=by
    have:=zCt dd 1;rw[hdt] at this;exact this
   refine iP (by rw[h91,qO]) ⟨_,rfl,by rw[mU];lia,rfl,_,_,rfl,rfl,hne1, ?_,fun l' hl'=>?_⟩
   ·rw[hs2,yN]
    have:=congrArg List.length hdt;rw[mS] at this;have e4:(ts dd).length=dd.length:=(kR dd).symm
    lia
   ·rw[hs2,hsp _ (xD _)]
    exact fin _ _ l' (zG hl' _) zE
  ·cases u with
   | int i=>exact absurd (c91.mpr ⟨i,r,rfl⟩) h91
   | str x=>
    rw[zRt hok] at hdt;refine iN (fun z=>h91 ?_) ⟨rfl,_,_,rfl,rfl,hne1,by lia,fun l' hl'=>?_⟩
    ·rw[qO] at z
     have:=congrArg ts (V.str.inj z);rw[xD,xD] at this;exact(List.cons.inj this).1
    ·rw[hsp _ hdt]
     exact fin _ _ l' (zG hl' _) zE
   | _=>exact absurd (hok _ mF) (by simp[xR,zFe,xL])
end
def atT:List Key→T→Option T
 | [],t=>some t
 | k::ks,t=>(zS t k).bind (atT ks)
def doT(w:Wd)(n:T):List Key→T→Option T
 | [],_=>match w with
  | .put=>some n
  | _=>none
 | [k],t=>if vL w t k=true then some (zZ w t k n) else none
 | k::k'::ks,t=>match zS t k with
  | some s=>(doT w n (k'::ks) s).map fun r=>zZ .put t k r
  | none=>none
theorem zCq{w:Wd}{n:T}{k:Key}{ks:List Key}{t:T}(h:ks≠ []):doT w n (k::ks) t=match zS t k with
  | some s=>(doT w n ks s).map fun r=>zZ .put t k r
  | none=>none:=by
 cases ks with
 | nil=>exact absurd rfl h
 | cons k' ks=>rfl
theorem zIn{t:T}{k:Key}{st:List T}{ks:List Key}:∀(m:Nat)(r:T),bld (t::st) (k::ks) (m+1) r=zZ .put t k (bld st ks m r)
 | 0,r=>rfl
 | m+1,r=>by
  show bld (t::st) (k::ks) (m+1) (zZ .put (st.getD m .non) (ks.getD m (.inl 0)) r)=_;rw[zIn m]
  rfl
theorem gY{w:Wd}{n:T}:∀(ks:List Key)(t r:T),doT w n ks t=some r→chG w (fun s k=>zZ w s k n) t ks n= .inr r
 | [],t,r,h=>by
  cases w with
  | put=>exact congrArg Sum.inr (mV h)
  | ins=>cases h
  | tak=>cases h
 | [k],t,r,h=>by
  have h':(if vL w t k=true then some (zZ w t k n) else none)=some r:=h
  by_cases hc:vL w t k=true
  ·rw[mK hc] at h'
   have e:=mV h';subst e;show(if 1<1 then Sum.inl 0 else(if vL w t k=true then Sum.inr (zZ w t k n) else Sum.inl 0:Sum Nat T))=_;rw[mI (by decide),mK hc]
  ·rw[mI hc] at h';cases h'
 | k::k'::ks,t,r,h=>by
  rw[zCq (by simp)] at h
  cases hs:zS t k with
  | none=>rw[hs] at h;cases h
  | some s=>
   rw[hs] at h;obtain⟨r',hr',e⟩:=Option.map_eq_some_iff.mp h;subst e;have ih:=gY (k'::ks) s r' hr';have hgo:goT t (k::(k'::ks).dropLast)=t::goT s (k'::ks).dropLast:=by
    show(match zS t k with | none=>[t] | some u=>t::goT u (k'::ks).dropLast)=_
    rw[hs]
   unfold chG at ih⊢;obtain⟨kl,hkl⟩:∃kl,(k'::ks).getLast? =some kl:=⟨_,List.getLast?_eq_some_getLast (tG _ _)⟩;have hkl2:(k::k'::ks).getLast? =some kl:=by rw[cA];exact hkl
   rw[hkl] at ih;rw[hkl2];have hdl:(k::k'::ks).dropLast=k::(k'::ks).dropLast:=rfl;dsimp only at ih⊢;rw[hdl,hgo]
   by_cases c:(goT s (k'::ks).dropLast).length<(k'::ks).length
   ·rw[mK c] at ih;cases ih
   rw[mI c] at ih;rw[mS,mS (as:=k'::ks),mI (by lia)];obtain⟨sl,hsl,_⟩:=zDn s (k'::ks).dropLast;have hsl2:(t::goT s (k'::ks).dropLast).getLast? =some sl:=by
    cases hg:goT s (k'::ks).dropLast with
    | nil=>rw[hg] at hsl;cases hsl
    | cons a b=>rw[cA,←hg];exact hsl
   rw[hsl] at ih;rw[hsl2];dsimp only at ih⊢
   by_cases hc:vL w sl kl=true
   ·rw[mK hc] at ih⊢
    have e:=Sum.inr.inj ih;rw[show(k'::ks).length+1 - 1=((k'::ks).length - 1)+1 by rw[mS];lia,zIn,e]
   ·rw[mI hc] at ih;cases ih
def xO:List Key→T→T→T
 | [],n,_=>n
 | k::ks,n,t=>match zS t k with
  | some u=>zZ .put t k (xO ks n u)
  | none=>t
theorem wD{k:Key}{ks:List Key}{t u:T}(h:atT (k::ks) t=some u):∃s,zS t k=some s∧atT ks s=some u:=Option.bind_eq_some_iff.mp h
theorem zKr:∀(p q:List Key)(t:T),atT (p++q) t=(atT p t).bind (atT q)
 | [],_,_=>rfl
 | k::p,q,t=>by
  show(zS t k).bind (atT (p++q))=((zS t k).bind (atT p)).bind (atT q)
  cases zS t k with
  | none=>rfl
  | some s=>exact zKr p q s
theorem uL{p:List Key}{k:Key}{t s:T}(h:atT p t=some s):atT (p++ [k]) t=zS s k:=by
 rw[zKr,h];show(zS s k).bind (atT [])=_;cases zS s k<;>rfl
theorem zOi:∀(ks:List Key)(t u:T),atT ks t=some u→lds t ks∧(goT t ks).getLast? =some u
 | [],t,u,h=>by cases h;exact⟨Nat.zero_lt_one,rfl⟩
 | k::ks,t,u,h=>by
  obtain⟨s,hs,h⟩:=wD h;obtain⟨h1,h2⟩:=zOi ks s u h;have e:goT t (k::ks)=t::goT s ks:=by
   show(match zS t k with | none=>[t] | some u=>t::goT u ks)=_
   rw[hs]
  unfold lds at h1⊢;rw[e];refine⟨Nat.succ_lt_succ h1, ?_⟩
  cases hg:goT s ks with
  | nil=>rw[hg] at h2;cases h2
  | cons a b=>rw[cA,←hg];exact h2
theorem vB{k:Key}{ks:List Key}{n t s:T}(h:zS t k=some s):xO (k::ks) n t=zZ .put t k (xO ks n s):=by
 show(match zS t k with | some u=>zZ .put t k (xO ks n u)| none=>t)=_
 rw[h]
theorem zEo{n:List Nat}{a b:T}:∀(ks:List (List Nat))(us:List T),yF n a ks (yF n b ks us)=yF n a ks us
 | [],us=>by unfold yF;rfl
 | _::_,[]=>rfl
 | k::ks,u::us=>by
  show(if k=n then a else(if k=n then b else u))::yF n a ks (yF n b ks us)=(if k=n then a else u)::yF n a ks us;rw[zEo ks us]
  by_cases c:k=n
  ·rw[mK c,mK c]
  ·rw[mI c,mI c,mI c]
theorem zCf{n:List Nat}:∀{ks:List (List Nat)}{us:List T},ks.Nodup→ks.length=us.length→yF n (yD n ks us) ks us=us
 | [],us,_,_=>by unfold yF;rfl
 | _::_,[],_,h=>nomatch h
 | k::ks,u::us,nd,hl=>by
  rw[nW] at nd;have hl':ks.length=us.length:=Nat.succ.inj hl;show(if k=n then(if k=n then u else yD n ks us) else u)::yF n (if k=n then u else yD n ks us) ks us=u::us
  by_cases c:k=n
  ·rw[mK c,mK c,zFk hl' (by rw[←c];exact nd.1)]
  ·rw[mI c,mI c,zCf nd.2 hl']
section
variable{m:Nat}
theorem zBl{s u r:T}{k:Key}(hf:T.fewm m s)(hs:zS s k=some u):zS (zZ .put s k r) k=some r:=by
 rcases yZ hs with⟨us,i,rfl,rfl,h,e⟩|⟨ks,us,x,rfl,rfl,hm,rfl,e⟩
 ·rw[e]
  show(us.set i.toNat r)[i.toNat]? =some r;rw[tJ (nE.mp h).1]
 ·rw[e]
  show(if ts x∈ks then some (yD (ts x) ks (yF (ts x) r ks us)) else none)=some r;rw[mK hm,wN hf.2.2.1 hm,mK rfl]
theorem zXm{s u r x:T}{k:Key}(hf:T.fewm m s)(hs:zS s k=some u):zZ .put (zZ .put s k r) k x=zZ .put s k x:=by
 have h2:=zBl (r:=r) hf hs;rcases yZ hs with⟨us,i,rfl,rfl,h,e⟩|⟨ks,us,z,rfl,rfl,hm,rfl,e⟩
 ·rw[e,e x]
  rw[e] at h2;rcases yZ h2 with⟨us',i',e1,e2,_,e3⟩|⟨_,_,_,e1,_⟩
  ·cases e1;cases e2
   rw[e3,List.set_set]
  ·cases e1
 ·rw[e,e x]
  rw[e] at h2;rcases yZ h2 with⟨_,_,e1,_⟩|⟨ks',us',z',e1,e2,_,_,e3⟩
  ·cases e1
  ·cases e1;cases e2
   rw[e3,zEo]
theorem zQt{s u:T}{k:Key}(hf:T.fewm m s)(hs:zS s k=some u):zZ .put s k u=s:=by
 rcases yZ hs with⟨us,i,rfl,rfl,h,e⟩|⟨ks,us,z,rfl,rfl,hm,rfl,e⟩
 ·rw[e]
  congr 1
  refine List.ext_getElem? fun j=>?_;have hl:=(nE.mp h).1
  by_cases c:i.toNat=j
  ·subst c;rw[tJ hl,h]
  ·rw[sG c]
 ·rw[e,zCf hf.1 hf.2.2.1]
theorem zMh{s u r:T}{k j:Key}(hf:T.fewm m s)(hk:okK k)(hj:okK j)(hs:zS s k=some u)(ne:k≠j):zS (zZ .put s k r) j=zS s j:=by
 rcases yZ hs with⟨us,i,rfl,rfl,h,e⟩|⟨ks,us,z,rfl,rfl,hm,rfl,e⟩
 ·rw[e]
  cases j with
  | inr y=>rfl
  | inl b=>
   have h1:0≤i∧i≤59:=hk;have h2:0≤b∧b≤59:=hj;have h3:i≠b:=fun q=>ne (by rw[q]);show(us.set i.toNat r)[b.toNat]? =us[b.toNat]?;rw[sG (by lia)]
 ·rw[e]
  cases j with
  | inl b=>rfl
  | inr y=>
   have h3:ts y≠ts z:=fun q=>ne (by rw[←kJ z,←kJ y,q]);show(if ts y∈ks then some (yD (ts y) ks (yF (ts z) r ks us)) else none)=if ts y∈ks then some (yD (ts y) ks us) else none;rw[wN hf.2.2.1 hm,mI h3]
theorem zGm{n:T}:∀(p:List Key)(t u:T),T.fewm m t→atT p t=some u→atT p (xO p n t)=some n
 | [],_,_,_,_=>rfl
 | k::p,t,u,hf,h=>by
  obtain⟨s,hs,h⟩:=wD h;rw[vB hs];show(zS _ k).bind (atT p)=_;rw[zBl hf hs];exact zGm p s u (wH hf hs).1 h
theorem zBk{a b:T}:∀(p:List Key)(t u:T),T.fewm m t→atT p t=some u→xO p a (xO p b t)=xO p a t
 | [],_,_,_,_=>rfl
 | k::p,t,u,hf,h=>by
  obtain⟨s,hs,h⟩:=wD h;rw[vB hs,vB (zBl hf hs),vB hs,zXm hf hs,zBk p s u (wH hf hs).1 h]
theorem uY:∀(p:List Key)(t u:T),T.fewm m t→atT p t=some u→xO p u t=t
 | [],_,_,_,h=>by cases h;rfl
 | k::p,t,u,hf,h=>by
  obtain⟨s,hs,h⟩:=wD h;rw[vB hs,uY p s u (wH hf hs).1 h,zQt hf hs]
theorem zIh{n:T}:∀(p q:List Key)(t u:T),T.fewm m t→(∀k∈p,okK k)→(∀k∈q,okK k)→atT p t=some u→¬p<+:q→¬q<+:p→atT q (xO p n t)=atT q t
 | [],q,_,_,_,_,_,_,h,_=>absurd List.nil_prefix h
 | _::_,[],_,_,_,_,_,_,_,h=>absurd List.nil_prefix h
 | k::p,j::q,t,u,hf,hp,hq,h,n1,n2=>by
  obtain⟨s,hs,h⟩:=wD h;rw[vB hs]
  by_cases c:k=j
  ·subst c
   show(zS _ k).bind (atT q)=(zS t k).bind (atT q);rw[zBl hf hs,hs];exact zIh p q s u (wH hf hs).1 (fun k hk=>hp k (mH _ hk)) (fun k hk=>hq k (mH _ hk)) h (fun z=>n1 (List.cons_prefix_cons.mpr ⟨rfl,z⟩)) fun z=>n2 (List.cons_prefix_cons.mpr ⟨rfl,z⟩)
  ·show(zS _ j).bind (atT q)=(zS t j).bind (atT q)
   rw[zMh hf (hp k mF) (hq j mF) hs c]
theorem zCs{n:T}:∀(p:List Key)(t u:T),T.fewm m t→atT p t=some u→T.sz (xO p n t)+T.sz u=T.sz t+T.sz n
 | [],_,_,_,h=>by cases h;exact Nat.add_comm _ _
 | k::p,t,u,hf,h=>by
  obtain⟨s,hs,h⟩:=wD h;have h1:=zCs (n:=n) p s u (wH hf hs).1 h;have h2:=zGn (r:=xO p n s) hf hs;rw[vB hs]
  lia
theorem uC{n:T}(hn:T.fewm m n):∀(p:List Key)(t u:T),T.fewm m t→atT p t=some u→T.fewm m (xO p n t)∧T.dep (xO p n t)≤max (T.dep t) (p.length+T.dep n)
 | [],t,_,_,_=>⟨hn,by show T.dep n≤max (T.dep t) (0+T.dep n);lia⟩
 | k::p,t,u,hf,h=>by
  obtain⟨s,hs,h⟩:=wD h;obtain⟨h0,h1,_⟩:=wH hf hs;obtain⟨h2,h3⟩:=uC hn p s u h0 h;obtain⟨h4,h5⟩:=zUo hf hs h2;rw[vB hs];refine⟨h4, ?_⟩;rw[mS]
  lia
theorem zIb:∀(p:List Key)(t u:T),T.fewm m t→atT p t=some u→T.fewm m u∧T.dep u+p.length≤T.dep t∧T.sz u≤T.sz t
 | [],_,_,hf,h=>by cases h;exact⟨hf,mD _,mD _⟩
 | k::p,t,u,hf,h=>by
  obtain⟨s,hs,h⟩:=wD h;obtain⟨h0,h1,h2⟩:=wH hf hs;obtain⟨h3,h4,h5⟩:=zIb p s u h0 h;exact⟨h3,by rw[mS];lia,by lia⟩
end
theorem yBw{t u r:T}{k:Key}(ht:T.gx t)(hs:zS t k=some u)(hr:T.gx r):T.gx (zZ .put t k r):=by
 rcases yZ hs with⟨us,i,rfl,rfl,_,e⟩|⟨ks,us,x,rfl,rfl,hx,_,e⟩
 ·rw[e]
  exact T.gxs_of fun u hu=>(bM hu).elim (T.gxs_mem ht) (fun e=>e▸hr)
 ·rw[e]
  refine⟨ht.1,by rw[xE];exact ht.2.1,ht.2.2.1,T.gxs_of fun u hu=>?_⟩;have:u∈(xZ (ks,us) (ts x) r).2:=by unfold xZ;rw[mK hx];exact hu
  exact(uJ this).elim (T.gxs_mem ht.2.2.2) (fun e=>e▸hr)
theorem zKz{n:T}(hn:T.gx n):∀(p:List Key)(t u:T),T.gx t→atT p t=some u→T.gx (xO p n t)
 | [],_,_,_,_=>hn
 | k::p,t,u,ht,h=>by
  obtain⟨s,hs,h⟩:=wD h;rw[vB hs];exact yBw ht hs (zKz hn p s u (zWl ht hs) h)
theorem zJv:∀(p:List Key)(t u:T),T.gy t→atT p t=some u→T.gy u
 | [],_,_,ht,h=>by cases h;exact ht
 | k::p,t,u,ht,h=>by
  obtain⟨s,hs,h⟩:=wD h;exact zJv p s u (zBw ht hs) h
theorem wns_iff:∀{us:List T},T.wns us=true↔∀u∈us,T.wn u=true
 | []=>⟨fun _ _ h=>(nomatch h),fun _=>rfl⟩
 | t::us=>by
  have e:T.wns (t::us)=(T.wn t && T.wns us):=rfl;rw[e,nZ,wns_iff];exact⟨fun h u hu=>(mG.mp hu).elim (fun e=>e▸h.1) (h.2 u),fun h=>⟨h t mF,fun u hu=>h u (mH _ hu)⟩⟩
theorem yCd{t u r:T}{k:Key}(ht:T.gy t)(hs:zS t k=some u):T.wn (zZ .put t k r)=T.wn r:=by
 have key:∀(us vs:List T),T.gys us→(∀v∈vs,v∈us∨v=r)→r∈vs→T.wns vs=T.wn r:=fun us vs hu hv hr=>by
  rw[rD,wns_iff];exact⟨fun h=>h r hr,fun h v z=>(hv v z).elim (fun z=>(T.gys_mem hu z).wn) (fun z=>z▸h)⟩
 rcases yZ hs with⟨us,i,rfl,rfl,h,e⟩|⟨ks,us,x,rfl,rfl,hx,_,e⟩
 ·rw[e]
  show(decide ((us.set i.toNat r).length≤60)&& T.wns (us.set i.toNat r))=_;rw[bN,mZ ht.1,aO];exact key us _ ht.2 (fun v hv=>bM hv) (List.mem_set (nE.mp h).1 r)
 ·rw[e]
  show(decide ((yF (ts x) r ks us).length≤30)&& T.wns (yF (ts x) r ks us))=_;rw[xE,mZ (by have:=ht.2.1;have:=ht.2.2.1;lia),aO];refine key us _ ht.2.2.2.2 (fun v hv=>?_) ?_
  ·have:v∈(xZ (ks,us) (ts x) r).2:=by unfold xZ;rw[mK hx];exact hv
   exact uJ this
  ·have:=uM (n:=ts x) (ks:=ks) (us:=yF (ts x) r ks us) (by rw[xE];exact ht.2.2.1) hx
   rw[wN ht.2.2.1 hx,mK rfl] at this;exact this
theorem zKo{n:T}:∀(p:List Key)(t u:T),T.gy t→atT p t=some u→T.wn (xO p n t)=T.wn n
 | [],_,_,_,_=>rfl
 | k::p,t,u,ht,h=>by
  obtain⟨s,hs,h⟩:=wD h;rw[vB hs,yCd ht hs,zKo p s u (zBw ht hs) h]
theorem zBn{r:T}(h:T.gx r):T.isT r=true↔T.wn r=true∧T.dep r≤8∧T.sz r≤200:=by
 obtain⟨_,b,c⟩:=zMr r h;unfold T.isT;rw[b,c,nZ,nZ,rN,rN];exact⟨fun h=>⟨h.2.2,h.1,h.2.1⟩,fun h=>⟨h.2.1,h.2.2,h.1⟩⟩
theorem zDm{w:Wd}{n s:T}{k:Key}(hc:vL w s k=true):∀(p:List Key)(t:T),atT p t=some s→doT w n (p++ [k]) t=some (xO p (zZ w s k n) t)
 | [],t,h=>by cases h;exact mK hc
 | j::p,t,h=>by
  obtain⟨u,hs,h⟩:=wD h;rw[List.cons_append,zCq (by simp),hs];dsimp only;rw[zDm hc p u h,vB hs];rfl
theorem yCh{t u:T}{k:Key}(hs:zS t k=some u):vL .put t k=true:=by
 rcases yZ hs with⟨us,i,rfl,rfl,h,_⟩|⟨ks,us,x,rfl,rfl,hm,rfl,_⟩
 ·have hi:=(nE.mp h).1
  exact mZ (by lia)
 ·rfl
theorem zKn{n:T}:∀(p:List Key)(t u:T),atT p t=some u→doT .put n p t=some (xO p n t)
 | [],_,_,_=>rfl
 | [k],t,u,h=>by
  obtain⟨s,hs,_⟩:=wD h;rw[vB hs];exact mK (yCh hs)
 | k::k'::p,t,u,h=>by
  obtain⟨s,hs,h⟩:=wD h;rw[zCq (by simp),hs];dsimp only;rw[zKn (k'::p) s u h,vB hs];rfl
def jX:T→Key
 | .int i=>.inl i
 | .str k=>.inr (tx k)
 | _=>.inl 0
theorem zEn{t s:T}(ht:T.gy t)(hs:s∈yX t):scv s=kV (jX s)∧okK (jX s)∧xR s=true∧zS t (jX s)=some (kid t s):=by
 cases t with
 | lst us=>
  obtain⟨i,hi,rfl⟩:=nM.mp hs;have hl:=bC.mp hi;have h60:=ht.1;refine⟨rfl,(show 0≤(i:Int)∧(i:Int)≤59 by lia), ?_, ?_⟩
  ·show(false || decide (0≤(i:Int)∧(i:Int)<60))=true
   rw[Bool.false_or];exact mZ (by lia)
  ·show us[(i:Int).toNat]? =some (us.getD (i:Int).toNat .non)
   rw[nR,nS,nF hl];rfl
 | dic ks us=>
  obtain⟨k,hk,rfl⟩:=nM.mp hs;have hk:=mem_sortK.mp hk;refine⟨rfl,mN, ?_, ?_⟩
  ·show(yJ k || false)=true
   rw[ht.2.2.2.1 k hk];rfl
  ·show(if ts (tx k)∈ks then some (yD (ts (tx k)) ks us) else none)=some (yD k ks us)
   rw[xD,mK hk]
 | non=>cases hs
 | bl b=>cases hs
 | int b=>cases hs
 | str b=>cases hs
 | tup b=>cases hs
theorem zNy:∀(n:Nat)(t:T)(p:List T),T.gy t→p∈pth n t→(∃u,atT (p.map jX) t=some u)∧(∀s∈p,scv s=kV (jX s)∧okK (jX s)∧xR s=true)∧p.length≤T.dep t
 | 0,_,_,_,h=>nomatch h
 | n+1,t,p,ht,h=>by
  rcases zNv h with rfl |⟨s,r,rfl,hs,hr⟩
  ·exact⟨⟨t,rfl⟩,fun _ h=>(nomatch h),pB _⟩
  ·obtain⟨a1,a2,a3,a4⟩:=zEn ht hs
   obtain⟨⟨u,b1⟩,b2,b3⟩:=zNy n (kid t s) r (zBw ht a4) hr;have d:=(wH ht.few a4).2.1;refine⟨⟨u, ?_⟩,fun x hx=>?_,by rw[mS];lia⟩
   ·show(zS t (jX s)).bind (atT (r.map jX))=some u
    rw[a4];exact b1
   ·rcases mG.mp hx with z | z
    ·rw[z];exact⟨a1,a2,a3⟩
    ·exact b2 x z
theorem zHy{t:T}(ht:T.gy t):(yX t).Nodup:=by
 cases t with
 | lst us=>
  refine cE.mpr (List.nodup_range.imp fun {a b} h e=>h ?_);have:=T.int.inj e
  lia
 | dic ks us=>exact cE.mpr (((jG ks).nodup_iff.mpr ht.1).imp fun {a b} h e=>h (T.str.inj e))
 | non=>exact sC
 | bl b=>exact sC
 | int b=>exact sC
 | str b=>exact sC
 | tup b=>exact ht.elim
theorem zFp:∀(n:Nat)(t:T),T.gy t→(pth n t).Nodup
 | 0,_,_=>sC
 | n+1,t,ht=>by
  show([]::((yX t).map fun s=>(pth n (kid t s)).map (s:: ·)).flatten).Nodup;rw[nW];refine⟨fun h=>?_,List.pairwise_flatten.mpr ⟨fun l hl=>?_,cE.mpr ((zHy ht).imp fun {a b} ne x hx y hy e=>?_)⟩⟩
  ·obtain⟨l,h1,h2⟩:=List.mem_flatten.mp h
   obtain⟨s,_,rfl⟩:=nM.mp h1;obtain⟨r,_,e⟩:=nM.mp h2;cases e
  ·obtain⟨s,hs,rfl⟩:=nM.mp hl
   exact cE.mpr ((zFp n (kid t s) (zBw ht (zEn ht hs).2.2.2)).imp fun {a b} h e=>h (List.cons.inj e).2)
  ·obtain⟨r,_,e1⟩:=nM.mp hx
   obtain⟨r',_,e2⟩:=nM.mp hy;rw[←e1,←e2] at e;exact ne (List.cons.inj e).1
theorem kI:∀{p q:List Key},zAh (p.map kV) (q.map kV)=decide (p=q)
 | [],[]=>rfl
 | [],_::_=>rfl
 | _::_,[]=>rfl
 | a::p,b::q=>by
  have e:eqV (kV a) (kV b)=decide (a=b):=by
   cases a with
   | inl i=>
    cases b with
    | inl j=>
     show(i==j)=decide ((Sum.inl i:Key)=Sum.inl j);rw[rD,beq_iff_eq,rN];exact⟨fun h=>by rw[h],fun h=>Sum.inl.inj h⟩
    | inr y=>exact(nJ (fun z=>nomatch z)).symm
   | inr x=>
    cases b with
    | inl j=>exact(nJ (fun z=>nomatch z)).symm
    | inr y=>
     show(x==y)=decide ((Sum.inr x:Key)=Sum.inr y);rw[rD,beq_iff_eq,rN];exact⟨fun h=>by rw[h],fun h=>Sum.inr.inj h⟩
  show(eqV (kV a) (kV b)&& zAh (p.map kV) (q.map kV))=_;rw[e,kI (p:=p) (q:=q),rD,nZ,rN,rN,rN];exact⟨fun h=>by rw[h.1,h.2],fun h=>⟨(List.cons.inj h).1,(List.cons.inj h).2⟩⟩
theorem vJ(p:List Key):(p.map kV).all qR=true:=by
 rw[rW,nV];intro k _;cases k<;>rfl
theorem take_prefix{α:Type}{p q:List α}:q.take p.length=p↔p<+:q:=⟨fun h=>h▸List.take_prefix _ _,fun⟨r,h⟩=>by rw[←h,List.take_left'];rfl⟩
end K38
namespace K38
open PySem L2 PySem.W
seal L2.PSs L2.PS L2.PE L2.PT L2.PW L2.PA L2.PI L2.PG L2.PGs L2.PPs L2.PTs
def spN(sp:Sp):Sp:=fun vs H Q _=>sp vs H Q E0
theorem zTi{φ:Value→Prop}{P:Program}{w:World}{K:PySem.W.Frag}{mg:Str→Option Value}{base:Heap}{k:Nat}{f:Addr}{fd:FuncData}{ps:List Str}{sp:Sp}(F:FnOk P w K mg base (CXE φ P w) k f fd ps sp):FnOk P w K mg base CX0 k f fd ps (spN sp):=
 ⟨fun vs H Q E h=>F.len vs H Q E0 h,fun A outer s H args us vs Q E hr he hb hv hs=>sH (F.run A outer s H args us vs Q E0 hr he hb hv hs) fun r s' h=>by
  cases r with
  | error e=>
   obtain⟨x,T,C,d,a0,H',_,_,_,_,_,_,_,_,_,_,z⟩:=h;exact z
  | ok fl=>cases fl<;>exact h⟩
theorem zLy{φ:Value→Prop}{P:Program}{w:World}{K:PySem.W.Frag}{mg:Str→Option Value}{base:Heap}{k:Nat}{x:Str}{ps:List Str}{sp:Sp}(D:Dx φ P w K mg base k x ps sp):Dn P w K mg base k x ps (spN sp):=by
 obtain⟨f,fd,F,a,b,c⟩:=D.ex;exact⟨f,fd,zTi F,a,b,c⟩
structure Pt(t:T)(ks:List Key):Prop where
 at_:∃u,atT ks t=some u
 ok:∀k∈ks,okK k
 l:ks.length≤T.dep t
structure Ev(H:Hp)(v:V)(t:T)(vn:V)(n:T):Prop where
 v:Rep H v t
 gy:T.gy t
 dep:T.dep t≤8
 sz:T.sz t≤200
 vn:Rep H vn n
 gyn:T.gy n
 depn:T.dep n≤8
 szn:T.sz n≤200
theorem Ev.same{H H':Hp}{v:V}{t:T}{vn:V}{n:T}(h:Ev H v t vn n)(g:Same H H'):Ev H' v t vn n:=⟨Rep.same g _ _ h.v,h.gy,h.dep,h.sz,Rep.same g _ _ h.vn,h.gyn,h.depn,h.szn⟩
theorem qA{t:T}(h:T.gy t):T.few t:=T.fewm_few (by decide) _ h.few
theorem zVi{t:T}(h:T.gy t):T.okq t:=T.few_okq _ (qA h)
theorem gy_md{t:T}(h:T.gy t):T.md t=T.dep t∧T.mc t=T.sz t:=(zMr t h.gx).2
theorem gP{H:Hp}{v:V}{t u:T}{pa:Addr}{ks:List Key}{Q:VK}{E:XK}(hv:Rep H v t)(hg:T.few t)(hd:T.dep t≤8)(hz:T.sz t≤1000)(hpa:H pa=some (.lst (ks.map kV)))(hat:atT ks t=some u)(hok:∀k∈ks,okK k)(h8:ks.length≤8)
  (q:∀v' H',Same H H'→Rep H' v' u→Q v' H'):zQj [v, .ref pa] H Q E:=by
 obtain⟨h1,h2⟩:=zOi ks t u hat;refine⟨v,t,pa,ks,rfl,⟨hv,hg,hd,hz,hpa,hok,h8⟩,h1,fun u' v' H' D e g s _=>?_⟩;rw[h2] at e;cases e;exact q v' H' g (Sp1.rep _ _ _ s)
theorem vH{H:Hp}{v:V}{t:T}{Q:VK}{E:XK}(hv:Rep H v t)(hg:T.gy t)(hd:T.dep t≤8)(q:∀p H',Same H H'→H' p=some (.tup [.int (T.dep t:Nat), .int (T.sz t:Nat)])→Q (.ref p) H'):zGg 20 [v] H Q E:=by
 obtain⟨e1,e2⟩:=gy_md hg;refine⟨v,t,rfl,hv,zVi hg,by lia,fun p H' g h=>q p H' g ?_⟩;rw[e1,e2] at h;exact h
theorem wU{H:Hp}{v u:V}{t:T}{Q:VK}{E:XK}(hv:Rep H v t)(hu:Rep H u t)(hg:T.gy t)(hd:T.dep t≤8)(q:∀H',Same H H'→Q (.bl true) H'):vF 20 [v,u] H Q E:=
 ⟨v,u,t,t,rfl,hv,hu,Sm.refl 20 t (zVi hg) (by lia),q⟩
theorem zAm{t u n:T}{ks:List Key}(ht:T.gy t)(hd:T.dep t≤8)(hz:T.sz t≤200)(hat:atT ks t=some u)(hn:T.gx n)(hm:T.fewm 32 n)(hdn:T.dep n≤9)(hzn:T.sz n≤401):
  T.gd (xO ks n t)∧T.sz (xO ks n t)≤1000∧(wP (xO ks n t)=true→T.wn n=true∧T.dep (xO ks n t)≤8∧T.sz (xO ks n t)≤200)∧(wP (xO ks n t)=false→T.wn n=false∨8<ks.length+T.dep n∨200<T.sz (xO ks n t)):=by
 have hf:T.fewm 32 t:=T.fewm_mono (by decide) _ ht.few;have h1:=zCs (n:=n) ks t u hf hat;obtain⟨_,h2⟩:=uC hm ks t u hf hat;have h3:=zKz hn ks t u ht.gx hat;have h4:=zKo (n:=n) ks t u ht hat;refine⟨zRd _ h3,by lia,fun h=>?_,fun h=>?_⟩
 ·rw[←zAd h3,zBn h3,h4] at h
  exact h
 ·rw[←zAd h3] at h
  have h':¬(T.wn n=true∧T.dep (xO ks n t)≤8∧T.sz (xO ks n t)≤200):=fun z=>by
   rw[←h4,←zBn h3,h] at z;cases z
  by_cases c1:T.wn n=true
  ·by_cases c2:T.dep (xO ks n t)≤8
   ·exact .inr (.inr (by
     refine Nat.lt_of_not_le fun z=>h' ⟨c1,c2,z⟩))
   ·exact .inr (.inl (by lia))
  ·exact .inl (by simpa using c1)
abbrev yAy:Stmt:=top 68
section
variable{P:Program}{w:World}{K:PySem.W.Frag}{mg:Str→Option Value}{base:Heap}{f:Addr}{fd:FuncData}{C C2:Addr}
theorem scPth:zP ["_law_thing","_law_all_spots","_law_path","_law_new","_law_there","_law_changed","_law_many_here","_law_spot"] ["_law_thing","_law_all_spots","_law_path","_law_new"] (zH yAy):=by walk_at "sc"
def zYm:Sp:=fun vs H Q _=>∃(v:V)(t:T)(sa:Addr)(ps:List Addr)(pp:List (List Key))(pa:Addr)(ks:List Key)(vn:V)(n:T),vs= [v, .ref sa, .ref pa,vn]∧Ev H v t vn n∧H sa=some (.lst (ps.map V.ref))∧ps.length≤1000∧Lay H ps (pp.map (·.map kV))∧(∀p∈pp,Pt t p)∧H pa=some (.lst (ks.map kV))∧Pt t ks∧∀H',Same H H'→Q (.bl true) H'
theorem yBt(F:Fun K "_law_put_there" "_law_put_there" yAy f fd)(B:Bl mg)(hmTooGreat:mg "TooGreat" =some (.ref C2))(hx2:exmOne K (.ref C2) (.ref C2)=some true)(Gthing_at:Dn P w K mg base 12 "thing_at" ["thing","path"] zQj)
  (G_law_manyh:Dh P w K mg base (1+20) "_law_many" ["_law_thing"] (zGg 20)) (Gputx:Dx nC P w K mg base 23 "put" ["thing","path","new"] (zNz C C2)) (Gput:Dn P w K mg base 23 "put" ["thing","path","new"] (spN (zNz C C2)))
  (G_law_is_thing:Dn P w K mg base 22 "_law_is_thing" ["_law_thing"] spLt) (G_law_alike:Dn P w K mg base (2+20) "_law_alike" ["_law_found","_law_due"] (vF 20)):FnOk P w K mg base CX0 24 f fd ["_law_thing","_law_all_spots","_law_path","_law_new"] zYm:=by
 refine F.ok scPth (by walk_at "ln") fun c A o s H vs Q E hr h=>?_;obtain⟨v,t,sa,ps,pp,pa,ks,vn,n,rfl,ev,hsa,hpl,hL,hpp,hpa,hks,q⟩:=h;have nd:=scPth.nd;have hu:=jC hr;have hu0:=hr.units0;refine⟨_,(zC (pS 4 nd (pD Gthing_at hr (zA (pv 0) (zA (pv 2) zB))))
  (zC (zGd (zKq rfl rfl hmTooGreat rfl rfl rfl (fun _ _ _ _ hpa=>(zCm (i:=5) nd rfl (nO rfl) (zMe Gputx hr (by lia) rfl hpa (zA (pv 0) (zA (pv 2) (zA (pv 3) zB)))))) (fun _ h=>h) (fun _ _ hhc=>(zC (pS 6 nd (zK yP (zK vC (yE (wL (K:=K) rfl) (wV G_law_manyh hr.h (by lia) rfl (zA (pv 0) zB)) zD (fun _ _=>rfl)) (yE (wL (K:=K) rfl) (wV G_law_manyh hr.h (by lia) rfl (zA (pv 4) zB)) zD (fun _ _=>rfl))) (yE (wL (K:=K) rfl) (wV G_law_manyh hr.h (by lia) rfl (zA (pv 3) zB)) zD (fun _ _=>rfl))))
  (zF (zJ (zEs (yG jW (pv 6) zD (zQ _)) (xJ (yG jW (zK yP (zM (qQ (K:=K) rfl) rfl B.len yH (zA (pv 2) zB)) (yE (wL (K:=K) rfl) (wV G_law_manyh hr.h (by lia) rfl (zA (pv 3) zB)) zD (fun _ _=>rfl))) zD (zQ _))))))))))
  (zC (zR (PW.pt (kL (xC (zT (pD G_law_is_thing hr (zA (pv 5) zB)))) (qJ (xC (zT (pD G_law_alike hr (zA (pD Gthing_at hr (zA (pv 5) (zA (pv 2) zB))) (zA (pv 3) zB)))))))) (zF (zJ wA)) zL)
  (zC (qD PassesOwn.never rfl (xU (pv 1)) (zW (i:=7) nd rfl (nO rfl)) (zF (zR (PW.pt (zKv (zU (zBp hu0) (xQ vS (pv 7) wG (wC (zM zY rfl B.len yH (zA (pv 2) zB)))) (pv 2) (zQ _)) (zGv (zU (zBp hu0) (xQ vS (pv 2) wG (wC (zM zY rfl B.len yH (zA (pv 7) zB)))) (pv 7) (zQ _))))) (zF (zR (xC (zT (pD G_law_alike hr (zA (pD Gthing_at hr (zA (pv 5) (zA (pv 7) zB))) (zA (pD Gthing_at hr (zA (pv 0) (zA (pv 7) zB))) zB))))) (zF (zJ wA)) zL)) zL)))
  (zF (zJ (pD G_law_alike hr (zA (pD Gput hr (zA (pv 5) (zA (pv 2) (zA (pv 4) zB)))) (zA (pv 0) zB))))))))), ?_⟩
 walk_at "st";unfold zSf zWa zPa;walk_at "rd3";obtain⟨u,hat⟩:=hks.at_;have h8:ks.length≤8:=nN hks.l ev.dep;have hf:=ev.gy.few;have gyu:=zJv ks t u ev.gy hat;obtain⟨_,hud,huz⟩:=zIb ks t u hf hat;have hd:=ev.dep;have hz:=ev.sz;have hdn:=ev.depn;have hzn:=ev.szn;have hzs:=zCs (n:=n) ks t u hf hat;obtain⟨s1,s2,s3,s4⟩:=zAm ev.gy ev.dep ev.sz hat ev.gyn.gx (T.fewm_mono (by decide) _ ev.gyn.few) (by lia) (by lia);have hch:=gY ks t _ (zKn (n:=n) ks t u hat);refine gP ev.v (qA ev.gy) hd (by lia) hpa hat hks.ok h8 fun vu H1 g1 hvu=>?_;refine⟨fun σ' H'=>∃vc,σ'= [some v,some (.ref sa),some (.ref pa),some vn,some vu,some vc,none,none]∧Same H H'∧Rep H' vc (xO ks n t)∧Rep H' vu u∧T.dep (xO ks n t)≤8∧T.sz (xO ks n t)≤200,⟨v,t,pa,ks,vn,n,31,rfl,⟨Rep.same g1 _ _ ev.v,hf,by decide,by lia,g1 _ _ hpa,hks.ok,h8⟩,Rep.same g1 _ _ ev.vn,⟨ev.gyn.few,by lia,hdn,by lia⟩,fun r hr'=>?_,fun j hj=>?_⟩, ?_⟩
 ·rw[hch] at hr'
  cases hr';refine⟨s1,s2,fun ht v' H2 D g2 hv2 _=>?_,fun ht H2 g2=>?_⟩
  ·obtain⟨_,t2,t3⟩:=s3 ht
   exact⟨v',rfl,g1.trans g2,Sp1.rep _ _ _ hv2,Rep.same g2 _ _ hvu,t2,t3⟩
  ·have e2:=ev.same (g1.trans g2)
   refine⟨C2,rfl,hx2,vH e2.v e2.gy hd fun p3 H3 g3 h3=>wM (SqT.of h3) (yM (j:=1) rfl) ?_⟩;refine vH (Rep.same (g2.trans g3) _ _ hvu) gyu (by lia) fun p4 H4 g4 h4=>wM (SqT.of h4) (yM (j:=1) rfl) ⟨_,rfl,_,rfl, ?_⟩;have e4:=e2.same (g3.trans g4);refine vH e4.vn e4.gyn hdn fun p5 H5 g5 h5=>wM (SqT.of h5) (yM (j:=1) rfl) ⟨_,rfl, ?_⟩;have gA:=(g1.trans g2).trans ((g3.trans g4).trans g5)
   by_cases c:200<((T.sz t:Nat):Int)- ((T.sz u:Nat):Int)+((T.sz n:Nat):Int)
   ·exact iP c (q _ gA)
   ·refine iN c ⟨_,SqL.of (gA _ _ hpa), ?_⟩
    refine vH (Rep.same g5 _ _ e4.vn) e4.gyn hdn fun p6 H6 g6 h6=>wM (SqT.of h6) (yM (j:=0) rfl) ⟨_,rfl, ?_⟩;have:(8:Int)<((ks.map kV).length:Nat)+((T.dep n:Nat):Int):=by
     rw[mJ];rcases s4 ht with z | z | z
     ·rw[ev.gyn.wn] at z;cases z
     ·lia
     ·lia
    rw[mZ this];exact q _ (gA.trans g6)
 ·rw[hch] at hj;cases hj
 ·rintro σ' H2 ⟨vc,rfl,g2,hvc,hvu2,hdr,hzr⟩
  walk_at "rd3";have fr:=(uC ev.gyn.few ks t u hf hat).1;have okr:T.okq (xO ks n t):=T.few_okq _ (T.fewm_few (by decide) _ fr);have gxr:=zKz ev.gyn.gx ks t u ev.gy.gx hat;have e2:=ev.same g2;have hatr:=zGm (n:=n) ks t u hf hat;have fewr:=T.fewm_few (m:=31) (by decide) _ fr;refine⟨vc,xO ks n t,rfl,hvc,okr,by lia,fun H3 g3=>?_⟩;have h3:T.isT (xO ks n t)=true:=(zBn gxr).mpr ⟨by rw[zKo ks t u ev.gy hat];exact ev.gyn.wn,hdr,hzr⟩;rw[h3];refine⟨true,rfl,iN (by decide) ?_⟩;have g23:=g2.trans g3;refine gP (Rep.same g3 _ _ hvc) fewr hdr (by lia) (g23 _ _ hpa) hatr hks.ok h8 fun v4 H4 g4 h4=>?_;have g24:=g23.trans g4;refine wU h4 (Rep.same g24 _ _ ev.vn) ev.gyn ev.depn fun H5 g5=>⟨true,rfl,iN (by decide) ⟨⟨_,SqL.of (g24.trans g5 _ _ hsa)⟩, ?_⟩⟩;have g25:=g24.trans g5;refine jD (K:=K) (a:=sa) (xs:=ps.map V.ref) (fun i σ' H'=>(∃o,σ'= [some v,some (.ref sa),some (.ref pa),some vn,some vu,some vc,none,o])∧Same H5 H') ⟨⟨none,rfl⟩,Same.refl _⟩ (fun i σ' H' _ h=>SqL.of (g25.trans h.2 _ _ hsa)) ?_ ?_
  ·rintro i x σ' H6 hx ⟨⟨o,rfl⟩,g6⟩
   have g26:=g25.trans g6;obtain⟨pi,hpi,rfl⟩:∃pi,ps[i]? =some pi∧x=V.ref pi:=by
    rw[nI] at hx
    cases hc:ps[i]? with
    | none=>rw[hc] at hx;cases hx
    | some y=>rw[hc] at hx;exact⟨y,rfl,(mV hx).symm⟩
   obtain⟨w',hw,hpw⟩:=(Lay.same g26 hL).get hpi;obtain⟨js,hjs,rfl⟩:∃js,pp[i]? =some js∧w'=js.map kV:=by
    rw[nI] at hw
    cases hc:pp[i]? with
    | none=>rw[hc] at hw;cases hw
    | some y=>rw[hc] at hw;exact⟨y,rfl,(mV hw).symm⟩
   have hj:=hpp js (mQ hjs);obtain⟨y,hy⟩:=hj.at_;have j8:js.length≤8:=nN hj.l ev.dep;walk_at "rd3";refine⟨_,SqL.of (g26 _ _ hpa),_,_,rfl,SqL.of hpw,fun p7 hp7=>?_⟩;have g7:=zG hp7 (.lst (jU (js.map kV) none (some ((ks.map kV).length:Nat))));have g27:=g26.trans g7;have c1:jU (js.map kV) none (some (((ks.map kV).length:Nat):Int))=(js.take ks.length).map kV:=by
    rw[zDp _ (by lia),nR,mJ,dY]
   rw[c1] at g7 g27⊢;refine⟨_,_,_,_,rfl,rfl,SqL.of zE,SqL.of (g27 _ _ hpa),vJ _,vJ _,_,rfl, ?_⟩;generalize upd H6 p7 (.lst ((js.take ks.length).map kV))=H7 at g7 g27⊢;rw[mK rfl,kI]
   by_cases c:js.take ks.length=ks
   ·rw[mZ c]
    exact iN (by decide) ⟨⟨_,rfl⟩,g6.trans g7⟩
   rw[nJ c];refine iP rfl ⟨_,SqL.of (g7 _ _ hpw),_,_,rfl,SqL.of (g27 _ _ hpa),fun p8 hp8=>?_⟩;have c2:jU (ks.map kV) none (some (((js.map kV).length:Nat):Int))=(ks.take js.length).map kV:=by
    rw[zDp _ (by lia),nR,mJ,dY]
   rw[c2];have g8:=zG hp8 (.lst ((ks.take js.length).map kV));refine⟨_,_,_,_,rfl,rfl,SqL.of zE,SqL.of (g8 _ _ (g7 _ _ hpw)),vJ _,vJ _,_,rfl, ?_⟩;generalize upd H7 p8 (.lst ((ks.take js.length).map kV))=H8 at g8⊢;have g28:=g27.trans g8;rw[mK rfl,kI]
   by_cases d:ks.take js.length=js
   ·rw[mZ d]
    exact iN (by decide) ⟨⟨_,rfl⟩,g6.trans (g7.trans g8)⟩
   rw[nJ d];have hoth:=zIh (n:=n) ks js t u hf hks.ok hj.ok hat (fun z=>c (take_prefix.mpr z)) fun z=>d (take_prefix.mpr z);rw[hy] at hoth;have gr:=g3.trans (g4.trans (g5.trans (g6.trans (g7.trans g8))));refine iP rfl ?_;refine gP (Rep.same gr _ _ hvc) fewr hdr (by lia) (g8 _ _ (g7 _ _ hpw)) hoth hj.ok j8 fun v9 H9 g9 h9=>?_;refine gP (Rep.same (g28.trans g9) _ _ ev.v) (qA ev.gy) ev.dep (by lia) (g9 _ _ (g8 _ _ (g7 _ _ hpw))) hy hj.ok j8 fun v10 H10 g10 h10=>?_;have gyy:=zJv js t y ev.gy hy;have hyd:=(zIb js t y hf hy).2.1;exact wU (Rep.same g10 _ _ h9) h10 gyy (by lia) fun H11 g11=>⟨true,rfl,iN (by decide) ⟨⟨_,rfl⟩,g6.trans (g7.trans (g8.trans (g9.trans (g10.trans g11))))⟩⟩
  ·rintro σ' H6 ⟨⟨o,rfl⟩,g6⟩
   have g26:=g25.trans g6;have gr:=g3.trans (g4.trans (g5.trans g6));walk_at "rd3";have hch2:chG .put (fun s k=>zZ .put s k u) (xO ks n t) ks u= .inr t:=by
    rw[gY ks _ _ (zKn (n:=u) ks (xO ks n t) n hatr),zBk ks t u hf hat,uY ks t u hf hat]
   have ht:wP t=true:=by
    rw[←zAd ev.gy.gx,zBn ev.gy.gx];exact⟨ev.gy.wn,ev.dep,ev.sz⟩
   refine⟨vc,xO ks n t,pa,ks,vu,u,31,rfl,⟨Rep.same gr _ _ hvc,fr,by decide,by lia,g26 _ _ hpa,hks.ok,h8⟩,Rep.same gr _ _ hvu2,⟨gyu.few,by lia,by lia,by lia⟩,fun r hr'=>?_,fun j hj=>?_⟩
   ·rw[hch2] at hr'
    cases hr';refine⟨zRd _ ev.gy.gx,by lia,fun _ v' H7 D g7 hv7 _=>?_,fun z=>by rw[ht] at z;cases z⟩;exact wU (Sp1.rep _ _ _ hv7) (Rep.same (g26.trans g7) _ _ ev.v) ev.gy ev.dep fun H8 g8=>q _ (g26.trans (g7.trans g8))
   ·rw[hch2] at hj;cases hj
end
end K38
namespace K38
open PySem L2 PySem.W
seal L2.PSs L2.PS L2.PE L2.PT L2.PW L2.PA L2.PI L2.PG L2.PGs L2.PPs L2.PTs
abbrev sSi:Stmt:=top 69
abbrev zAo(us:List T)(i:Nat)(n:T):T:=.lst (us.take i++n::us.drop i)
theorem zRf{us:List T}{i:Nat}{n:T}(h:i≤us.length):(us.take i++n::us.drop i)[i]? =some n:=by
 rw[nY (by rw[nU];lia),nU,show i - min i us.length=0 by lia];rfl
theorem zLd{us:List T}{i j:Nat}{n:T}(h:i≤us.length)(hj:i≤j):(us.take i++n::us.drop i)[j+1]? =us[j]?:=by
 rw[nY (by rw[nU];lia),nU,show j+1 - min i us.length=(j - i)+1 by lia,bX,List.getElem?_drop,show i+(j - i)=j by lia]
theorem zVj{us:List T}{i:Nat}{n:T}(h:i≤us.length):(us.take i++n::us.drop i).take i++(us.take i++n::us.drop i).drop (i+1)=us:=by
 rw[List.take_left' (by rw[nU];lia),List.drop_append,nU,show i+1 - min i us.length=1 by lia,rV (by rw[nU];lia)];show us.take i++([]++us.drop i)=us;rw[aT,tU]
section
variable{P:Program}{w:World}{K:PySem.W.Frag}{mg:Str→Option Value}{base:Heap}{f:Addr}{fd:FuncData}{C C2:Addr}
theorem scSi:zP ["_law_thing","_law_path","_law_new","_law_above","_law_longer","_law_k"] ["_law_thing","_law_path","_law_new"] (zH sSi):=by walk_at "sc"
def spSi:Sp:=fun vs H Q _=>∃(v:V)(t:T)(pa:Addr)(p:List Key)(k:Key)(vn:V)(n:T),vs= [v, .ref pa,vn]∧Ev H v t vn n∧H pa=some (.lst ((p++ [k]).map kV))∧Pt t (p++ [k])∧∀H',Same H H'→Q (.bl true) H'
theorem ok_si(F:Fun K "_law_set_in" "_law_set_in" sSi f fd)(B:Bl mg)(hmTooGreat:mg "TooGreat" =some (.ref C2))(hx2:exmOne K (.ref C2) (.ref C2)=some true)(Gthing_at:Dn P w K mg base 12 "thing_at" ["thing","path"] zQj)
  (G_law_manyh:Dh P w K mg base (1+20) "_law_many" ["_law_thing"] (zGg 20)) (Ginsertedx:Dx nC P w K mg base 23 "inserted" ["thing","path","new"] (zYs C C2)) (Gtaken:Dn P w K mg base 23 "taken" ["thing","path"] (spN (zUe C)))
  (G_law_alike:Dn P w K mg base (2+20) "_law_alike" ["_law_found","_law_due"] (vF 20)):FnOk P w K mg base CX0 24 f fd ["_law_thing","_law_path","_law_new"] spSi:=by
 refine F.ok scSi (by walk_at "ln") fun c A o s H vs Q E hr h=>?_;obtain⟨v,t,pa,p,k,vn,n,rfl,ev,hpa,hks,q⟩:=h;have nd:=scSi.nd;have hu:=jC hr;have hu0:=hr.units0;refine⟨_,(zC (pS 3 nd (pD Gthing_at hr (zA (pv 0) (zA (xQ vS (pv 1) wG (wC (wT xW zD))) zB))))
  (zC (zR (xC (zT (pI B.isinstance zI B.list xT (pv 3)))) (zF (zJ wA)) zL)
  (zC (zGd (zKq rfl rfl hmTooGreat rfl rfl rfl (fun _ _ _ _ hpa=>(zCm (i:=4) nd rfl (nO rfl) (zMe Ginsertedx hr (by lia) rfl hpa (zA (pv 0) (zA (pv 1) (zA (pv 2) zB)))))) (fun _ h=>h) (fun _ _ hhc=>(zF (zJ (zEs (yG xM (zM (qQ (K:=K) rfl) rfl B.len yH (zA (pv 3) zB)) zD (zQ _)) (zEs (yG jW (zK yP (zM (qQ (K:=K) rfl) rfl B.len yH (zA (pv 1) zB)) (yE (wL (K:=K) rfl) (wV G_law_manyh hr.h (by lia) rfl (zA (pv 2) zB)) zD (fun _ _=>rfl))) zD (zQ _)) (xJ (yG jW (zK yP (yE (wL (K:=K) rfl) (wV G_law_manyh hr.h (by lia) rfl (zA (pv 0) zB)) zD (fun _ _=>rfl)) (yE (wL (K:=K) rfl) (wV G_law_manyh hr.h (by lia) rfl (zA (pv 2) zB)) zD (fun _ _=>rfl))) zD (zQ _))))))))))
  (zC (zR (PW.pt (kL (xC (zT (pD G_law_alike hr (zA (pD Gthing_at hr (zA (pv 4) (zA (pv 1) zB))) (zA (pv 2) zB))))) (qJ (xC (zT (pD G_law_alike hr (zA (pD Gtaken hr (zA (pv 4) (zA (pv 1) zB))) (zA (pv 0) zB)))))))) (zF (zJ wA)) zL)
  (zC (qD PassesOwn.never rfl (zPr rfl B.range (zA (yE ix_list (pv 1) (wT xW zD) (fun _ _=>rfl)) (zA (zM zY rfl B.len yH (zA (pv 3) zB)) zB))) (zW (i:=5) nd rfl (nO rfl)) (zF (zR (PW.pt (zKv (zU zBb (pv 5) zD (zQ _)) (zGv (xC (zT (pD G_law_alike hr (zA (pD Gthing_at hr (zA (pv 4) (zA (zK jN (xQ vS (pv 1) wG (wC (wT xW zD))) (yT (zA (zK yP (pv 5) zD) zB))) zB))) (zA (yE ix_list (pv 3) (pv 5) (fun _ _=>rfl)) zB)))))))) (zF (zJ wA)) zL)))
  (zF (zJ wA))))))), ?_⟩
 walk_at "st";unfold zSf zWa zPa;walk_at "rd3";obtain⟨u,hat⟩:=hks.at_;obtain⟨s0,hs0⟩:∃s0,atT p t=some s0:=by
  rw[zKr] at hat
  cases e:atT p t with
  | none=>rw[e] at hat;cases hat
  | some s0=>exact⟨s0,rfl⟩
 have hst:zS s0 k=some u:=by rw[←uL hs0];exact hat
 have hokp:∀j∈p,okK j:=fun j hj=>hks.ok j (pT _ hj);have hl:=hks.l;rw[mL,nB] at hl;have hd:=ev.dep;have hz:=ev.sz;have hdn:=ev.depn;have hzn:=ev.szn;have hf:=ev.gy.few;have gys:=zJv p t s0 ev.gy hs0;obtain⟨_,hsd,hsz⟩:=zIb p t s0 hf hs0;refine⟨pa,_,rfl,SqL.of hpa,fun p1 hp1=>?_⟩;rw[uT,List.dropLast_concat];have g1:=zG hp1 (.lst (p.map kV));refine gP (Rep.same g1 _ _ ev.v) (qA ev.gy) hd (by lia) zE hs0 hokp (by lia) fun va H2 g2 hva=>?_;have g12:=g1.trans g2;refine⟨_,hva.ty, ?_⟩
 by_cases hlst:∃us,s0= .lst us
 ·obtain⟨us,rfl⟩:=hlst
  cases k with
  | inr x=>cases hst
  | inl i=>
  obtain⟨hi0,hi59⟩:0≤i∧i≤59:=hks.ok (.inl i) (nP _ mF);have hiu:us[i.toNat]? =some u:=hst;have hil:=(nE.mp hiu).1;obtain⟨a,xs,rfl,ha,hxs⟩:=hva;have hxl:=hxs.length;have g60:=gys.1;have hpt:=jY (m:=31) (w:=.ins) (t:=.lst us) (n:=n) (k:=.inl i) gys.few ev.gyn.few (by lia);have hN:zZ .ins (.lst us) (.inl i) n=zAo us i.toNat n:=rfl;rw[hN] at hpt;obtain⟨hNf,hNd,hNz⟩:=hpt;have hNx:T.gx (zAo us i.toNat n):=zKl (i:=i.toNat) (j:=i.toNat) gys.gx ev.gyn.gx;have hNl:(us.take i.toNat++n::us.drop i.toNat).length=us.length+1:=by
   rw[mL,mS,nU,rG];lia
  have hNw:T.wn (zAo us i.toNat n)=decide (us.length+1≤60):=by
   show(decide ((us.take i.toNat++n::us.drop i.toNat).length≤60)&& T.wns (us.take i.toNat++n::us.drop i.toNat))=_;rw[hNl,wns_iff.mpr fun z hz=>?_,cI];rcases nD.mp hz with y | y
   ·exact(T.gys_mem gys.2 (sK y)).wn
   ·rcases mG.mp y with y | y
    ·rw[y];exact ev.gyn.wn
    ·exact(T.gys_mem gys.2 (aB y)).wn
  have hzs:=zCs (n:=zAo us i.toNat n) p t _ hf hs0;obtain⟨s1,s2,s3,s4⟩:=zAm ev.gy hd hz hs0 hNx hNf (by lia) (by lia);have hcan:vL .ins (.lst us) (.inl i)=true:=mZ (by lia);have hch:=gY (p++ [.inl i]) t _ (zDm (n:=n) hcan p t hs0);rw[hN] at hch;have hpl:(p++ [Sum.inl i]).length≤8:=by rw[mL,nB];lia
  refine iN (fun z=>nomatch z) ⟨fun σ' H'=>∃vc,σ'= [some v,some (.ref pa),some vn,some (.ref a),some vc,none]∧Same H2 H'∧Rep H' vc (xO p (zAo us i.toNat n) t)∧T.dep (xO p (zAo us i.toNat n) t)≤8∧T.sz (xO p (zAo us i.toNat n) t)≤200,⟨v,t,pa,_,vn,n,31,rfl,⟨Rep.same g12 _ _ ev.v,hf,by decide,by lia,g12 _ _ hpa,hks.ok,hpl⟩,Rep.same g12 _ _ ev.vn,⟨ev.gyn.few,by lia,hdn,by lia⟩,fun r hr'=>?_,fun j hj=>?_⟩, ?_⟩
  ·rw[hch] at hr'
   cases hr';refine⟨s1,s2,fun ht v' H3 D g3 hv3 _=>?_,fun ht H3 g3=>?_⟩
   ·obtain⟨_,t2,t3⟩:=s3 ht
    exact⟨v',rfl,g3,Sp1.rep _ _ _ hv3,t2,t3⟩
   ·have g13:=g12.trans g3
    have e3:=ev.same g13;refine⟨C2,rfl,hx2,a,rfl,_,SqL.of (g3 _ _ ha), ?_⟩
    by_cases c:(xs.length:Int)=60
    ·exact iP c (q _ g13)
    refine iN c ⟨_,SqL.of (g13 _ _ hpa), ?_⟩;refine vH e3.vn e3.gyn hdn fun p5 H5 g5 h5=>wM (SqT.of h5) (yM (j:=0) rfl) ⟨_,rfl, ?_⟩;have e5:=e3.same g5;rw[mJ,mL,nB]
    by_cases d:(8:Int)<((p.length+1:Nat):Int)+((T.dep n:Nat):Int)
    ·exact iP d (q _ (g13.trans g5))
    refine iN d ?_;refine vH e5.v e5.gy hd fun p6 H6 g6 h6=>wM (SqT.of h6) (yM (j:=1) rfl) ?_;have e6:=e5.same g6;refine vH e6.vn e6.gyn hdn fun p7 H7 g7 h7=>wM (SqT.of h7) (yM (j:=1) rfl) ⟨_,rfl,_,rfl, ?_⟩;have:(200:Int)<((T.sz t:Nat):Int)+((T.sz n:Nat):Int):=by
     rcases s4 ht with z | z | z
     ·rw[hNw,bY] at z;lia
     ·lia
     ·lia
    rw[mZ this];exact q _ (g13.trans (g5.trans (g6.trans g7)))
  ·rw[hch] at hj;cases hj
  ·rintro σ' H3 ⟨vc,rfl,g3,hvc,hdr,hzr⟩
   have g13:=g12.trans g3;have f32:T.fewm 32 t:=T.fewm_mono (by decide) _ hf;have fr:=(uC hNf p t _ f32 hs0).1;have fewr:=T.fewm_few (m:=32) (by decide) _ fr;have hatp:=zGm (n:=zAo us i.toNat n) p t _ f32 hs0;have hatr:atT (p++ [.inl i]) (xO p (zAo us i.toNat n) t)=some n:=by rw[uL hatp];exact zRf (by lia)
   unfold zYo;walk_at "rd3";refine gP hvc fewr hdr (by lia) (g13 _ _ hpa) hatr hks.ok hpl fun v4 H4 g4 h4=>?_;have g14:=g13.trans g4;refine wU h4 (Rep.same g14 _ _ ev.vn) ev.gyn hdn fun H5 g5=>⟨true,rfl,iN (by decide) ?_⟩;have g15:=g14.trans g5;have hcan2:vL .tak (zAo us i.toNat n) (.inl i)=true:=by
    show((us.take i.toNat++n::us.drop i.toNat)[i.toNat]?).isSome=true;rw[zRf (by lia)];rfl
   have hch2:chG .tak (fun s k=>zZ .tak s k .non) (xO p (zAo us i.toNat n) t) (p++ [.inl i]) .non= .inr t:=by
    rw[gY _ _ _ (zDm (n:=.non) hcan2 p _ hatp)];have e:zZ .tak (zAo us i.toNat n) (.inl i) .non= .lst us:=congrArg T.lst (zVj (by lia));rw[e,zBk p t _ f32 hs0,uY p t _ f32 hs0]
   refine⟨vc,_,pa,_,32,rfl,⟨Rep.same (g4.trans g5) _ _ hvc,fr,by decide,by lia,g15 _ _ hpa,hks.ok,hpl⟩,by lia,fun r hr' v6 H6 D g6 hv6 _=>?_,fun j hj=>?_⟩
   ·rw[hch2] at hr'
    cases hr';have g16:=g15.trans g6;refine wU (Sp1.rep _ _ _ hv6) (Rep.same g16 _ _ ev.v) ev.gy hd fun H7 g7=>⟨true,rfl,iN (by decide) ?_⟩;have g17:=g16.trans g7;have hlk:atI ((p++ [Sum.inl i]).map kV) (-1)=some (.int i):=uV (by rw[nA];exact List.getLast?_concat ..);have haL:=(g3.trans (g4.trans (g5.trans (g6.trans g7)))) _ _ ha;refine yK (SqL.of (g17 _ _ hpa)) hlk ⟨xs,SqL.of haL,i,_,⟨rfl,rfl⟩,by lia, ?_⟩;refine kD (fun j σ' H'=>(∃o,σ'= [some v,some (.ref pa),some vn,some (.ref a),some vc,o])∧Same H7 H') ⟨⟨none,rfl⟩,Same.refl _⟩ ?_ ?_
    ·rintro j σ' H8 hj ⟨⟨o,rfl⟩,g8⟩
     have g18:=g17.trans g8;walk_at "rd3"
     by_cases c:i+(j:Int)<59
     ·have hjl:i.toNat+j<us.length:=by lia
      refine iP c ⟨_,_,rfl,SqL.of (g18 _ _ hpa),fun p9 hp9 p10 hp10=>?_⟩;rw[uT,List.dropLast_concat] at hp10⊢;have g9:=zG hp9 (.lst (p.map kV));have h9:upd H8 p9 (.lst (p.map kV)) p9=some (.lst (p.map kV)):=zE;generalize upd H8 p9 (.lst (p.map kV))=H9 at g9 h9 hp10⊢;have g10:=zG hp10 (.lst [V.int (i+(j:Int)+1)]);refine⟨_,_,_,_,rfl,rfl,g10 _ _ h9,zE,by rw[mJ,mU];simp;lia,fun p11 hp11=>?_⟩;generalize upd H9 p10 (.lst [V.int (i+(j:Int)+1)])=H10 at g10 hp11⊢;have e11:p.map kV++ [V.int (i+(j:Int)+1)]=(p++ [Sum.inl (i+(j:Int)+1)]).map kV:=by rw[nA];rfl
      rw[e11] at⊢;have g11:=zG hp11 (.lst ((p++ [Sum.inl (i+(j:Int)+1)]).map kV));have gr:=g4.trans (g5.trans (g6.trans (g7.trans (g8.trans (g9.trans (g10.trans g11))))));have huj:us[i.toNat+j]? =some us[i.toNat+j]:=nF hjl;have hat2:atT (p++ [.inl (i+(j:Int)+1)]) (xO p (zAo us i.toNat n) t)=some us[i.toNat+j]:=by
       rw[uL hatp];show(us.take i.toNat++n::us.drop i.toNat)[(i+(j:Int)+1).toNat]? =_;rw[show(i+(j:Int)+1).toNat=(i.toNat+j)+1 by lia,zLd (by lia) (by lia),huj]
      refine gP (Rep.same gr _ _ hvc) fewr hdr (by lia) zE hat2 (fun x hx=>?_) (by rw[mL,nB];lia) fun v12 H12 g12' h12=>?_
      ·rcases nD.mp hx with y | y
       ·exact hokp x y
       ·rw[mP.mp y];exact⟨by lia,by lia⟩
      have hjx:i.toNat+j<xs.length:=by lia
      obtain⟨t',ht',hr'⟩:=hxs.get (nF hjx);rw[huj] at ht';cases ht';have gA:=g3.trans (gr.trans g12');have hix:atI xs (i+(j:Int))=some xs[i.toNat+j]:=by
       have z:=yM (j:=i.toNat+j) (nF hjx)
       rwa [show((i.toNat+j:Nat):Int)=i+(j:Int) by lia] at z
      refine yK (SqL.of (gA _ _ ha)) hix ?_;have hm:=mQ huj;have gyu:=T.gys_mem gys.2 hm;have dd:=T.deps_le hm;have hsd':T.deps us+1+p.length≤T.dep t:=hsd;exact wU h12 (Rep.same gA _ _ hr') gyu (by lia) fun H13 g13'=>⟨true,rfl,iN (by decide) ⟨⟨_,rfl⟩,g8.trans (g9.trans (g10.trans (g11.trans (g12'.trans g13'))))⟩⟩
     ·exact iN c ⟨⟨_,rfl⟩,g8⟩
    ·rintro σ' H8 ⟨⟨o,rfl⟩,g8⟩
     exact q _ (g17.trans g8)
   ·rw[hch2] at hj;cases hj
 ·refine iP ?_ (q _ g12)
  cases s0 with
  | lst us=>exact absurd ⟨us,rfl⟩ hlst
  | _=>rfl
end
end K38
namespace K38
open PySem L2 PySem.W
seal L2.PSs L2.PS L2.PE L2.PT L2.PW L2.PA L2.PI L2.PG L2.PGs L2.PPs L2.PTs
abbrev sNm:Stmt:=top 70
theorem zIp{n:List Nat}{t:T}:∀{ks:List (List Nat)}{us:List T},ks.length=us.length→n∉ks→xV n (ks++ [n])=ks∧yQ n (ks++ [n]) (us++ [t])=us
 | [],[],_,_=>by
  constructor
  ·show(if n=n then[] else[n])= []
   rw[mK rfl]
  ·show(if n=n then yQ n [] [] else[t])= []
   rw[mK rfl];rfl
 | k::ks,u::us,hl,h=>by
  have hn:k≠n:=fun e=>h (e▸mF);obtain⟨a,b⟩:=zIp (t:=t) (ks:=ks) (us:=us) (Nat.succ.inj hl) fun z=>h (mH _ z);constructor
  ·show(if k=n then _ else k::xV n (ks++ [n]))=_
   rw[mI hn,a]
  ·show(if k=n then _ else u::yQ n (ks++ [n]) (us++ [t]))=_
   rw[mI hn,b]
 | [],_::_,hl,_=>nomatch hl
 | _::_,[],hl,_=>nomatch hl
theorem zGs{H:Hp}{pa:Addr}{p:List Key}{x:Str}{Q:VK}(hpa:H pa=some (.lst (p.map kV)))(h8:p.length≤8)(q:∀l H',Same H H'→H' l=some (.lst ((p++ [Sum.inr x]).map kV))→Q (.ref l) H'):
  ∀p1,H p1=none→zVs (.ref pa) (.ref p1) (upd H p1 (.lst [.str x])) Q:=fun p1 h1=>by
 have g1:=zG h1 (.lst [V.str x]);refine⟨_,_,_,_,rfl,rfl,g1 _ _ hpa,zE,by rw[mJ,mU];simp;lia,fun l hl=>?_⟩;have e:p.map kV++ [V.str x]=(p++ [Sum.inr x]).map kV:=by rw[nA];rfl
 rw[e];exact q l _ (g1.trans (zG hl _)) zE
section
variable{P:Program}{w:World}{K:PySem.W.Frag}{mg:Str→Option Value}{base:Heap}{f:Addr}{fd:FuncData}{C C2:Addr}
theorem scNm:zP ["_law_thing","_law_path","_law_new","_law_name","_law_wider","_law_deep_here"] ["_law_thing","_law_path","_law_new","_law_name"] (zH sNm):=by walk_at "sc"
def yAc:Sp:=fun vs H Q _=>∃(v:V)(t:T)(pa:Addr)(p:List Key)(vn:V)(n:T)(x:Str),vs= [v, .ref pa,vn, .str x]∧Ev H v t vn n∧H pa=some (.lst (p.map kV))∧Pt t p∧yJ (ts x)=true∧∀H',Same H H'→Q (.bl true) H'
theorem ok_nm(F:Fun K "_law_named" "_law_named" sNm f fd)(B:Bl mg)(hmTooGreat:mg "TooGreat" =some (.ref C2))(hx2:exmOne K (.ref C2) (.ref C2)=some true)(Gthing_at:Dn P w K mg base 12 "thing_at" ["thing","path"] zQj)(Gthing_ath:Dh P w K mg base 12 "thing_at" ["thing","path"] zQj)
  (Ghas:Dn P w K mg base 3 "has" ["thing","path"] zRc) (G_law_manyh:Dh P w K mg base (1+20) "_law_many" ["_law_thing"] (zGg 20)) (Gputx:Dx nC P w K mg base 23 "put" ["thing","path","new"] (zNz C C2)) (Gtaken:Dn P w K mg base 23 "taken" ["thing","path"] (spN (zUe C)))
  (G_law_alike:Dn P w K mg base (2+20) "_law_alike" ["_law_found","_law_due"] (vF 20)):FnOk P w K mg base CX0 24 f fd ["_law_thing","_law_path","_law_new","_law_name"] yAc:=by
 refine F.ok scNm (by walk_at "ln") fun c A o s H vs Q E hr h=>?_;obtain⟨v,t,pa,p,vn,n,x,rfl,ev,hpa,hks,hx,q⟩:=h;have nd:=scNm.nd;have hu:=jC hr;have hu0:=hr.units0;refine⟨_,(zC (zR (PW.pt (kL (xC (zT (pI B.isinstance zI B.dict xF (pD Gthing_at hr (zA (pv 0) (zA (pv 1) zB)))))) (qJ (zU jW (zM zY rfl B.len yH (zA (pv 1) zB)) zD (zQ _))))) (zF (zJ wA)) zL)
  (zC (zR (zT (pD Ghas hr (zA (pv 0) (zA (zK jN (pv 1) (yT (zA (pv 3) zB))) zB)))) (zF (zJ wA)) zL)
  (zC (zKq rfl rfl hmTooGreat rfl rfl rfl (fun _ _ _ _ hpa=>(zCm (i:=4) nd rfl (nO rfl) (zMe Gputx hr (by lia) rfl hpa (zA (pv 0) (zA (zK jN (pv 1) (yT (zA (pv 3) zB))) (zA (pv 2) zB)))))) (fun _ h=>h) (fun _ _ hhc=>(zC (pS 5 nd (yG jW (zK yP (zK yP (zM (qQ (K:=K) rfl) rfl B.len yH (zA (pv 1) zB)) zD) (yE (wL (K:=K) rfl) (wV G_law_manyh hr.h (by lia) rfl (zA (pv 2) zB)) zD (fun _ _=>rfl))) zD (zQ _)))
  (zF (zJ (zEs (pv 5) (zEs (yG xM (zM gM rfl B.len yH (zA (wV Gthing_ath hr.h (by lia) rfl (zA (pv 0) (zA (pv 1) zB))) zB)) zD (zQ _)) (xJ (yG jW (zK yP (yE (wL (K:=K) rfl) (wV G_law_manyh hr.h (by lia) rfl (zA (pv 0) zB)) zD (fun _ _=>rfl)) (yE (wL (K:=K) rfl) (wV G_law_manyh hr.h (by lia) rfl (zA (pv 2) zB)) zD (fun _ _=>rfl))) zD (zQ _))))))))))
  (zF (zJ (xN (pD G_law_alike hr (zA (pD Gthing_at hr (zA (pv 4) (zA (zK jN (pv 1) (yT (zA (pv 3) zB))) zB))) (zA (pv 2) zB))) (xJ (pD G_law_alike hr (zA (pD Gtaken hr (zA (pv 4) (zA (zK jN (pv 1) (yT (zA (pv 3) zB))) zB))) (zA (pv 0) zB)))))))))), ?_⟩
 walk_at "st";unfold zWa zPa;walk_at "rd3";obtain⟨s0,hs0⟩:=hks.at_;have hl:=hks.l;have hd:=ev.dep;have hz:=ev.sz;have hdn:=ev.depn;have hzn:=ev.szn;have hf:=ev.gy.few;have gys:=zJv p t s0 ev.gy hs0;obtain⟨_,hsd,hsz⟩:=zIb p t s0 hf hs0;refine gP ev.v (qA ev.gy) hd (by lia) hpa hs0 hks.ok (by lia) fun va H1 g1 hva=>⟨_,hva.ty, ?_⟩
 by_cases hdic:∃ks us,s0= .dic ks us
 ·obtain⟨ks,us,rfl⟩:=hdic
  refine iN (fun z=>nomatch z) ⟨_,SqL.of (g1 _ _ hpa), ?_⟩;rw[mJ]
  by_cases c7:(7:Int)<(p.length:Int)
  ·exact iP c7 (q _ g1)
  have hpl:(p++ [Sum.inr x]).length≤8:=by rw[mL,nB];lia
  have hok:∀j∈p++ [Sum.inr x],okK j:=fun j hj=>(nD.mp hj).elim (hks.ok j) fun z=>by rw[mP.mp z];exact mN
  refine iN c7 (zGs (g1 _ _ hpa) (by lia) fun l2 H2 g2 h2=>?_);have g12:=g1.trans g2;refine⟨v,t,l2,_,rfl,Rep.same g12 _ _ ev.v,qC 8 t hd (qA ev.gy),by lia,h2,hok,hpl,fun H3 g3=>⟨_,rfl, ?_⟩⟩;have g13:=g12.trans g3
  by_cases c:(p++ [Sum.inr x]).length<(goT t (p++ [Sum.inr x])).length
  ·exact iP (mZ c) (q _ g13)
  have hno:ts x∉ks:=fun z=>c (zOi _ t (yD (ts x) ks us) (by rw[uL hs0];exact mK z)).1;refine iN (fun z=>c (eB z)) (zGs (g13 _ _ hpa) (by lia) fun l4 H4 g4 h4=>?_);have g14:=g13.trans g4;have hpt:=jY (m:=31) (w:=.put) (t:=.dic ks us) (n:=n) (k:=.inr x) gys.few ev.gyn.few (by lia);have hN:zZ .put (.dic ks us) (.inr x) n= .dic (ks++ [ts x]) (us++ [n]):=by
   show T.dic (xZ (ks,us) (ts x) n).1 (xZ (ks,us) (ts x) n).2=_;rw[show xZ (ks,us) (ts x) n=(ks++ [ts x],us++ [n]) from mI hno]
  obtain⟨nk,h30,hkl,hkn,hgu⟩:=gys;have hNx:T.gx (zZ .put (.dic ks us) (.inr x) n):=zXb (T.gy.gx (t:=.dic ks us) ⟨nk,h30,hkl,hkn,hgu⟩) ev.gyn.gx hx;rw[hN] at hpt hNx;obtain⟨hNf,hNd,hNz⟩:=hpt;have hNw:T.wn (.dic (ks++ [ts x]) (us++ [n]))=decide (us.length+1≤30):=by
   show(decide ((us++ [n]).length≤30)&& T.wns (us++ [n]))=_;rw[mL,nB,wns_iff.mpr fun z hz=>?_,cI];rcases nD.mp hz with y | y
   ·exact(T.gys_mem hgu y).wn
   ·rw[mP.mp y];exact ev.gyn.wn
  have hzs:=zCs (n:=.dic (ks++ [ts x]) (us++ [n])) p t _ hf hs0;obtain⟨s1,s2,s3,s4⟩:=zAm ev.gy hd hz hs0 hNx hNf (by lia) (by lia);have hch:=gY (p++ [.inr x]) t _ (zDm (w:=.put) (n:=n) (s:=.dic ks us) (k:=.inr x) rfl p t hs0);rw[hN] at hch;refine⟨v,t,l4,_,vn,n,31,rfl,⟨Rep.same g14 _ _ ev.v,hf,by decide,by lia,h4,hok,hpl⟩,Rep.same g14 _ _ ev.vn,⟨ev.gyn.few,by lia,hdn,by lia⟩,fun r hr'=>?_,fun j hj=>?_⟩
  ·rw[hch] at hr'
   cases hr';refine⟨s1,s2,fun ht v5 H5 D g5 hv5 _=>?_,fun ht H5 g5=>?_⟩
   ·obtain⟨_,hdr,hzr⟩:=s3 ht
    have hvc:=Sp1.rep _ _ _ hv5;have g15:=g14.trans g5;have f32:T.fewm 32 t:=T.fewm_mono (by decide) _ hf;have fr:=(uC hNf p t _ f32 hs0).1;have fewr:=T.fewm_few (m:=32) (by decide) _ fr;have hatp:=zGm (n:=.dic (ks++ [ts x]) (us++ [n])) p t _ f32 hs0;have hstp:zS (.dic (ks++ [ts x]) (us++ [n])) (.inr x)=some n:=by
     show(if ts x∈ks++ [ts x] then some (yD (ts x) (ks++ [ts x]) (us++ [n])) else none)=_;rw[mK (by simp),vQ hkl hno]
    have hatr:atT (p++ [.inr x]) (xO p (.dic (ks++ [ts x]) (us++ [n])) t)=some n:=by rw[uL hatp];exact hstp
    refine zGs (g15 _ _ hpa) (by lia) fun l6 H6 g6 h6=>?_;refine gP (Rep.same g6 _ _ hvc) fewr hdr (by lia) h6 hatr hok hpl fun v7 H7 g7 h7=>?_;have g17:=g15.trans (g6.trans g7);refine wU h7 (Rep.same g17 _ _ ev.vn) ev.gyn hdn fun H8 g8=>⟨true,rfl,iP rfl ?_⟩;have g18:=g17.trans g8;refine zGs (g18 _ _ hpa) (by lia) fun l9 H9 g9 h9=>?_;have hcan2:vL .tak (.dic (ks++ [ts x]) (us++ [n])) (.inr x)=true:=by
     show(zS _ _).isSome=true;rw[hstp];rfl
    have hch2:chG .tak (fun s k=>zZ .tak s k .non) (xO p (.dic (ks++ [ts x]) (us++ [n])) t) (p++ [.inr x]) .non= .inr t:=by
     rw[gY _ _ _ (zDm (n:=.non) hcan2 p _ hatp)];have e:zZ .tak (.dic (ks++ [ts x]) (us++ [n])) (.inr x) .non= .dic ks us:=by
      obtain⟨e1,e2⟩:=zIp (t:=n) hkl hno;show T.dic (xV (ts x) (ks++ [ts x])) (yQ (ts x) (ks++ [ts x]) (us++ [n]))=_;rw[e1,e2]
     rw[e,zBk p t _ f32 hs0,uY p t _ f32 hs0]
    refine⟨v5,_,l9,_,32,rfl,⟨Rep.same (g6.trans (g7.trans (g8.trans g9))) _ _ hvc,fr,by decide,by lia,h9,hok,hpl⟩,by lia,fun r hr' v10 H10 D' g10 hv10 _=>?_,fun j hj=>?_⟩
    ·rw[hch2] at hr'
     cases hr';have g19:=g18.trans (g9.trans g10);exact wU (Sp1.rep _ _ _ hv10) (Rep.same g19 _ _ ev.v) ev.gy hd fun H11 g11=>q _ (g19.trans g11)
    ·rw[hch2] at hj;cases hj
   ·have g15:=g14.trans g5
    have e5:=ev.same g15;refine⟨C2,rfl,hx2,_,SqL.of (g15 _ _ hpa), ?_⟩;refine vH e5.vn e5.gyn hdn fun p6 H6 g6 h6=>wM (SqT.of h6) (yM (j:=0) rfl) ⟨_,rfl, ?_⟩;have g16:=g15.trans g6;rw[mJ]
    by_cases d:(8:Int)<(p.length:Int)+1+((T.dep n:Nat):Int)
    ·exact iP d (q _ g16)
    refine iN d (gP (Rep.same g16 _ _ ev.v) (qA ev.gy) hd (by lia) (g16 _ _ hpa) hs0 hks.ok (by lia) fun v7 H7 g7 h7=>?_);have g17:=g16.trans g7;obtain⟨a,qs,rfl,ha,hqk,hqs⟩:=h7;have hql:qs.length=us.length:=by have:=hqs.length;rwa [mJ] at this
    refine⟨a,rfl,qs,ha, ?_⟩
    by_cases e30:(qs.length:Int)=30
    ·exact iP e30 (q _ g17)
    have e7:=ev.same g17;refine iN e30 (vH e7.v e7.gy hd fun p8 H8 g8 h8=>wM (SqT.of h8) (yM (j:=1) rfl) ?_);have e8:=e7.same g8;refine vH e8.vn e8.gyn hdn fun p9 H9 g9 h9=>wM (SqT.of h9) (yM (j:=1) rfl) ⟨_,rfl,_,rfl, ?_⟩;have:(200:Int)<((T.sz t:Nat):Int)+((T.sz n:Nat):Int):=by
     rcases s4 ht with z | z | z
     ·rw[hNw,bY] at z;lia
     ·lia
     ·lia
    rw[mZ this];exact q _ (g17.trans (g8.trans g9))
  ·rw[hch] at hj;cases hj
 ·refine iP ?_ (q _ g1)
  cases s0 with
  | dic ks us=>exact absurd ⟨ks,us,rfl⟩ hdic
  | _=>rfl
end
end K38
namespace K38
open PySem L2 PySem.W
seal L2.PSs L2.PS L2.PE L2.PT L2.PW L2.PA L2.PI L2.PG L2.PGs L2.PPs L2.PTs
abbrev zHb:Stmt:=top 71
section
variable{P:Program}{w:World}{K:PySem.W.Frag}{mg:Str→Option Value}{base:Heap}{f:Addr}{fd:FuncData}{C C2:Addr}
def zNp(K:PySem.W.Frag):Sp:=fun vs H Q _=>∃(a:Addr)(ns:List Int),vs= [.ref a]∧SqL K H a (ns.map V.int)∧ns.length≤63∧∀H',Q (.bl true) H'
theorem scLaw:zP ["_law_script","_law_thing","_law_kept","_law_new","_law_all_spots","_law_k","_law_path"] ["_law_script"] (zH zHb):=by walk_at "sc"
theorem Lay.cons{H:Hp}{pp:List (List T)}(hk:∀p∈pp,p.map scv=(p.map jX).map kV):(pp.map (·.map scv))=(pp.map (·.map jX)).map (·.map kV):=by
 rw[pQ];refine rL fun p hp=>?_;exact hk p hp
theorem zJg:∀{p q:List T},(∀s∈p,Sc s)→(∀s∈q,Sc s)→p.map jX=q.map jX→p=q
 | [],[],_,_,_=>rfl
 | [],_::_,_,_,h=>nomatch h
 | _::_,[],_,_,h=>nomatch h
 | a::p,b::q,h1,h2,h=>by
  obtain⟨e1,e2⟩:=List.cons.inj h;rw[zJg (fun s hs=>h1 s (mH _ hs)) (fun s hs=>h2 s (mH _ hs)) e2];have:a=b:=by
   rcases h1 a mF with⟨i,rfl⟩|⟨x,rfl⟩<;>rcases h2 b mF with⟨j,rfl⟩|⟨y,rfl⟩
   ·exact congrArg T.int (Sum.inl.inj e1)
   ·cases e1
   ·cases e1
   ·have:=congrArg ts (Sum.inr.inj e1)
    rw[xD,xD] at this;exact congrArg T.str this
  rw[this]
theorem yBi(F:Fun K "law" "law" zHb f fd)(B:Bl mg)(G_law_cell:Dn P w K mg base 1 "_law_cell" ["_law_script","_law_k"] (jV K))(G_law_any:Dn P w K mg base 8 "_law_any" ["_law_script","_law_k"] (zNt K))(G_law_copy:Dn P w K mg base (1+20) "_law_copy" ["_law_thing"] (zRj 20))
  (G_law_thing_by:Dn P w K mg base (3+3) "_law_thing_by" ["_law_script","_law_k","_law_deep_here"] (qG K 3)) (Gspots:Dn P w K mg base (2+9) "spots" ["thing"] (uP 9)) (Gread_path:Dn P w K mg base 5 "read_path" ["text"] zNc) (Gpath_text:Dn P w K mg base 2 "path_text" ["path"] zMp) (Ghas:Dn P w K mg base 3 "has" ["thing","path"] zRc)
  (G_law_put_there:Dn P w K mg base 24 "_law_put_there" ["_law_thing","_law_all_spots","_law_path","_law_new"] zYm) (G_law_set_in:Dn P w K mg base 24 "_law_set_in" ["_law_thing","_law_path","_law_new"] spSi) (G_law_named:Dn P w K mg base 24 "_law_named" ["_law_thing","_law_path","_law_new","_law_name"] yAc) (G_law_alike:Dn P w K mg base (2+20) "_law_alike" ["_law_found","_law_due"] (vF 20)):
  FnOk P w K mg base CX0 25 f fd ["_law_script"] (zNp K):=by
 refine F.ok scLaw (by walk_at "ln") fun c A o s H vs Q E hr h=>?_;obtain⟨a,ns,rfl,hS,h63,q⟩:=h;have nd:=scLaw.nd;have hu:=jC hr;have hu0:=hr.units0;refine⟨_,(zC (pS 1 nd (pD G_law_any hr (zA (pv 0) (zA zD zB))))
  (zC (pS 2 nd (pD G_law_copy hr (zA (pv 1) zB)))
  (zC (pS 3 nd (pD G_law_thing_by hr (zA (pv 0) (zA zD (zA zD zB)))))
  (zC (pS 4 nd (pD Gspots hr (zA (pv 1) zB)))
  (zC (zGd (qD PassesOwn.never rfl (xY rfl B.range (zA (zM zY rfl B.len yH (zA (pv 4) zB)) zB)) (zW (i:=5) nd rfl (nO rfl)) (zC (zR (PW.pt (kL (zU (zRh hu) (yE ix_list (pv 4) (pv 5) (fun _ _=>rfl)) (xQ vS (pv 4) wG (wC (pv 5))) (by with_unfolding_all rfl)) (qJ (zU (zBp hu0) (pD Gread_path hr (zA (pD Gpath_text hr (zA (yE ix_list (pv 4) (pv 5) (fun _ _=>rfl)) zB)) zB)) (yE ix_list (pv 4) (pv 5) (fun _ _=>rfl)) (zQ _))))) (zF (zJ wA)) zL)
  (zF (zR (zHq (zXv (pD Ghas hr (zA (pv 1) (zA (yE ix_list (pv 4) (pv 5) (fun _ _=>rfl)) zB))))) (zF (zJ wA)) zL)))))
  (zC (pS 6 nd (yE ix_list (pv 4) (zK yC (pD G_law_cell hr (zA (pv 0) (zA zD zB))) (zM zY rfl B.len yH (zA (pv 4) zB))) (fun _ _=>rfl)))
  (zC (zR (xC (zT (pD G_law_put_there hr (zA (pv 1) (zA (pv 4) (zA (pv 6) (zA (pv 3) zB))))))) (zF (zJ wA)) zL)
  (zC (zR (PW.pt (zKv (zU (zXt hu0) (pv 6) (yT zB) (zQ _)) (zGv (xC (zT (pD G_law_set_in hr (zA (pv 1) (zA (pv 6) (zA (pv 3) zB))))))))) (zF (zJ wA)) zL)
  (zC (zR (xC (zT (pD G_law_named hr (zA (pv 1) (zA (pv 6) (zA (pv 3) (zA (zK qE zV zD) zB))))))) (zF (zJ wA)) zL)
  (zF (zJ (pD G_law_alike hr (zA (pv 1) (zA (pv 2) zB)))))))))))))), ?_⟩
 walk_at "st";unfold zSf;walk_at "rd3";refine⟨a,ns,0,rfl,hS,h63,by decide,by decide,fun v H1 t g1 hv hy hd hz=>?_⟩;refine⟨v,t,rfl,hv,qA hy,by lia,fun vk H2 D g2 hvk _=>?_⟩;have hvk:=Sp1.rep _ _ _ hvk;have g12:=g1.trans g2;refine⟨2,by decide,a,ns,9,rfl,g12.seq hS,h63,by decide,by decide,fun vn H3 g3 hvn=>?_⟩;have hni:=kO ns 2 9;generalize thT ns 2 9=n at hni hvn;have g13:=g12.trans g3;have hv3:=Rep.same (g2.trans g3) _ _ hv;refine⟨v,t,rfl,hv3,qA hy,by lia,by decide,by lia,fun sa ps H4 g4 _ hsa hL _ hnd hna=>?_⟩;have hpk:=fun p hp=>zNy 9 t p hy hp;have hps:=zBj 9 t (qA hy);have hLl:=hL.length;rw[mJ] at hLl;have hpn:=zFp 9 t hy;have hp0:0<(pth 9 t).length:=Nat.succ_pos _;rw[Lay.cons (H:=H4) fun p hp=>by rw[pQ];exact rL fun s hs=>((hpk p hp).2.1 s hs).1] at hL;have g14:=g13.trans g4;have ev:Ev H4 v t vn n:=⟨Rep.same g4 _ _ hv3,hy,hd,hz,Rep.same g4 _ _ hvn,Nice.gy _ hni,by have:=Nice.dep _ hni;lia,by have:=Nice.sz _ hni;lia⟩;have hget:∀(H':Hp),Same H4 H'→∀j:Nat,j<ps.length→∃pj ks,ps[j]? =some pj∧atI (ps.map V.ref) (j:Int)=some (.ref pj)∧H' pj=some (.lst ((ks.map jX).map kV))∧(pth 9 t)[j]? =some ks∧ks∈pth 9 t:=fun H' g j hj=>by
  have hpj:ps[j]? =some ps[j]:=nF hj;obtain⟨w',hw,hpw⟩:=(Lay.same g hL).get hpj;have hjl:j<(pth 9 t).length:=by lia
  rw[nI,nI,nF hjl] at hw;have e:=mV hw;refine⟨_,(pth 9 t)[j],hpj,yM (by rw[nI,hpj];rfl), ?_,nF hjl,aH hjl⟩;rw[hpw];exact congrArg _ (congrArg _ e.symm)
 have hPt:∀ks∈pth 9 t,Pt t (ks.map jX):=fun ks hk=>by
  obtain⟨h1,h2,h3⟩:=hpk ks hk;refine⟨h1,fun k hk'=>?_,by rw[mJ];exact h3⟩;obtain⟨s',hs',rfl⟩:=nM.mp hk';exact(h2 s' hs').2.1
 refine⟨fun σ' H'=>(∃o,σ'= [some (.ref a),some v,some vk,some vn,some (.ref sa),o,none])∧Same H4 H',⟨sa,rfl,_,SqL.of hsa,by rw[mJ];lia,by rw[mJ];lia, ?_⟩, ?_⟩
 ·rw[mJ,nR]
  refine kD (fun j σ' H'=>(∃o,σ'= [some (.ref a),some v,some vk,some vn,some (.ref sa),o,none])∧Same H4 H') ⟨⟨none,rfl⟩,Same.refl _⟩ ?_ (fun σ' H' h=>h);rintro j σ' H5 hj ⟨⟨o,rfl⟩,g5⟩;obtain⟨pj,ks,hpj,hat,hpw,hksj,hkm⟩:=hget H5 g5 j hj;obtain⟨hk1,hk2,hk3⟩:=hpk ks hkm;rw[show(0:Int)+(j:Int)=(j:Int) by lia];walk_at "rd3";refine yK (SqL.of (g5 _ _ hsa)) hat ⟨_,_,rfl,SqL.of (g5 _ _ hsa),fun p6 hp6=>?_⟩;rw[zDp _ (by lia),nR,←dY];have g6:=zG hp6 (.lst ((ps.take j).map V.ref));have hsc:=(zHn 9 t ks hkm).1;refine⟨pj,p6,_,ps.take j,rfl,rfl,g6 _ _ hpw,vJ _,zE,fun b hb=>?_,false,rfl,iN (by decide) ?_⟩
  ·obtain⟨i,hi,hbi⟩:=List.getElem_of_mem hb
   rw[nU] at hi;rw[List.getElem_take] at hbi;have hij:i<j:=by lia
   obtain⟨pi,ls,hpi,_,hpw',hlsi,hlm⟩:=hget H5 g5 i (by lia);rw[nF (by lia)] at hpi;have e:b=pi:=by rw[←hbi];exact mV hpi
   subst e;refine⟨fun z=>?_,_,g6 _ _ hpw',vJ _, ?_⟩
   ·have h1:ps[i]? =some b:=by rw[nF (by lia),hbi]
    rw[←z] at hpj;have:=(List.getElem?_inj (by lia) hnd).mp (h1.trans hpj.symm)
    lia
   ·rw[kI]
    refine nJ fun z=>?_;have e2:=zJg (zHn 9 t ls hlm).1 hsc z;rw[e2] at hlsi;have:=(List.getElem?_inj (by lia) hpn).mp (hlsi.trans hksj.symm)
    lia
  generalize upd H5 p6 (.lst ((ps.take j).map V.ref))=H6 at g6⊢;have e8:ks.map scv=(ks.map jX).map kV:=by rw[pQ];exact rL fun s hs=>(hk2 s hs).1
  have g56:=g5.trans g6;refine yK (SqL.of (g56 _ _ hsa)) hat ⟨pj,_,ks,rfl,g6 _ _ hpw,by rw[←e8];exact Sc.reps hsc,by lia,fun s hs=>(hk2 s hs).2.2,fun H7 g7=>?_⟩;refine⟨ks,rfl,by lia,fun s hs=>(hk2 s hs).2.2,fun p8 H8 g8 _ h8=>?_⟩;have g58:=g56.trans (g7.trans g8);rw[e8] at h8;refine yK (SqL.of (g58 _ _ hsa)) hat ⟨_,_,_,_,rfl,rfl,SqL.of h8,SqL.of ((g6.trans (g7.trans g8)) _ _ hpw),vJ _,vJ _,_,rfl, ?_⟩;rw[mK rfl,kI,mZ rfl];refine iN (by decide) ?_;unfold zYu;walk_at "rd3";obtain⟨u,hu'⟩:=hk1;refine yK (SqL.of (g58 _ _ hsa)) hat ⟨v,t,pj,_,rfl,Rep.same g58 _ _ ev.v,qC 8 t hd (qA hy),by lia,(g6.trans (g7.trans g8)) _ _ hpw,(hPt ks hkm).ok,by rw[mJ];lia,fun H9 g9=>⟨_,rfl,false, ?_,iN (by decide) ⟨⟨_,rfl⟩,g58.trans g9⟩⟩⟩;exact mZ (zOi _ t u hu').1
 ·rintro σ' H5 ⟨⟨o,rfl⟩,g5⟩
  walk_at "rd3";refine vI ((g14.trans g5).seq hS) h63 (by decide) (by decide) fun H6 g6=>⟨_,SqL.of ((g5.trans g6) _ _ hsa),_,rfl,by rw[mJ];lia, ?_⟩;rw[mJ];have g46:=g5.trans g6;have hlt:yO ns 40 % (ps.length:Int)<(ps.length:Int):=tP _ (by lia);have hge:0≤yO ns 40 % (ps.length:Int):=aW _ (by lia);obtain⟨j,hj⟩:∃j:Nat,yO ns 40 % (ps.length:Int)=(j:Int):=⟨(yO ns 40 % (ps.length:Int)).toNat,by lia⟩;rw[hj] at hlt⊢;obtain⟨pj,ks,hpj,hat,hpw,hksj,hkm⟩:=hget H6 g46 j (by lia);have hP:=hPt ks hkm;refine yK (SqL.of (g46 _ _ hsa)) hat ⟨v,t,sa,ps,_,pj,ks.map jX,vn,n,rfl,ev.same g46,g46 _ _ hsa,by lia,Lay.same g46 hL,fun p hp=>?_,hpw,hP,fun H7 g7=>⟨true,rfl,iN (by decide) fun p8 hp8=>?_⟩⟩
  ·obtain⟨l,hl,rfl⟩:=nM.mp hp
   exact hPt l hl
  have g8:=zG hp8 (.lst []);have h78:=(g7.trans g8) _ _ hpw;refine⟨pj,p8,_,rfl,rfl,SqL.of h78,SqL.of zE,_,rfl, ?_⟩;generalize upd H7 p8 (.lst [])=H8 at g8 h78⊢;have g48:=g46.trans (g7.trans g8);have nm:∀H9,Same H8 H9→(Str.ofString "q").length≤1000∧yAc [v,V.ref pj,vn,V.str (tx (List.replicate 12 (ts (Str.ofString "q"))).flatten)] H9 (fun x H1=>∃c,x=V.bl c∧if c=false then Q (V.bl false) H1 else vF 20 [v,vk] H1 Q E0) E0:=fun H9 g9=>by
   refine⟨by decide,v,t,pj,ks.map jX,vn,n,_,rfl,ev.same (g48.trans g9),g9 _ _ h78,hP,by decide+kernel,fun H10 g10=>⟨true,rfl,iN (by decide) ?_⟩⟩;have gk:=g3.trans (g4.trans (g48.trans (g9.trans g10)));exact wU (Rep.same (g2.trans gk) _ _ hv) (Rep.same gk _ _ hvk) hy hd fun H11 g11=>q _
  rcases List.eq_nil_or_concat (ks.map jX) with e |⟨p,k,e⟩
  ·rw[e]
   exact iN (by decide) (nm H8 (Same.refl _))
  ·rw[List.concat_eq_append] at e
   refine iP ?_ ⟨v,t,pj,p,k,vn,n,rfl,ev.same g48,by rw[←e];exact h78,by rw[←e];exact hP,fun H9 g9=>⟨true,rfl,iN (by decide) (nm H9 g9)⟩⟩;rw[e,nA];cases p<;>rfl
end
end K38
namespace K38
open PySem L2 PySem.W
section
variable{K:Frag}{dT:Addr}{kV doc pm cdv ct:Value}{an:Option Addr}
theorem biCa{o:Obj}{i0:Value}{n:Nat}(hd:K.lookup dT=some o)(hs:o.data= .seq #[i0] n):Binds K (fnOf "changed_at" "changed_at" (xG sCa) (yY sCa) (zH sCa) (.ref dT) kV doc pm an cdv ct) ["thing","word","path","new"] []∧Binds K (fnOf "changed_at" "changed_at" (xG sCa) (yY sCa) (zH sCa) (.ref dT) kV doc pm an cdv ct) ["thing","word","path","new"] [i0]:=by
 refine⟨fun s us hK hl=>?_,fun s us hK hl=>?_⟩
 ·rw[pY] at hl⊢
  rcases us with _ |⟨a,_ |⟨b,_ |⟨c,_ |⟨d,_ |⟨e,r⟩⟩⟩⟩⟩
  case cons.cons.cons.cons.nil=>exact binds_K hK rfl hd hs rfl rfl
  all_goals exact absurd hl (by simp)
 ·rcases us with _ |⟨a,_ |⟨b,_ |⟨c,_ |⟨d,r⟩⟩⟩⟩
  case cons.cons.cons.nil=>exact binds_K hK rfl hd hs rfl rfl
  all_goals exact absurd hl (by simp)
theorem biCs{o:Obj}{i0:Value}{n:Nat}(hd:K.lookup dT=some o)(hs:o.data= .seq #[i0] n):Binds K (fnOf "change_shared" "change_shared" (xG sCs) (yY sCs) (zH sCs) (.ref dT) kV doc pm an cdv ct) ["thing","word","path","new"] []:=by
 refine fun s us hK hl=>?_;rw[pY] at hl⊢;rcases us with _ |⟨a,_ |⟨b,_ |⟨c,_ |⟨d,_ |⟨e,r⟩⟩⟩⟩⟩
 case cons.cons.cons.cons.nil=>exact binds_K hK rfl hd hs rfl rfl
 all_goals exact absurd hl (by simp)
end
end K38
namespace K38
open PySem L2 PySem.W
def FA(K:W.Frag)(x:Str)(st:Stmt)(f:Addr):Prop:=W.nsIn K mainGlobals x=some (some (.ref f))∧∃oc od kV dc pm an cd ct sl,K.lookup f=some ⟨oc,od, .func (W.fnOf x x (xG st) (yY st) (zH st) .none kV dc pm an cd ct),sl⟩∧W.codeIn K cd x=true∧W.keepIn K (.ref f)=true
theorem FnOkH.up{P:Program}{w:World}{K:W.Frag}{mg:Str→Option Value}{base:Heap}{j k:Nat}{f:Addr}{fd:FuncData}{ps:List Str}{sp:Sp}(F:FnOkH P w K mg base j f fd ps sp)(h:j≤k):FnOkH P w K mg base k f fd ps sp:=⟨F.len,fun A outer s H args us vs Q E hr=>F.run A outer s H args us vs Q E (hr.mono h)⟩
theorem FA.out{K:W.Frag}{h:Heap}{mg:Str→Option Value}{x:Str}{st:Stmt}{f:Addr}(a:FA K x st f)(X:K.In h)(G:h.Ns mainGlobals mg):mg x=some (.ref f)∧(∃fd,Fun K x x st f fd)∧W.keepIn K (.ref f)=true:=by
 obtain⟨a,oc,od,kV,dc,pm,an,cd,ct,sl,l,c,k⟩:=a;exact⟨sS X G a,⟨_,zTw l c k⟩,k⟩
section
variable{φ:Value→Prop}{P:Program}{w:World}{K:W.Frag}{mg:Str→Option Value}{base h:Heap}{k:Nat}{x:Str}{ps:List Str}{sp:Sp}{st:Stmt}{f:Addr}(X:K.In h)(G:h.Ns mainGlobals mg)(j:Nat)(a:FA K x st f)
include X G a
theorem dn_mk(o:∀{fd},Fun K x x st f fd→FnOk P w K mg base CX0 k f fd ps sp)(l:k≤j:=by decide)(b:∀fd,Fun K x x st f fd→Binds K fd ps []:=by walk_at "b"):Dn P w K mg base j x ps sp:=by
 obtain⟨m,⟨fd,F⟩,p⟩:=a.out X G;exact⟨_,_,FnOk.mono (o F) l,b _ F,p,m⟩
theorem zZn(o:∀{fd},Fun K x x st f fd→Binds K fd ps []→W.keepIn K (.ref f)=true→mg x=some (.ref f)→FnOk P w K mg base CX0 k f fd ps sp)(l:k≤j:=by decide)(b:∀fd,Fun K x x st f fd→Binds K fd ps []:=by walk_at "b"):Dn P w K mg base j x ps sp:=by
 obtain⟨m,⟨fd,F⟩,p⟩:=a.out X G;exact⟨_,_,FnOk.mono (o F (b _ F) p m) l,b _ F,p,m⟩
theorem dx_mk(o:∀{fd},Fun K x x st f fd→FnOk P w K mg base (CXE φ P w) k f fd ps sp)(l:k≤j:=by decide)(b:∀fd,Fun K x x st f fd→Binds K fd ps []:=by walk_at "b"):Dx φ P w K mg base j x ps sp:=by
 obtain⟨m,⟨fd,F⟩,p⟩:=a.out X G;exact⟨_,_,FnOk.mono (o F) l,b _ F,p,m⟩
theorem dh_mk(o:∀{fd},Fun K x x st f fd→FnOkH P w K mg base k f fd ps sp)(l:k≤j:=by decide)(b:∀fd,Fun K x x st f fd→Binds K fd ps []:=by walk_at "b"):Dh P w K mg base j x ps sp:=by
 obtain⟨m,⟨fd,F⟩,p⟩:=a.out X G;exact⟨_,_,FnOkH.up (o F) l,b _ F,p,m⟩
theorem yAp(o:∀{fd},Fun K x x st f fd→Binds K fd ps []→W.keepIn K (.ref f)=true→mg x=some (.ref f)→FnOkH P w K mg base k f fd ps sp)(l:k≤j:=by decide)(b:∀fd,Fun K x x st f fd→Binds K fd ps []:=by walk_at "b"):Dh P w K mg base j x ps sp:=by
 obtain⟨m,⟨fd,F⟩,p⟩:=a.out X G;exact⟨_,_,FnOkH.up (o F (b _ F) p m) l,b _ F,p,m⟩
end
theorem all_mk{l:W.OpenLaw}{w:World}{K:W.Frag}{h:Heap}{mg:Str→Option Value}{fa f0 f1 f2 f3 f4 f5 f6 f7 f8 f9 f10 f11 f12 f13 f14 f15 f16 f17 f18 f19 f20 f21 f22 f23 f24 f25 f26 f27 f28 f29 f30 f31 f32 f33 f34 f35 f36 f37 f38 f39 f40 f41 f42 f43 f44 f45 f46 f47 f48 f49:Addr}(X:K.In h)(G:h.Ns mainGlobals mg)(hfa:mg "law" =some (.ref fa))
  {od49 an49:Option Addr} {sl49:Array (Option Value)} {oc49 kV49 dc49 pm49 cd49 ct49:Value}
  {u0:Tok}
  {u1:Tok}
  {v0:Tok}
  {v1:Tok}
  {v2:Tok}
  {v3:Tok}
  {v4:Tok}
  {v5:Tok}
  {xB x1c x2c:Addr} {cft cst:Tok} {pN pF pD:Addr} {pq:Str} {pbs:List Value} {psn:List Str} {psub:List Value} {pab:Bool} {pcol:Option Bool} {pdd:Option Addr} {pk0 pk1 pk2 pk3 pk5:Option Value} {pod pan:Option Addr} {psl:Array (Option Value)} {poc pkV pdc ppm pcd pct:Value} {pdo:Option Addr} {pdc' pdv:Value} {pdn:Nat} {pds:Array (Option Value)} {tN:Addr} {tq:Str} {tbs:List Value} {tsn:List Str} {tsub:List Value} {tab:Bool} {tcol:Option Bool} {tdd:Option Addr} {tk0 tk1 tk2 tk3 tk5:Option Value} {hF hD:Addr} {hoc hkV hdc hpm hcd hct htc:Value} {hod han hto:Option Addr} {hsl hts:Array (Option Value)} {htn:Nat} {gF gD:Addr} {goc gkV gdc gpm gcd gct gtc:Value} {god gan gto:Option Addr} {gsl gts:Array (Option Value)} {gtn:Nat}
  (a0:FA K "kind_of" zBr f0)
  (a1:FA K "is_name" zHw f1)
  (a2:FA K "is_text_sign" yDa f2)
  (a3:FA K "is_thing" sTh f3)
  (a4:FA K "is_sound_outside" yCm f4)
  (a5:FA K "holds_parts" sHp f5)
  (a6:FA K "parts_of" sPo f6)
  (a7:FA K "parts_of_all" sPz f7)
  (a8:FA K "copied" sCp f8)
  (a9:FA K "is_place" zLr f9)
  (a10:FA K "path_text" zLn f10)
  (a11:FA K "step_text" zTf f11)
  (a12:FA K "read_path" zMm f12)
  (a13:FA K "read_step" zLs f13)
  (a14:FA K "writes_place" zGi f14)
  (a15:FA K "thing_at" sTa f15)
  (a16:FA K "has" yBc f16)
  (a17:FA K "spots" zDy f17)
  (a18:FA K "stops_on" sSt f18)
  (a19:FA K "leads_on" sLo f19)
  (a20:FA K "steps_from" zKx f20)
  (a21:FA K "put" yBa f21)
  (a22:FA K "inserted" yBg f22)
  (a23:FA K "taken" yAe f23)
  (a24:FA K "sound" zZh f24)
  (a25:FA K "whole_changed" sWc f25)
  (a26:FA K "stops_to_last" sSl f26)
  (a27:FA K "leads_within" sLw f27)
  (a28:FA K "can_change" sCc f28)
  (a29:FA K "part_changed" zTj f29)
  (a30:FA K "record_changed" zZt f30)
  (a31:FA K "row_changed" zZq f31)
  (a32:FA K "_law_cell" zSz f32)
  (a33:FA K "_law_name_by" zRv f33)
  (a34:FA K "_law_signs" zLf f34)
  (a35:FA K "_law_text_by" zSo f35)
  (a36:FA K "_law_number_by" yCa f36)
  (a37:FA K "_law_thing_by" zDd f37)
  (a38:FA K "_law_deep" zTk f38)
  (a39:FA K "_law_wide" zTo f39)
  (a40:FA K "_law_any" zZu f40)
  (a41:FA K "_law_alike" zBz f41)
  (a42:FA K "_law_copy" sCo f42)
  (a43:FA K "_law_many" sMn f43)
  (a44:FA K "_law_within" sWn f44)
  (a45:FA K "_law_is_thing" sLt f45)
  (a46:FA K "_law_put_there" yAy f46)
  (a47:FA K "_law_set_in" sSi f47)
  (a48:FA K "_law_named" sNm f48)
  (a49:W.nsIn K mainGlobals "law" =some (some (.ref f49)))
  (l49:K.lookup f49=some ⟨oc49,od49, .func (W.fnOf "law" "law" (xG zHb) (yY zHb) (zH zHb) .none kV49 dc49 pm49 an49 cd49 ct49),sl49⟩)
  (c49:W.codeIn K cd49 "law" =true)
  (k49:W.keepIn K (.ref f49)=true)
  (z0:W.nsIn K mainGlobals "len" =some none)
  (z1:W.nsIn K mainGlobals "range" =some none)
  (z2:W.nsIn K mainGlobals "isinstance" =some none)
  (z3:W.nsIn K mainGlobals "all" =some none)
  (z4:W.nsIn K mainGlobals "sum" =some none)
  (z5:W.nsIn K mainGlobals "int" =some none)
  (z6:W.nsIn K mainGlobals "str" =some none)
  (z7:W.nsIn K mainGlobals "bool" =some none)
  (z8:W.nsIn K mainGlobals "list" =some none)
  (z9:W.nsIn K mainGlobals "dict" =some none)
  (z10:W.nsIn K mainGlobals "tuple" =some none)
  (y0:W.nsIn K mainGlobals "max" =some none)
  (y1:W.nsIn K mainGlobals "min" =some none)
  (y2:W.nsIn K mainGlobals "sorted" =some none)
  (q0:W.nsIn K mainGlobals "abs" =some none)
  (q1:W.nsIn K mainGlobals "ord" =some none)
  (s0:W.nsIn K mainGlobals "LETTERS" =some (some (.str (Str.ofString "abcdefghijklmnopqrstuvwxyz") u0)))
  (s1:W.nsIn K mainGlobals "NAME_SIGNS" =some (some (.str (Str.ofString "abcdefghijklmnopqrstuvwxyz0123456789") u1)))
  (n0:W.nsIn K mainGlobals "MOST_IN_NAME" =some (some (.int 12 v0)))
  (n1:W.nsIn K mainGlobals "MOST_IN_TEXT" =some (some (.int 30 v1)))
  (n2:W.nsIn K mainGlobals "MOST_IN_ROW" =some (some (.int 60 v2)))
  (n3:W.nsIn K mainGlobals "MOST_IN_RECORD" =some (some (.int 30 v3)))
  (n4:W.nsIn K mainGlobals "MOST_DEPTH" =some (some (.int 8 v4)))
  (n5:W.nsIn K mainGlobals "MOST_SIZE" =some (some (.int 200 v5)))
  (ha:W.nsIn K mainGlobals "change_shared" =some (some (.ref hF)))
  (hs:K.lookup hF=some ⟨hoc,hod, .func (W.fnOf "change_shared" "change_shared" (xG sCs) (yY sCs) (zH sCs) (.ref hD) hkV hdc hpm han hcd hct),hsl⟩)
  (ht:W.codeIn K hcd "change_shared" =true)
  (hk:W.keepIn K (.ref hF)=true)
  (hu:K.lookup hD=some ⟨htc,hto, .seq #[.none] htn,hts⟩)
  (ga:W.nsIn K mainGlobals "changed_at" =some (some (.ref gF)))
  (gs:K.lookup gF=some ⟨goc,god, .func (W.fnOf "changed_at" "changed_at" (xG sCa) (yY sCa) (zH sCa) (.ref gD) gkV gdc gpm gan gcd gct),gsl⟩)
  (gt:W.codeIn K gcd "changed_at" =true)
  (gk:W.keepIn K (.ref gF)=true)
  (gu:K.lookup gD=some ⟨gtc,gto, .seq #[.none] gtn,gts⟩)
  (xaB:W.nsIn K mainGlobals "CabinetError" =some (some (.ref xB)))
  (xb1:W.tailIn K veMro (.ref xB::veMro)=true)
  (xc0:W.specialIn K (.ref xB) "__getattribute__" =some (some (.builtin "type.__getattribute__")))
  (xc1:W.readsIn K xB (.type "type")=true)
  (xc2:W.findCls K (.ref xB) (.type "type") "__init__" =some (.val (.builtin "ValueError.__init__")))
  (cf:W.nsIn K mainGlobals "FIGURES" =some (some (.str (Str.ofString "0123456789") cft)))
  (cs:W.nsIn K mainGlobals "MOST_STEPS" =some (some (.int 8 cst)))
  (pa:W.nsIn K mainGlobals "NoPlace" =some (some (.ref x1c)))
  (pb0:K.lookup x1c=some (excClassObj "NoPlace" pq x1c pN pbs (.ref xB::veMro) true psn psub pab pcol pdd pk0 pk1 pk2 pk3 pk5 "ValueError.__new__"))
  (pb2:W.findIn K (.ref x1c) "__init__" =some (some (.ref pF)))
  (pb3:W.typeIn K (.ref pF)=some (.type "function"))
  (pb4:W.findIn K (.ref x1c) "__setattr__" =some (some (.builtin "object.__setattr__")))
  (pb5:W.findIn K (.ref x1c) "at" =some none)
  (pb6:W.keepIn K (.ref x1c)=true)
  (pd0:K.lookup pF=some ⟨poc,pod, .func (W.fnOf "__init__" "NoPlace.__init__" (xG wZ) (yY wZ) (zH wZ) (.ref pD) pkV pdc ppm pan pcd pct),psl⟩)
  (pd1:W.codeIn K pcd "NoPlace.__init__" =true)
  (pd2:K.lookup pD=some ⟨pdc',pdo, .seq #[pdv] pdn,pds⟩)
  (ta:W.nsIn K mainGlobals "TooGreat" =some (some (.ref x2c)))
  (tb0:K.lookup x2c=some (excClassObj "TooGreat" tq x2c tN tbs (.ref xB::veMro) true tsn tsub tab tcol tdd tk0 tk1 tk2 tk3 tk5 "ValueError.__new__"))
  (tb2:W.nsOkIn K tN=true)
  (tb3:W.nsIn K tN "__init__" =some none)
  (tb6:W.keepIn K (.ref x2c)=true)
  (xf2:W.exmOne K (.ref x2c) (.ref x2c)=some true):
  ∃fd:FuncData,(∀(s:Shared)(v:Value),BindsTo s fd ⟨[v],[]⟩ [("_law_script",v)])∧∀base:Heap,K.In base→base.Ns mainGlobals mg→FnOk l.prog w K mg base CX0 25 fa fd ["_law_script"] (zNp K):=by
 have e:=hfa.symm.trans (sS X G a49);cases e;have Flaw:=zTw (st:=zHb) l49 c49 k49;have B:Bl mg:=⟨pZ X G z0,pZ X G z1,pZ X G z2,pZ X G z3,pZ X G z4,pZ X G z5,pZ X G z6,pZ X G z7,pZ X G z8,pZ X G z9,pZ X G z10⟩;have B2:Bl2 mg:=⟨B,pZ X G y0,pZ X G y1,pZ X G y2⟩;have B5:Bl5 mg:=⟨B2,pZ X G q0,pZ X G q1⟩;have M:Ms mg:=⟨⟨_,sS X G s0⟩,⟨_,sS X G s1⟩,⟨_,sS X G n0⟩,⟨_,sS X G n1⟩,⟨_,sS X G n2⟩,⟨_,sS X G n3⟩,⟨_,sS X G n4⟩,⟨_,sS X G n5⟩⟩;refine⟨W.fnOf "law" "law" (xG zHb) (yY zHb) (zH zHb) .none kV49 dc49 pm49 an49 cd49 ct49,fun s v=>.of_eq rfl,fun base _ _=>?_⟩;have D {k x ps sp st f}:=@dn_mk l.prog w K mg base h k x ps sp st f X G;have D3 {k x ps sp st f}:=@zZn l.prog w K mg base h k x ps sp st f X G;have H {k x ps sp st f}:=@dh_mk l.prog w K mg base h k x ps sp st f X G;have H3 {k x ps sp st f}:=@yAp l.prog w K mg base h k x ps sp st f X G;have EnC {k x ps sp st f}:=@dx_mk nC l.prog w K mg base h k x ps sp st f X G;have Gcell:=D 1 a32 fun F=>zWh F B;have Gnum:=D 1 a36 fun F=>zZf F;have Gname:=D 1 a33 fun F=>zWi F B;have Gsigns:=D 1 a34 fun F=>zRr F;have Gtext:=D 2 a35 fun F=>zWc F B Gsigns;have Gthing:=D3 (3+3) a37 fun F b p m=>zOz (n:=3) (zEj F B Gcell Gnum Gtext Gname b p m);have Gdeep:=D 7 a38 fun F=>zXl F B Gcell Gthing Gname;have Gwide:=D 7 a39 fun F=>zWw F B Gcell Gthing Gname;have Gany:=D 8 a40 fun F=>yCb F B Gcell Gthing Gdeep Gwide;have Gcopy:=D3 (1+20) a42 fun F b p m=>zVc F B b p m 20;have Gcp10:=H3 (1+10) a8 fun F b p m=>zLl F B b p m 10;have Gcp:=H3 (1+20) a8 fun F b p m=>zLl F B b p m 20;have Gal:=D3 (2+20) a41 fun F b p m=>zFm F B2 b p m 20;have Gko:=D 1 a0 fun F=>zLe F B;have Gpl:=D 2 a9 fun F=>zUv F B M Gko;have GkR:=D 1 a0 fun F=>zKf F B;have Gin:=D 1 a1 fun F=>zLk F B M;have Gsg:=D 1 a2 fun F=>yCs F B5;have Gso:=D 2 a4 fun F=>zZl F B5 M GkR Gsg Gin;have Ghp:=D 1 a5 fun F=>ok_hp F B;have Gpo:=D 1 a6 fun F=>ok_po F B;have Gpz:=D 2 a7 fun F=>yDe F B Gpo;have Gth:=D 3 a3 fun F=>th_T (ok_th F B M Gso Ghp Gpz);have Gwn:=D3 (1+20) a44 fun F b p m=>zQo F B b p m 20;have Gmn:=H3 (1+20) a43 fun F b p m=>zSd F B2 b p m 20;have Glt:=D 22 a45 fun F=>ok_lt F B Gmn.dn Gwn;have Glo:=H 1 a19 fun F=>ok_lo F B;have Glw:=D 3 a27 fun F=>ok_lw F B Glo.dn Gpl;have Gcc:=D 4 a28 fun F=>ok_cc F B Glw Gpl;have Grec:=D 1 a30 fun F=>yAg F B;have Grow:=D 1 a31 fun F=>yBy F B;have Gpart:=D 2 a29 fun F=>zWt F B Grec Grow;have Gst:=H 2 a18 fun F=>ok_st F B Glo;have Ghas:=H 3 a16 fun F=>yDc F B Gst;have Gta:=H 12 a15 fun F=>ok_ta F B Gst Gcp10;have Gsf:=D 1 a20 fun F=>zUc F B2;have Gsp:=D3 (2+9) a17 fun F b p m=>zFd F B2 Gsf b p m 9;have MP:Mp mg:=⟨⟨_,sS X G cf⟩,⟨_,sS X G cs⟩⟩;have Gstx:=D 1 a11 fun F=>zWq F B;have Gptx:=D 2 a10 fun F=>zQs F B Gstx;have Gwp:=D 3 a14 fun F=>zPo F B MP Gpl;have Grs:=D 4 a13 fun F=>zRu F B Gin Gwp;have Grp:=D 5 a12 fun F=>zQq F B MP Grs;have mB:=sS X G xaB;have XC:zLj K "NoPlace" x1c xB pF:=⟨⟨pN,_,pb0,_,_,_,_,_,_,_,_,_,_,_,_,_,rfl⟩,⟨_,by unfold W.clsIn;rw[pb0],rfl,rfl⟩,xb1,pb2,pb3,pb4,pb5,pb6⟩;have XB:zTl K xB:=⟨xc0,xc1,xc2⟩;have RN:Xr l.prog w K mg base 1 "NoPlace" x1c:=⟨_,_,_,_,_,XC,zRq pd0 pd1 XC XB mB,zIm pd2 rfl rfl,sS X G pa⟩;have mT:=sS X G ta;have RT:Xr0 K mg "TooGreat" x2c:=⟨_,_,⟨⟨tN,_,tb0,⟨_,_,_,_,_,_,_,_,_,_,_,_,_,rfl⟩,tb2,tb3⟩,xb1,tb6⟩,mT⟩;have Gwc:=EnC 3 a25 fun F=>ok_wc F B RN;have Gsl:=EnC 4 a26 fun F=>ok_sl F B Glw RN;have FCs:FunD K "change_shared" "change_shared" sCs hF (W.fnOf "change_shared" "change_shared" (xG sCs) (yY sCs) (zH sCs) (.ref hD) hkV hdc hpm han hcd hct):=⟨⟨hoc,hod, .ref hD,hkV,hdc,hpm,han,hcd,hct,hsl,rfl,hs,ht⟩⟩;have FCa:FunD K "changed_at" "changed_at" sCa gF (W.fnOf "changed_at" "changed_at" (xG sCa) (yY sCa) (zH sCa) (.ref gD) gkV gdc gpm gan gcd gct):=⟨⟨goc,god, .ref gD,gkV,gdc,gpm,gan,gcd,gct,gsl,rfl,gs,gt⟩⟩;have mCs:=sS X G ha;have mCa:=sS X G ga;have Gcs:Dx nC l.prog w K mg base 5 "change_shared" ["thing","word","path","new"] (zZz x1c):=⟨_,_,ok_cs FCs B Gwc Gsl Gcc Gpart RN,biCs hu rfl,hk,mCs⟩;have Gcax:Dx nC l.prog w K mg base 22 "changed_at" ["thing","word","path","new"] (zQb x1c):=⟨_,_,zZa FCa Gcs Gcp.dn,(biCa gu rfl).1,gk,mCa⟩;have Gcad:Ddx nC l.prog w K mg base 22 "changed_at" ["thing","word","path","new"] [.non] (zQb x1c):=⟨_,_,_,zZa FCa Gcs Gcp.dn,(biCa gu rfl).2, .cons rfl .nil,gk,mCa⟩;have Gsou:=EnC 4 a24 fun F=>yAt F Gth RT;have Gput:=EnC 23 a21 fun F=>zZg F Gsou Gcax;have Gins:=EnC 23 a22 fun F=>yBk F Gsou Gcax;have Gtkn:=EnC 23 a23 fun F=>yBo F Gcad;have Gpth:=D 24 a46 fun F=>yBt F B mT xf2 Gta.dn Gmn Gput (zLy Gput) Glt Gal;have Gsi:=D 24 a47 fun F=>ok_si F B mT xf2 Gta.dn Gmn Gins (zLy Gtkn) Gal;have Gnm:=D 24 a48 fun F=>ok_nm F B mT xf2 Gta.dn Gta Ghas.dn Gmn Gput (zLy Gtkn) Gal;exact yBi Flaw B Gcell Gany Gcopy Gthing Gsp Grp Gptx Ghas.dn Gpth Gsi Gnm Gal
theorem walk{l:W.OpenLaw}{q:Program}{loose:List Str}{XP:(Str→Option Value)→Heap→Prop}{YP:World→Heap→Prop}{d:DefRec}{K:Params→W.Frag}(hn:l.most=some 63)(hdf:d.params.defaults= [])
  (hY:∀(w:World)(h:Heap),YP w h→(K w.params).In h)
  (F:∀(w:World)(mg:Str→Option Value)(fa:Addr)(h:Heap),(K w.params).In h→h.Ns mainGlobals mg→mg d.name=some (.ref fa)→
   ∃fd:FuncData,(∀(s:Shared)(u:Value),BindsTo s fd ⟨[u],[]⟩ [("_law_script",u)])∧∀base:Heap,(K w.params).In base→base.Ns mainGlobals mg→FnOk l.prog w (K w.params) mg base CX0 25 fa fd ["_law_script"] (zNp (K w.params))):
  W.WalkO q loose XP YP l.row.toRowW d [] (fun f vs=>PySem.call f vs):=
 L2.zOd (n:=63) (k:=25) (x:="_law_script") (CX:=fun _=>CX0) (sp:=fun w=>zNp (K w.params)) hn (by decide) hdf ⟨rfl,by decide,by decide⟩ hY F (fun _ _ a ns hl _ hS=>⟨a,ns,rfl,hS,hl,fun _=>rfl⟩) fun _ _ _ _ _ z=>z
end K38
end
namespace PySem.W.Fast
def tw1399713982595584088:=()
def tw13078740921268550410:=()
def tw15371683567919312815:=()
def tw987188242112134735:=()
def tw7770861705550455166:=()
def tw18017001262169399293:=()
def tw7088149318777064663:=()
def tw2677487123933541700:=()
def tw1358408033113393227:=()
def tw17767544473445104534:=()
def tw17118144122961322888:=()
def tw12465903265924848627:=()
def tw15056612537254994090:=()
def tw12089207952821201150:=()
def tw4777415256919713378:=()
def tw16848731864605683349:=()
def tw17634013196154453497:=()
def tw7555607505113995372:=()
def tw6240533861837584293:=()
def tw4424950601214600738:=()
def tw8506789155205736362:=()
def tw3715443775407247702:=()
def tw6004176300811432841:=()
def tw2764429462323764776:=()
def tw17349677739119825101:=()
def tw10102945820439669427:=()
def tw14211750335130347573:=()
def tw6875493770751604685:=()
def tw10066557988662188360:=()
def tw3577483685789762095:=()
def tw7149829095909066204:=()
def tw5827825781365723094:=()
def tw8178796328056006431:=()
def tw7885578916589545434:=()
def tw1677559332396417448:=()
def tw3189607633006816296:=()
def tw7726981333513084462:=()
def tw15687712175988162009:=()
def tw9687952205110748910:=()
def tw9840964685989825488:=()
def tw9665857711890510884:=()
def tw15704767613806482914:=()
def tw10376036488728834751:=()
def tw6868797498624708167:=()
def tw15901590760870213697:=()
def tw6667347374201703077:=()
def tw1126549985110085559:=()
def tw4916868000565010109:=()
def tw2425685809987722209:=()
def tw9220730306136338282:=()
def tw2605543744887499432:=()
def tw3970752453847427127:=()
def tw11530877002515253620:=()
def tw11846307254475652399:=()
def tw16522753547669014169:=()
def tw766803879293646578:=()
def tw16265485035500004553:=()
def tw46006410716532185:=()
def tw13982066361456228289:=()
def tw16320108677197089578:=()
def tw3313704777688614871:=()
def tw12752909394057353955:=()
def tw8856136427929283646:=()
def tw8603264983255178408:=()
def tw3048711126499587601:=()
def tw1580869507006037874:=()
def tw6899796239974231216:=()
def tw13715386906663429513:=()
def tw398853795854058247:=()
def tw8488017057086436124:=()
def tw6802255271758966730:=()
def tw9401895996718463637:=()
def tw2688760514027390807:=()
def tw4042876219792915330:=()
def tw17953283671650707780:=()
def tw11056574891673567064:=()
def tw3838955163910096645:=()
def tw6122900627396631468:=()
def tw13186058185810228887:=()
def tw12067714211156829848:=()
def tw4043741043034934939:=()
def tw1640844164214384566:=()
def tw17837593776979552054:=()
def tw10249024124550675392:=()
def tw4436265153105072942:=()
def tw6144043988565055101:=()
def tw2676651427285168829:=()
def tw2701089654376990111:=()
def tw16762632059916775992:=()
def tw6599116393262880376:=()
def tw10589871568860280316:=()
def tw1373091406164280511:=()
def tw5601400193866867252:=()
def tw12787336377348235686:=()
def tw2942551223090021421:=()
def tw7542358116043230443:=()
def tw8162530567549376767:=()
def tw9674534085328367327:=()
def tw3918726203442154542:=()
def tw3131578543349203795:=()
def tw11058185550183565132:=()
def tw10570109116546227113:=()
def tw13539325994851020517:=()
def tw11444775459625188351:=()
def tw16038465706069471361:=()
def tw12043189722923162494:=()
def tw4378230630653057601:=()
def tw10135457337141592211:=()
def tw1367677540539404006:=()
def tw6613173817254372496:=()
def tw15393259431984767732:=()
def tw2323479746344597176:=()
def tw6783544040745798835:=()
def tw10967175043396156986:=()
def tw304290807984775911:=()
def tw13933336436857773198:=()
def tw3008366002145657204:=()
def tw17801147544043152710:=()
def tw12138502245556616989:=()
def tw1686823766251339182:=()
def tw17766870459388939390:=()
def tw10371815848219997124:=()
def tw17210053166671218668:=()
def tw6143857732291374238:=()
def tw6003984994030371222:=()
def tw3092124015261847518:=()
def tw1256472900478995129:=()
def tw14589001068237798189:=()
def tw7285648643316651630:=()
def tw374030688218429694:=()
def tw14784383269215799794:=()
def tw13206669168450076557:=()
def tw6997854925664359562:=()
def tw16616066447468528007:=()
def tw10812399791718647053:=()
def tw13656234289072604438:=()
def tw11811501862994987753:=()
def tw13141546222146460856:=()
def tw8458291798753664561:=()
def tw277414091878357776:=()
def tw1414509388131621476:=()
def tw15063338004438748020:=()
def tw2962848336264143245:=()
def tw7045343853258372942:=()
def tw8979551757946950723:=()
def tw2704612278464731839:=()
def tw10941864716913542842:=()
def tw12075339273098332796:=()
def tw5808067263877559103:=()
def tw17987159816150596843:=()
def tw4983483742760030266:=()
def tw15425710089695369610:=()
def tw16494804570954716450:=()
def tw10073025704774517467:=()
def tw4018000158433687790:=()
def tw15953206772047551261:=()
def tw769303668642515635:=()
def tw5016024722587882253:=()
def tw2056242500499578064:=()
def tw15723951155667203078:=()
def tw15175615800009219775:=()
def tw6715465521594385911:=()
def tw14323687755632979248:=()
def tw3823792466987169996:=()
def tw11561454567315908680:=()
def tw16271238282499019100:=()
def tw17174326621918768957:=()
def tw9326375372526540920:=()
def tw15769166015728650819:=()
def tw13217341602750685066:=()
def tw12568901046957463930:=()
def tw14121560384870748937:=()
def tw913099218812897336:=()
def tw5107771604611862349:=()
def tw11213558960046342454:=()
def tw11042092581971512211:=()
def tw13418829308112101332:=()
def tw7965413900920054459:=()
def tw5410621880986501478:=()
def tw11204428291015399371:=()
def tw3557017664780059614:=()
def tw9669112190486592195:=()
def tw10079420716690559237:=()
def tw7293753371293683177:=()
def tw9719370918883851028:=()
def tw4274235296500813597:=()
def tw18228875305462504916:=()
def tw17072170128145995758:=()
def tw10057754349165583819:=()
def tw9852646794804348031:=()
def tw4099279588468672003:=()
def tw9602996887733525734:=()
def tw1221187926593622841:=()
def tw4047697660714057550:=()
def tw9101634059315707185:=()
def tw7007125376334341399:=()
def tw10705604746199428168:=()
def tw1544799145021203100:=()
def tw9605743651130602928:=()
def tw15151224448542274939:=()
def tw17600690183276496734:=()
def tw5080792588051577162:=()
def tw846116299637878167:=()
def tw5812566866996833296:=()
def tw1314225517857637087:=()
def tw8934303963606150712:=()
def tw918744014089928870:=()
def tw10498607679686703722:=()
def tw8216936904427062357:=()
def tw15052153071303347900:=()
def tw11049151459889587258:=()
def tw740185719911891123:=()
def tw3460854886818843469:=()
def tw11699772667840894937:=()
def tw4470185437808135954:=()
def tw17412309592831912615:=()
def tw5537094805954093047:=()
def tw10754965576335158725:=()
def tw17017327225984217454:=()
def tw16479146318857497425:=()
end PySem.W.Fast
open PySem PySem.W PyProof.Rows
set_option maxRecDepth 100000 in
set_option maxHeartbeats 0 in
theorem PySem.Challenge.cw_cabinet_k38_whole_paths_and_changes_holds : PySem.Challenge.rw_cabinet_k38_whole_paths_and_changes.Holds := by
  w_on;o_law;k_head;(case hw=>w_witness2)
  k_fill
  refine K38.walk (l:=PySem.Challenge.rw_cabinet_k38_whole_paths_and_changes) rfl rfl (fun w h Y=>PySem.W.kIn_of Y) ?F
  case F=>
    intro w mg fa h KX G hmg;refine' K38.all_mk KX G hmg ?a0 ?a1 ?a2 ?a3 ?a4 ?a5 ?a6 ?a7 ?a8 ?a9 ?a10 ?a11 ?a12 ?a13 ?a14 ?a15 ?a16 ?a17 ?a18 ?a19 ?a20 ?a21 ?a22 ?a23 ?a24 ?a25 ?a26 ?a27 ?a28 ?a29 ?a30 ?a31 ?a32 ?a33 ?a34 ?a35 ?a36 ?a37 ?a38 ?a39 ?a40 ?a41 ?a42 ?a43 ?a44 ?a45 ?a46 ?a47 ?a48 ?a49 ?l49 ?c49 ?k49 ?z0 ?z1 ?z2 ?z3 ?z4 ?z5 ?z6 ?z7 ?z8 ?z9 ?z10 ?y0 ?y1 ?y2 ?q0 ?q1 ?s0 ?s1 ?n0 ?n1 ?n2 ?n3 ?n4 ?n5 ?ha ?hs ?ht ?hk ?hu ?ga ?gs ?gt ?gk ?gu ?xaB ?xb1 ?xc0 ?xc1 ?xc2 ?cf ?cs ?pa ?pb0 ?pb2 ?pb3 ?pb4 ?pb5 ?pb6 ?pd0 ?pd1 ?pd2 ?ta ?tb0 ?tb2 ?tb3 ?tb6 ?xf2
    case a0 | a1 | a2 | a3 | a4 | a5 | a6 | a7 | a8 | a9 | a10 | a11 | a12 | a13 | a14 | a15 | a16 | a17 | a18 | a19 | a20 | a21 | a22 | a23 | a24 | a25 | a26 | a27 | a28 | a29 | a30 | a31 | a32 | a33 | a34 | a35 | a36 | a37 | a38 | a39 | a40 | a41 | a42 | a43 | a44 | a45 | a46 | a47 | a48=>exact⟨by k_is,_,_,_,_,_,_,_,_,_,by k_is,by k_is,by k_is⟩
    case a49 | l49 | c49 | k49 | z0 | z1 | z2 | z3 | z4 | z5 | z6 | z7 | z8 | z9 | z10 | y0 | y1 | y2 | q0 | q1 | s0 | s1 | n0 | n1 | n2 | n3 | n4 | n5 | ha | hs | ht | hk | hu | ga | gs | gt | gk | gu | xaB=>k_is
    case xb1=>first | rfl | kernel_rfl
    case xc0 | xc1 | xc2 | cf | cs | pa | pb0 | pb2 | pb3 | pb4 | pb5 | pb6 | pd0 | pd1 | pd2 | ta | tb0=>k_is
    case tb2=>first | rfl | kernel_rfl
    case tb3 | tb6=>k_is
    case xf2=>first | rfl | kernel_rfl
