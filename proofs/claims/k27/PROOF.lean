import PyProof.Rows.All
import Wide.All
import OpenK.AllK
import Wide.FinOn
import Lean
import PyProof.EqAt
import PyProof.EqKinds
import PyProof.TupleCall
import PyProof.StrReplace2
import PyProof.DictItems
import PyProof.EnumStmt
import PyProof.EnumFor
import PyProof.DictItemsLoops
import PyProof.ZipIter
import PyProof.IsRules
import PyProof.Rows.SortRev
import KE.KIntText
import OpenK.KRaise
import KE.TryInHelper
import PyProof.RulesRaise
import PyProof.Rows.RaiseClass
import PyProof.RaisesMany
import PyProof.ExcClass3
import PyProof.ExcBaseAll.ValueError
import KE.KTryMore
import PyProof.InstStoreFacts
import OpenK.KMake
import PyProof.ExcAttrAll.ValueError
import KE.KIsAll
import OpenK.KWalk
import OpenK.KDescr
import PyProof.PureStr
import PyProof.ExcStr
import PyProof.CallStr
import KE.KCallOwn
import KE.KSortTup
import PyProof.Rows.StrCut
import PyProof.StrBlock
import KE.IntTextLaws
import PyProof.DictValues
import PyProof.DictWalks
import PyProof.Rows.Range3
import KE.KDictOf
import KE.KRevIter
import KE.KDictList
import PyProof.EqAt
import PyProof.FString5
import PyProof.AttrMissHeap
import PySem.Challenge.RW_cabinet_k27_whole_any_row_read
set_option compiler.extract_closed false
set_option Elab.async false
set_option linter.all false
set_option maxRecDepth 100000
set_option maxHeartbeats 4000000
namespace L2
open PySem PySem.Spec PyProof.Rows
abbrev mC:=@List.length_append
abbrev mD:=@wpAny_bind
abbrev mE:=@List.length_cons
abbrev mF:=@List.mem_cons
abbrev mG:=@if_neg
abbrev mH:=@List.mem_cons_self
abbrev mI:=@Heap.get?_push_of_some
abbrev mJ:=@sizeLine_eq
abbrev mK:=@if_pos
abbrev mL:=@Nat.le_refl
abbrev mM:=@decide_eq_false
abbrev mN:=@List.append_nil
abbrev mO:=@wpAny_pure
abbrev mQ:=@List.mem_cons_of_mem
abbrev mR:=@Bool.false_ne_true
abbrev mS:=@List.mem_singleton
abbrev mU:=@List.length_replicate
abbrev mW:=@Heap.lt_size
abbrev mX:=@Nat.lt_of_lt_of_le
abbrev mY:=@List.map_cons
abbrev mZ:=@List.length_map
abbrev nA:=@List.length_nil
abbrev nB:=@decide_eq_true
abbrev nD:=@Heap.get?_update_other
abbrev nE:=@List.append_assoc
abbrev nF:=@List.size_toArray
abbrev nG:=@List.getElem?_eq_some_iff
abbrev nH:=@List.nil_append
abbrev nI:=@Heap.get?_push_size
abbrev nJ:=@True.intro
abbrev nL:=@List.length_drop
abbrev nM:=@List.getElem?_append_left
abbrev nN:=@PySem.F.plainAttrs_list
abbrev nO:=@List.getElem?_append_right
abbrev nP:=@List.not_mem_nil
abbrev nQ:=@Nat.ne_of_lt
abbrev nR:=@Nat.le_trans
abbrev nS:=@List.drop_drop
abbrev nU:=@List.cons_append
abbrev nV:=@Option.some.inj
abbrev nW:=@PySem.F.slot_list_append
abbrev nX:=@List.mem_append_right
abbrev nY:=@List.eq_nil_of_length_eq_zero
abbrev nZ:=@PySem.F.type_list_append
abbrev pA:=@List.mem_append
abbrev pB:=@List.mem_of_getElem?
abbrev pE:=@List.lookup_cons
abbrev pG:=@PySem.F.plainAttrs_str
abbrev pH:=@List.all_eq_true
abbrev pJ:=@List.nodup_cons
abbrev pK:=@List.map_append
abbrev pL:=@decide_eq_decide
abbrev pM:=@wpAny_holding
abbrev pO:=@List.length_singleton
abbrev pP:=@List.getElem?_map
abbrev pQ:=@decide_eq_true_eq
abbrev pR:=@Or.inl
abbrev pT:=@List.length_take
abbrev pU:=@List.replicate_succ
abbrev pV:=@wpAny_mono
abbrev pW:=@wpAny_Call_Name_kw
abbrev pX:=@List.map_nil
abbrev pY:=@List.getElem?_eq_getElem
abbrev pZ:=@wpAny_field
abbrev rA:=@List.mem_replicate
abbrev rB:=@List.getElem?_cons_zero
abbrev rC:=@Bool.and_eq_true
abbrev rD:=@or_false
abbrev rE:=@List.cons_ne_nil
abbrev rF:=@List.getD_eq_getElem?_getD
abbrev rG:=@List.exists_cons_of_ne_nil
abbrev rH:=@Array.getElem?_eq_some_iff
abbrev rJ:=@List.take_of_length_le
abbrev rK:=@Nat.zero_le
abbrev rL:=@wpAny_truthy_bool
abbrev rM:=@List.filterMap_cons
abbrev rN:=@PySem.mem_of_lookup
abbrev rP:=@codeAny_mono
abbrev rQ:=@List.getElem?_drop
abbrev rR:=@Nat.lt_irrefl
abbrev rT:=@Int.eq_ofNat_of_zero_le
abbrev rV:=@beq_eq_false_iff_ne
abbrev rW:=@List.takeWhile_cons
abbrev rX:=@Nat.zero_add
abbrev rY:=@List.drop_zero
abbrev rZ:=@PySem.F.slot_str_find
abbrev sA:=@PySem.F.type_str_find
abbrev sB:=@List.drop_eq_getElem_cons
abbrev sC:=@Array.getElem?_setIfInBounds_ne
abbrev sD:=@List.mem_append_left
abbrev sE:=@wpAny_call
abbrev sF:=@List.mem_map
abbrev sG:=@Int.emod_nonneg
abbrev sH:=@Int.toNat_natCast
abbrev sI:=@wpAny_getItem_str_slice
abbrev sJ:=@List.getElem?_cons_succ
abbrev sK:=@decide_eq_false_iff_not
abbrev sL:=@List.mem_map_of_mem
abbrev sM:=@wpAny_setField
abbrev sN:=@Nat.lt_succ_self
abbrev sO:=@List.drop_take
abbrev sP:=@List.take_length
abbrev sQ:=@wpAny_typeOf_ref
abbrev sR:=@Bool.false_eq_true
abbrev sS:=@W.kia_one
abbrev sT:=@Int.emod_lt_of_pos
abbrev sU:=@Nat.succ_pos
abbrev sV:=@wpAny_passesOwn
abbrev sW:=@if_false
abbrev sX:=@wpAny_standAt
abbrev sY:=@Heap.get?_none_of_le
abbrev sZ:=@typeIs_str
abbrev tD:=@Nat.pow_le_pow_right
abbrev tE:=@Heap.size_push
abbrev tF:=@List.drop_left
abbrev tG:=@List.take_left
abbrev tH:=@List.getElem?_take_of_lt
abbrev tI:=@beq_self_eq_true
abbrev tJ:=@wpAny_callSpecial?_slot
abbrev tK:=@wpAny_attempt
abbrev tL:=@if_true
abbrev tM:=@Bool.false_or
abbrev tO:=@Bool.not_true
abbrev tP:=@Bool.eq_iff_iff
abbrev tQ:=@List.find?_cons
abbrev tR:=@List.contains_cons
abbrev tS:=@Nat.le_succ
abbrev tT:=@of_decide_eq_true
abbrev tU:=@Heap.get?_update_self
abbrev tV:=@Bool.false_and
abbrev tW:=@Array.getElem?_toList
abbrev tX:=@Bool.or_true
abbrev tY:=@Nat.sub_self
abbrev tZ:=@PySem.F.slot_str_join
abbrev aA:=@PySem.F.type_str_join
abbrev aB:=@wpAny_call_entry
abbrev aD:=@List.getElem_mem
abbrev aE:=@codeAny_call_builtin
abbrev aF:=@Array.getElem?_setIfInBounds_self_of_lt
abbrev aG:=@List.take_succ_cons
abbrev aH:=@List.replicate_zero
abbrev aI:=@List.length_reverse
abbrev aJ:=@wpAny_execs_nil
abbrev aK:=@Nat.le_add_left
abbrev aL:=@List.getLast?_eq_getElem?
abbrev aM:=@Nat.ne_of_gt
abbrev aN:=@Calls.spliced_cons
abbrev aO:=@Bool.true_or
abbrev aP:=@Txt.slice_le
abbrev aQ:=@List.all_map
abbrev aR:=@List.set_cons_zero
abbrev aS:=@List.set_cons_succ
abbrev aT:=@beq_iff_eq
abbrev aU:=@call_meets
abbrev aV:=@Bool.and_false
abbrev aW:=@Bool.not_false
abbrev aX:=@wpAny_newObj_type
abbrev aY:=@List.flatten_cons
abbrev aZ:=@Nat.le_succ_of_le
abbrev bA:=@Calls.callWith_builtin
abbrev bB:=@Or.inr
abbrev bC:=@List.drop_eq_nil_of_le
abbrev bD:=@List.find?_cons_of_neg
abbrev bE:=@Bool.or_false
abbrev bF:=@List.any_cons
abbrev bG:=@wpAny_isInstance
abbrev bH:=@Nat.min_eq_right
abbrev bI:=@Nat.le_add_right
abbrev bJ:=@Option.join_some
abbrev bK:=@Option.join_none
abbrev bL:=@plainObj_wpAny_Assign_Attribute
abbrev bM:=@F.slot_str_ascii_iterator_next
abbrev bN:=@List.getElem?_set_ne
abbrev bO:=@List.of_mem_zip
abbrev bP:=@PyProof.Rows.callWith_builtin1
abbrev bQ:=@List.foldl_cons
abbrev bR:=@Bool.or_eq_true
abbrev bS:=@Nat.min_eq_left
abbrev bT:=@post_val_or_str
abbrev bU:=@Nat.mul_le_mul_right
abbrev bV:=@F.excBase_ValueError
abbrev bW:=@exists_eq_left'
abbrev bX:=@not_or
abbrev bY:=@Array.length_toList
abbrev bZ:=@length_partsBetween
abbrev cA:=@List.flatMap_append
abbrev cB:=@List.length_pos_iff
abbrev cC:=@isSubtype_stop
abbrev cD:=@wpAny_nameGoes
abbrev cE:=@wpAny_Constant_int
abbrev cF:=@Calls.Constant_str
abbrev cG:=@PyProof.Rows.callWith_type1
abbrev cH:=@tupleKind_room_in1
abbrev cI:=@Nat.lt_of_le_of_lt
abbrev cJ:=@List.pairwise_cons
abbrev cK:=@F.args_str_split_2
abbrev cL:=@Nat.add_sub_cancel
abbrev cM:=@PySem.W.callWith_K
abbrev cN:=@decide_eq_true_iff
abbrev cO:=@List.all_cons
abbrev cP:=@List.take_nil
abbrev cQ:=@F.entry_str_split
abbrev cR:=@List.flatMap_cons
abbrev cS:=@wpAny_execs_cons
abbrev cT:=@List.map_map
abbrev cU:=@List.drop_length
abbrev cV:=@F.slot_str_split
abbrev cW:=@Option.bind_some
abbrev cX:=@List.mem_filter
abbrev cY:=@Nat.not_lt_zero
abbrev cZ:=@Int.natCast_add
abbrev dA:=@List.drop_left'
def Hn(A:Around)(h:Heap):Prop:=∀v,A.handled=some v→∃x o C vs,v= .ref x∧h.get? x=some o∧o.cls= .ref C∧o.data= .fields vs∧vs[2]? =some Value.none
theorem Hn.kept{A:Around}{h h':Heap}(n:Hn A h)(k:∀b o C,o.cls= .ref C→h.get? b=some o→h'.get? b=some o):Hn A h':=fun v e=>by
 obtain⟨x,o,C,vs,a,b,c,d⟩:=n v e;exact⟨x,o,C,vs,a,k x o C c b,c,d⟩
theorem Hn.keeps{A:Around}{h h':Heap}(n:Hn A h)(k:∀b o,h.get? b=some o→h'.get? b=some o):Hn A h':=n.kept fun b o _ _=>k b o
theorem Hn.ext{A:Around}{h h':Heap}{it:Addr}{oi:Obj}{T:String}(n:Hn A h)(hi:h.get? it=some oi)(hT:oi.cls= .type T)(k:∀b o,b≠it→h.get? b=some o→h'.get? b=some o):Hn A h':=
 n.kept fun b o C c e=>k b o (fun z=>by subst z;rw[hi] at e;cases e;rw[hT] at c;cases c) e
theorem zBn:entryFor table "proto.unchain" =some Builtin.«proto.unchain»:=entryFor_of_fast (by kernel_rfl)
section
variable{prog:Program}{w:World}{A:Around}{E:Value→Shared→Prop}{s:Shared}{e:Addr}{oe:Obj}{ve:Array Value}
theorem zXj{α:Type}{Q:α→Shared→Prop}{T:String}(hn:Hn A s.heap)(e1:s.heap.get? e=some oe)(hT:oe.cls= .type T)(e2:oe.data= .fields ve)(hs:2<ve.size)
  (q:∀h' vs',(∀b o,b≠e→s.heap.get? b=some o→h'.get? b=some o)→(∀b,s.heap.get? b=none→h'.get? b=none)→h'.get? e=some {oe with data:=.fields vs'}→(vs'=ve∨∃c,vs'=ve.setIfInBounds 2 c)→E (.ref e) {s with heap:=h'}):wpAny (model prog w) A (raiseNew (.ref e):Sem α) Q E s:=by
 unfold raiseNew;refine mD (wpAny_handled ?_)
 cases hh:A.handled with
 | none=>exact mD (mO (wpAny_throw (q s.heap ve (fun _ _ _ z=>z) (fun _ z=>z) (by rw[e1,←e2]) (.inl rfl))))
 | some v=>
  obtain⟨x,o,C,vs,rfl,h1,h2,h3,h4⟩:=hn v hh;have ne:x≠e:=fun z=>by subst z;rw[e1] at h1;cases h1;rw[hT] at h2;cases h2
  dsimp only;rw[mK (by
   refine bne_iff_ne.mpr fun z=>ne ?_;cases z;rfl)]
  refine mD (pM (runValue_entry zBn ?_));unfold Builtin.«proto.unchain»;dsimp only;refine mD (pZ h1 h3 h4 ?_);rw[mK (by rfl)];refine mO ⟨_,rfl, ?_⟩;refine mD (sM e1 e2 hs ?_);refine wpAny_throw (q _ (ve.setIfInBounds 2 (.ref x)) (fun b o hb z=>(nD _ _ (Ne.symm hb)).trans z) (fun b z=>?_) ?_ (.inr ⟨_,rfl⟩))
  ·by_cases hb:b=e
   ·subst hb;rw[e1] at z;cases z
   ·exact(nD _ _ (Ne.symm hb)).trans z
  ·have:(Obj.mapFields (fun xs=>xs.setIfInBounds 2 (.ref x)) oe)={oe with data:=.fields (ve.setIfInBounds 2 (.ref x))}:=by
    cases oe;cases e2;rfl
   rw[←this];exact tU _ e1 (by rw[this];rfl)
theorem zAb{α:Type}{Q:α→Shared→Prop}{R:Value→Shared→Prop}(hn:Hn A s.heap)
  (hR:∀e h',(∀b o,s.heap.get? b=some o→h'.get? b=some o)→(∃oe,h'.get? e=some oe∧oe.cls= .type "StopIteration")→R (.ref e) {s with heap:=h'}):
  wpAny (model prog w) A (do let e ←PySem.newExc (.type "StopIteration") [];raiseNew e:Sem α) Q R s:=by
 refine mD ?_;simp only[PySem.newExc,newTuple];refine mD (aX ?_ (by size_fits));refine mD (m:=firstArgMember _ _) (wpAny_of_eq (a:=Value.none) (by first | rfl |(simp only[firstArgMember];rfl)) ?_)
 refine aX ?_ (by size_fits);refine zXj ?_ (nI _ rfl) rfl rfl (by simp;lia) fun h' vs' k1 _ k2 _=>?_
 ·exact hn.keeps fun b o e=>mI _ (mI _ e)
 ·refine hR _ h' (fun b ob e=>?_) ⟨_,k2,rfl⟩
  have e1:=mI {cls:=.type "tuple",data:=.seq ([]:List Value).toArray} e;exact k1 b ob (nQ (mW e1)) (mI _ e1)
theorem zQy{α:Type}{it:Addr}{o:Obj}{v:Value}{k:Nat}{vs:Array Value}{Ti:String}{Q:α→Shared→Prop}{R:Value→Shared→Prop}(hn:Hn A s.heap)(ho:s.heap.get? it=some o)(hc:o.cls= .type Ti)(hd:o.data= .fields vs)(hk:k<vs.size)
  (hR:∀e h',Heap.ExtBut it s.heap h'→(∃oe,h'.get? e=some oe∧oe.cls= .type "StopIteration")→R (.ref e) {s with heap:=h'}):
  wpAny (model prog w) A (do setField (.ref it) k v;let e ←PySem.newExc (.type "StopIteration") [];raiseNew e:Sem α) Q R s:=by
 refine mD (sM ho hd hk ?_);exact zAb (hn.ext ho hc fun b o hb e=>(nD _ _ (Ne.symm hb)).trans e) fun e h' k1 k2=>hR e h' (fun b ob hb e=>k1 b ob ((nD _ _ (Ne.symm hb)).trans e)) k2
theorem zCy{it l:Addr}{i:Nat}{items:Array Value}{Q:Option Value→Shared→Prop}(hn:Hn A s.heap)(hit:s.heap.IsListIter it l i)(hl:s.heap.IsList l items)(hx:items[i]? =none)
  (hQ:∀h',Heap.ExtBut it s.heap h'→Q none {s with heap:=h'}):wpAny (model prog w) A (pyNext (.ref it)) Q E s:=by
 obtain⟨o,ho,hc,hd⟩:=id hit;obtain⟨ol,hol,_,nl,hdl⟩:=hl;unfold pyNext;refine mD (tK (tJ (name:=Str.ofString "__next__") hit.typeIs slot_listiter_next
  (aB slot_listiter_next hit.typeIs entry_listiter_next ?_ (args_listiter_next _))))
 show wpAny _ _ (field (.ref it) 0>>=_) _ _ s;refine mD (pZ ho hd (x:=.ref l) rfl ?_);show wpAny _ _ (if(Value.ref l==Value.none)=true then _ else _) _ _ s;rw[mG (show¬((Value.ref l==Value.none)=true) from mR)];show wpAny _ _ (field (.ref it) 1>>=_) _ _ s;refine mD (pZ ho hd (x:=.int i 0) rfl ?_);show wpAny _ _ (seqItems? (.ref l)>>=_) _ _ s;refine mD (wpAny_seqItems hol hdl ?_);simp only[sH,hx];refine mD (wpAny_rule (zQy (A:=A.in1) hn ho hc hd (by simp) fun e h' k ⟨oe,he,hT⟩=>?_));refine mD (bG (T:="StopIteration") (b:=true) ⟨oe,he,hT⟩ cC ?_);exact mO (hQ _ k)
theorem zIw{it t:Addr}{i:Nat}{items:Array Value}{Q:Option Value→Shared→Prop}(hn:Hn A s.heap)(hit:IsTupIter s.heap it t i)(ht:IsTup s.heap t items)(hx:items[i]? =none)
  (hQ:∀h',Heap.ExtBut it s.heap h'→Q none {s with heap:=h'}):wpAny (model prog w) A (pyNext (.ref it)) Q E s:=by
 obtain⟨o,ho,hc,hd⟩:=id hit;obtain⟨ol,hol,_,nl,hdl⟩:=ht;unfold pyNext;refine mD (tK (tJ (name:=Str.ofString "__next__") hit.typeIs slot_tupleiter_next
  (aB slot_tupleiter_next hit.typeIs entry_tupleiter_next ?_ (args_tupleiter_next _))))
 show wpAny _ _ (field (.ref it) 0>>=_) _ _ s;refine mD (pZ ho hd (x:=.ref t) rfl ?_);show wpAny _ _ (if(Value.ref t==Value.none)=true then _ else _) _ _ s;rw[mG (show¬((Value.ref t==Value.none)=true) from mR)];show wpAny _ _ (field (.ref it) 1>>=_) _ _ s;refine mD (pZ ho hd (x:=.int i 0) rfl ?_);show wpAny _ _ (seqItems? (.ref t)>>=_) _ _ s;refine mD (wpAny_seqItems hol hdl ?_);simp only[sH,hx];refine mD (wpAny_rule (zQy (A:=A.in1) hn ho hc hd (by simp) fun e h' k ⟨oe,he,hT⟩=>?_));refine mD (bG (T:="StopIteration") (b:=true) ⟨oe,he,hT⟩ cC ?_);exact mO (hQ _ k)
theorem zHy{it:Addr}{x:Str}{t:Tok}{i:Nat}{Q:Option Value→Shared→Prop}(hn:Hn A s.heap)
  (hit:s.heap.IsStrIter it "str_ascii_iterator" x t i) (hx:x.cps[i]? =none)
  (hQ:∀h',Heap.ExtBut it s.heap h'→Q none {s with heap:=h'}):wpAny (model prog w) A (pyNext (.ref it)) Q E s:=by
 obtain⟨o,ho,hc,hd⟩:=id hit;unfold pyNext;refine mD (tK (tJ (name:=Str.ofString "__next__") hit.typeIs bM
  (aB bM hit.typeIs F.entry_str_ascii_iterator_next ?_ (F.args_str_ascii_iterator_next_1 _))))
 show wpAny _ _ (field (.ref it) 0>>=_) _ _ s;refine mD (pZ ho hd (x:=.str x t) rfl ?_);show wpAny _ _ (field (.ref it) 1>>=_) _ _ s;refine mD (pZ ho hd (x:=.int i 0) rfl ?_);simp only[sH,hx];refine mD (wpAny_rule (mD (sM ho hd (by simp) (mD (wpAny_letGo ?_)))));refine zAb (A:=A.in1) ?_ fun e h' k ⟨oe,he,hT⟩=>?_
 ·exact hn.ext ho hc fun b o hb e=>(nD _ _ (Ne.symm hb)).trans e
 refine mD (bG (T:="StopIteration") (b:=true) ⟨oe,he,hT⟩ cC ?_);exact mO (hQ _ fun b ob hb e=>k b ob ((nD _ _ (Ne.symm hb)).trans e))
theorem zKg{it:Addr}{x:Str}{t:Tok}{i:Nat}{Q:Option Value→Shared→Prop}(hn:Hn A s.heap)
  (hit:s.heap.IsStrIter it "str_iterator" x t i) (hx:x.cps[i]? =none)
  (hQ:∀h',Heap.ExtBut it s.heap h'→Q none {s with heap:=h'}):wpAny (model prog w) A (pyNext (.ref it)) Q E s:=by
 obtain⟨o,ho,hc,hd⟩:=id hit;unfold pyNext;refine mD (tK (tJ (name:=Str.ofString "__next__") hit.typeIs F.slot_str_iterator_next
  (aB F.slot_str_iterator_next hit.typeIs F.entry_str_iterator_next ?_ (F.args_str_iterator_next_1 _))))
 show wpAny _ _ (field (.ref it) 0>>=_) _ _ s;refine mD (pZ ho hd (x:=.str x t) rfl ?_);show wpAny _ _ (field (.ref it) 1>>=_) _ _ s;refine mD (pZ ho hd (x:=.int i 0) rfl ?_);simp only[sH,hx];refine mD (wpAny_rule (mD (sM ho hd (by simp) (mD (wpAny_letGo ?_)))));refine zAb (A:=A.in1) ?_ fun e h' k ⟨oe,he,hT⟩=>?_
 ·exact hn.ext ho hc fun b o hb e=>(nD _ _ (Ne.symm hb)).trans e
 refine mD (bG (T:="StopIteration") (b:=true) ⟨oe,he,hT⟩ cC ?_);exact mO (hQ _ fun b ob hb e=>k b ob ((nD _ _ (Ne.symm hb)).trans e))
theorem zVi{t:Addr}{items:Array Value}{targets:List (Bool×(Value→Sem Unit))}{Q:Unit→Shared→Prop}(hn:Hn A s.heap)(ht:IsTup s.heap t items)(hl:targets.length=items.size)(hstar:targets.findIdx? (·.1)=none)
  (h:∀h',Heap.ExtBut s.heap.objs.size s.heap h'→wpAny (model prog w) A (assignInOrder (targets.map (·.2)) items.toList) Q E {s with heap:=h'}):
  wpAny (model prog w) A (unpack (.ref t) targets) Q E s:=by
 have hlt:t≠s.heap.objs.size:=by obtain⟨o,ho,_⟩:=ht;exact nQ (mW ho)
 unfold unpack;rw[hl,hstar];refine mD (pM ?_);unfold unpackItems;refine mD ?_;unfold notIterableAtAll;refine mD (wpAny_specialOf ht.typeIs slot_tuple_iter.lookup ?_);refine mO ?_;simp only[sR,sW];refine mD (pM (iter_tuple ht ?_));refine mD (pM (draw_tuple hlt items.size 0 _ _ ⟨_,nI _ rfl,rfl,rfl⟩ (ht.push _) (by lia) fun h₁ hit₁ hs₁=>?_));have hall:List.take items.size (List.drop 0 items.toList)=items.toList:=by
  rw[rY];exact rJ (by simp)
 rw[hall];rw[mG (by simp)];have ht₁:IsTup h₁ t items:=(ht.push _).extBut hs₁.extBut hlt;refine mD (pM (zIw ((hn.keeps fun b o e=>mI _ e).ext (nI _ rfl) rfl hs₁.extBut) hit₁ ht₁ (by simp) fun h₂ he₂=>?_));simp only[Option.isSome_none,sR,sW];exact mO (h h₂ fun b o hb e=>he₂ b o hb (hs₁.extBut b o hb (mI _ e)))
theorem zFr{x:Option Addr}(hx:∀v,A.handled=some v→∃a,x=some a∧v= .ref a)(I ax:Addr)(hne:ax≠I)(items:Array Value):
  Walks prog w A I ([I,ax]++x.toList) [I] items.size (fun i v=>items[i]? =some v) (fun i h=>h.IsListIter I ax i∧h.IsList ax items∧Hn A h) where
 sub:=fun b hb=>by simp at hb;simp[hb]
 frame:=fun _ _ _ st hk=>⟨st.1.at fun o e=>hk I (by simp) o e,st.2.1.at fun o e=>hk ax (by simp) o e,fun v e=>by
  obtain⟨a,rfl,rfl⟩:=hx v e;obtain⟨x,o,C,vs,z,h1,h2⟩:=st.2.2 _ e;cases z;exact⟨a,o,C,vs,rfl,hk a (by simp) o h1,h2⟩⟩
 item:=fun i s Q E hi st hQ=>by
  obtain⟨o,ho,hc,hd⟩:=id st.1;refine wpAny_pyNext_list_item st.1 st.2.1 (x:=items[i]) (by simp[hi]) fun h' hit' hs'=>?_;exact hQ _ h' s.toks (by simp[hi]) ⟨hit',st.2.1.extBut hs'.extBut hne,st.2.2.ext ho hc hs'.extBut⟩ fun b o hb e=>hs'.extBut b o (fun h=>hb (by simp[h])) e
 done:=fun s Q E st hQ=>zCy st.2.2 st.1 st.2.1 (by simp) fun h' he'=>hQ h' s.toks fun b o hb e=>he' b o (fun h=>hb (by simp[h])) e
 self:=fun _ _ _ _ st hQ=>wpAny_pyIter_listiter st.1 hQ
end
theorem zCz{prog:Program}{w:World}{A:Around}{E:Value→Shared→Prop}{s:Shared}{env:Env}{elts:List Expr}{x1}{pos:Pos}{t:Addr}{items:Array Value}{Q:Unit→Shared→Prop}(hh:Hn A s.heap)(ht:IsTup s.heap t items)
  (hn:(assignEach elts env).length=items.size) (hstar:(assignEach elts env).findIdx? (·.1)=none)
  (h:∀h',Heap.ExtBut s.heap.objs.size s.heap h'→wpAny (model prog w) A (assignInOrder ((assignEach elts env).map (·.2)) items.toList) Q E {s with heap:=h'}):
  wpAny (model prog w) A (assign (.Tuple elts x1 pos) env (.ref t)) Q E s:=by
 rw[assign_Tuple];exact mD (sX (zVi hh ht hn hstar h))
section
variable{prog:Program}{w:World}{κ:Type} [DecidableEq κ] {knd:KeyKind prog w κ} {A:Around} {E:Value→Shared→Prop} {s:Shared}
end
section
variable{prog:Program}{w:World}{κ:Type} [DecidableEq κ] {knd:KeyKind prog w κ} {A:Around} {E:Value→Shared→Prop} {s:Shared}
end
section
variable{prog:Program}{w:World}{A:Around}{E:Value→Shared→Prop}
end
abbrev Key:=Sum Int Str
def zBt:Key→Value→Bool
 | .inl k,v=>Value.isInt k v
 | .inr x,v=>Value.isStrOf x v
def keyH(w:World):Key→Int
 | .inl k=>hashInt k
 | .inr x=>hashStr w x
theorem xD:∀{k:Key}{v:Value},zBt k v=true→(∃i t,k=Sum.inl i∧v=Value.int i t)∨(∃x t,k=Sum.inr x∧v=Value.str x t)
 | .inl i,v,h=>by
  obtain⟨t,e⟩:=Value.isInt_shape (k:=i) (v:=v) h;exact .inl ⟨i,t,rfl,e⟩
 | .inr x,v,h=>by
  obtain⟨t,e⟩:=Value.isStrOf_shape (x:=x) (v:=v) h;exact .inr ⟨x,t,rfl,e⟩
theorem zPh(i:Int)(t:Tok):zBt (.inl i) (.int i t)=true:=by simp[zBt,Value.isInt]
theorem qT(x:Str)(t:Tok):zBt (.inr x) (.str x t)=true:=by simp[zBt,Value.isStrOf]
theorem zZa(a b:Int):decide ((Sum.inl a:Key)=Sum.inl b)=(a==b):=by
 by_cases e:a=b
 ·subst e;simp
 ·have h:¬(Sum.inl a:Key)=Sum.inl b:=fun q=>e (Sum.inl.inj q)
  rw[mM h];exact(rV.mpr e).symm
theorem zYm(a b:Str):decide ((Sum.inr a:Key)=Sum.inr b)=decide (a=b):=by
 by_cases e:a=b
 ·subst e;simp
 ·have h:¬(Sum.inr a:Key)=Sum.inr b:=fun q=>e (Sum.inr.inj q)
  rw[mM h,mM e]
theorem zZr(a:Int)(b:Str):decide ((Sum.inl a:Key)=Sum.inr b)=false:=mM (fun q=>nomatch q)
theorem zYk(a:Str)(b:Int):decide ((Sum.inr a:Key)=Sum.inl b)=false:=mM (fun q=>nomatch q)
def yQ(prog:Program)(w:World):PySem.KeyKind prog w Key where
 is:=zBt
 hash:=keyH w
 inj:=fun v a b ha hb=>by
  rcases xD ha with⟨i,t,rfl,rfl⟩|⟨x,t,rfl,rfl⟩
  ·rcases xD hb with⟨j,u,rfl,e⟩|⟨y,u,rfl,e⟩
   ·injection e with e1 _;rw[e1]
   ·exact nomatch e
  ·rcases xD hb with⟨j,u,rfl,e⟩|⟨y,u,rfl,e⟩
   ·exact nomatch e
   ·injection e with e1 _;rw[e1]
 byValue:=fun k v h=>by
  rcases xD h with⟨i,t,rfl,rfl⟩|⟨x,t,rfl,rfl⟩<;>rfl
 pyHash:=fun hv h=>by
  rcases xD hv with⟨i,t,rfl,rfl⟩|⟨x,t,rfl,rfl⟩
  ·exact wpAny_pyHash_int h
  ·exact wpAny_pyHash_str h
 eqBool:=fun hu hv h=>by
  rcases xD hu with⟨i,t,rfl,rfl⟩|⟨x,t,rfl,rfl⟩
  ·rcases xD hv with⟨j,u,rfl,rfl⟩|⟨y,u,rfl,rfl⟩
   ·rw[zZa] at h;exact wpAny_eqBool_int h
   ·rw[zZr] at h;exact SeqAt.EqAt.int_str i t y u _ _ _ _ h
  ·rcases xD hv with⟨j,u,rfl,rfl⟩|⟨y,u,rfl,rfl⟩
   ·rw[zYk] at h;exact SeqAt.EqAt.str_int x t j u _ _ _ _ h
   ·rw[zYm] at h;exact wpAny_eqBool_str h
 «strs»:=fun k x t v h=>by
  rcases xD h with⟨i,u,rfl,e⟩|⟨y,u,rfl,e⟩
  ·exact nomatch e
  ·injection e with e1 _
   subst e1;cases v<;>rfl
theorem zIb(prog:Program)(w:World)(i:Int)(t:Tok):(yQ prog w).is (.inl i) (.int i t)=true:=zPh i t
theorem zHi(prog:Program)(w:World)(x:Str)(t:Tok):(yQ prog w).is (.inr x) (.str x t)=true:=qT x t
inductive V where
 | non | bl (b:Bool)| int (i:Int)| str (x:Str)| byt (b:Array UInt8)| flt (b:UInt64)| ref (a:Addr)| ty (n:String)
 deriving DecidableEq
def RelV:V→Value→Prop
 | .non,u=>u=Value.none
 | .bl b,u=>u=Value.bool b
 | .int i,u=>∃t,u=Value.int i t
 | .str x,u=>∃t,u=Value.str x t
 | .byt b,u=>∃t,u=Value.bytes b t
 | .flt b,u=>∃t,u=Value.float b t
 | .ref a,u=>u=Value.ref a
 | .ty n,u=>u=Value.type n
abbrev Vals:List V→List Value→Prop:=Paired RelV
theorem Vals.length{xs:List V}{us:List Value}(r:Vals xs us):xs.length=us.length:=Paired.length r
theorem Vals.get:∀{xs:List V}{us:List Value}{i:Nat}{x:V},Vals xs us→xs[i]? =some x→∃u,us[i]? =some u∧RelV x u
 | _,_,_,_, .nil,e=>by simp at e
 | _,_,0,_, .cons r _,e=>by simp at e;subst e;exact⟨_,rfl,r⟩
 | _,_,i+1,x, .cons _ t,e=>by
  obtain⟨u,h1,h2⟩:=Vals.get (i:=i) (x:=x) t (by simpa using e);exact⟨u,by simpa using h1,h2⟩
theorem Vals.set{x:V}{u:Value}(r:RelV x u):∀{xs:List V}{us:List Value}(i:Nat),Vals xs us→Vals (xs.set i x) (us.set i u)
 | _,_,_, .nil=>.nil
 | _,_,0, .cons _ t=>.cons r t
 | _,_,i+1, .cons q t=>.cons q (Vals.set r i t)
theorem Vals.append:∀{xs ys:List V}{us ws:List Value},Vals xs us→Vals ys ws→Vals (xs++ys) (us++ws)
 | _,_,_,_, .nil,s=>s
 | _,_,_,_, .cons r t,s=>.cons r (Vals.append t s)
theorem Vals.take:∀{xs:List V}{us:List Value}(n:Nat),Vals xs us→Vals (xs.take n) (us.take n)
 | _,_,0,_=>.nil
 | _,_,_+1, .nil=>.nil
 | _,_,n+1, .cons r t=>.cons r (Vals.take n t)
theorem Vals.drop:∀{xs:List V}{us:List Value}(n:Nat),Vals xs us→Vals (xs.drop n) (us.drop n)
 | _,_,0,r=>r
 | _,_,_+1, .nil=>.nil
 | _,_,n+1, .cons _ t=>Vals.drop n t
def RelO:Option V→Option Value→Prop
 | some v,some u=>RelV v u
 | none,none=>True
 | _,_=>False
def KV{κ:Type}:List (κ×V)→List (κ×Value)→Prop:=Paired fun(p:κ×V) (q:κ×Value)=>p.1=q.1∧RelV p.2 q.2
def kV:Key→V
 | .inl i=>.int i
 | .inr x=>.str x
inductive HO where
 /-- a list -/
 | lst (xs:List V)
 /-- a tuple (never changes)-/
 | tup (xs:List V)
 /-- a dict whose keys are ints and texts;one whose keys are tuples of ints and texts (the empty one is both)-/
 | dK (kvs:List (Key×V))| dT (kvs:List (List Key×V))
 /-- a set of ints:its members,its size -/
 | set (S:Int→Bool) (n:Nat)
 /-- an instance of the class at C,its dict at dx,its attributes -/
 | ins (C dx:Addr) (fs:List (Str×V))
 /-- the dict of the instance at x -/
 | own (x:Addr)
 /-- the dict of an exception -/
 | xd (fs:List (Str×V))
 /-- a bound method,f of x -/
 | met (f x:Addr)
 /-- a range object lo,lo+1, .. below hi -/
 | rng (lo hi:Int)
 /-- a thing that is known to the object (the script;a dict while a loop walks it):read,never written while it is so -/
 | frz (o:Obj) (u:HO)
 /-- a code object's table -/
 | tbl (ps:Array Value)
 /-- any other thing,by what is true of its one object (a def of one's own:SetO a S n:=HO.ext fun h=>..)-/
 | ext (φ:Heap→Prop)
abbrev Hp:=Addr→Option HO
def upd(H:Hp)(a:Addr)(o:HO):Hp:=fun b=>if b=a then some o else H b
theorem zF{H:Hp}{a:Addr}{o:HO}:upd H a o a=some o:=by unfold upd;rw[mK rfl]
theorem zL{H:Hp}{a b:Addr}{o:HO}(h:b≠a):upd H a o b=H b:=by unfold upd;rw[mG h]
theorem zWq{H:Hp}{a:Addr}{o u:HO}:upd (upd H a o) a u=upd H a u:=by
 funext b;unfold upd;split<;>rfl
theorem zAr{H:Hp}{a b:Addr}{o u:HO}(h:H a=some o)(h':H b=some u)(d:o≠u):a≠b:=by
 intro e;subst e;rw[h] at h';exact d (nV h')
theorem yI{H:Hp}{a b:Addr}{o:HO}(h:H a=some o)(h':H b=none):a≠b:=by
 intro e;subst e;rw[h] at h';cases h'
section
variable(P:Program)(w:World)
def ObjOk(H:Hp)(h:Heap)(a:Addr):HO→Prop
 | .lst xs=>xs.length≤sizeLine∧∃(its:List Value)(n:Nat),Vals xs its∧h.get? a=some {cls:=.type "list",data:=.seq its.toArray n}
 | .tup xs=>xs.length≤sizeLine∧∃its:List Value,Vals xs its∧IsTup h a its.toArray
 | .dK kvs=>kvs.length≤sizeLine∧(a==sysModules)=false∧∃vs,KV kvs vs∧h.DictOf (yQ P w) a vs
 | .dT kvs=>kvs.length≤sizeLine∧(a==sysModules)=false∧∃xs:List (List Key×Addr×Value),
   Paired (fun(p:List Key×V) (q:List Key×Addr×Value)=>p.1=q.1∧H q.2.1=some (.tup (p.1.map kV))∧RelV p.2 q.2.2) kvs xs∧
   ∃o es ep,h.get? a=some o∧o.ExactDict∧o.data= .dict es ep∧es.toList=xs.map (entryOfKey (tupleKind (yQ P w)))∧(xs.map (·.1)).Nodup
 | .set S n=>h.SetOf (intKind P w) a S n
 | .ins C dx fs=>H dx=some (.own a)∧fs.length≤1000∧dx≠a∧h.get? a=some (W.instObj C dx)∧
   ∃mA,h.Ns1 dx mA∧(∀f,RelO (fs.lookup f) (mA f))∧PySem.Within mA (fs.map (·.1))
 | .own _=>∃o,h.get? a=some o
 | .xd fs=>∃mA,h.Ns1 a mA∧∀f,RelO (fs.lookup f) (mA f)
 | .rng lo hi=>∃t u v,h.get? a=some {cls:=.type "range",data:=.fields #[.int lo t, .int hi u, .int 1 v]}
 | .frz o u=>h.get? a=some o∧ObjOk H h a u
 | .tbl ps=>h.get? a=some {cls:=.none,data:=.fields ps}
 | .met f x=>h.get? a=some (W.methodObj (.ref f) (.ref x))
 | .ext φ=>φ h∧(∃o,h.get? a=some o)∧∀h1 h2:Heap,φ h1→(∀o,h1.get? a=some o→h2.get? a=some o)→φ h2
def HOk(H:Hp)(h:Heap):Prop:=∀a o,H a=some o→ObjOk P w H h a o
end
section
variable{P:Program}{w:World}{H H':Hp}{h h':Heap}{a:Addr}{o:HO}
theorem ObjOk.lt(x:ObjOk P w H h a o):a<h.objs.size:=by
 cases o with
 | lst xs=>obtain⟨_,_,_,_,e⟩:=x;exact mW e
 | tup xs=>obtain⟨_,_,_,p⟩:=x;exact p.lt
 | dK kvs=>obtain⟨_,_,_,_,o,_,_,e,_⟩:=x;exact mW e
 | dT kvs=>obtain⟨_,_,_,_,o,_,_,e,_⟩:=x;exact mW e
 | set S n=>obtain⟨o,_,_,_,e,_⟩:=x;exact mW e
 | ins C dx fs=>obtain⟨_,_,_,e,_⟩:=x;exact mW e
 | own y=>obtain⟨_,e⟩:=x;exact mW e
 | xd fs=>obtain⟨_,⟨_,_,_,e,_⟩,_⟩:=x;exact mW e
 | rng lo hi=>obtain⟨_,_,_,e⟩:=x;exact mW e
 | frz ob u=>obtain⟨e,_⟩:=x;exact mW e
 | tbl ps=>exact mW (show h.get? a=some _ from x)
 | met f y=>exact mW (show h.get? a=some _ from x)
 | ext φ=>obtain⟨_,⟨_,e⟩,_⟩:=x;exact mW e
theorem Paired.mapP{α β:Type}{F G:α→β→Prop}:∀{l₁:List α}{l₂:List β},Paired F l₁ l₂→(∀a b,F a b→G a b)→Paired G l₁ l₂
 | _,_, .nil,_=>.nil
 | _,_, .cons r t,f=>.cons (f _ _ r) (Paired.mapP t f)
theorem ObjOk.stay(x:ObjOk P w H h a o)(k:∀b u,(b=a∨H b=some (.own a))→h.get? b=some u→h'.get? b=some u)
  (ho:∀b,H b=some (.own a)→H' b=some (.own a)) (ht:∀b xs,H b=some (.tup xs)→H' b=some (.tup xs)):ObjOk P w H' h' a o:=by
 induction o with
 | lst xs=>obtain⟨z,its,n,r,e⟩:=x;exact⟨z,its,n,r,k _ _ (.inl rfl) e⟩
 | tup xs=>obtain⟨z,its,r,ob,e,c⟩:=x;exact⟨z,its,r,ob,k _ _ (.inl rfl) e,c⟩
 | dK kvs=>obtain⟨z,y,vs,r,ob,es,ep,e,c⟩:=x;exact⟨z,y,vs,r,ob,es,ep,k _ _ (.inl rfl) e,c⟩
 | dT kvs=>
  obtain⟨z,y,xs,r,ob,es,ep,e,c⟩:=x;exact⟨z,y,xs,Paired.mapP r fun p q z=>⟨z.1,ht _ _ z.2.1,z.2.2⟩,ob,es,ep,k _ _ (.inl rfl) e,c⟩
 | set S n=>obtain⟨ob,es,ep,t,e,c⟩:=x;exact⟨ob,es,ep,t,k _ _ (.inl rfl) e,c⟩
 | ins C dx fs=>
  obtain⟨d,z,ne,e,mA,⟨od,es,ep,e2,c⟩,r⟩:=x;exact⟨ho _ d,z,ne,k _ _ (.inl rfl) e,mA,⟨od,es,ep,k _ _ (.inr d) e2,c⟩,r⟩
 | own y=>obtain⟨ob,e⟩:=x;exact⟨ob,k _ _ (.inl rfl) e⟩
 | xd fs=>obtain⟨mA,⟨od,es,ep,e,c⟩,r⟩:=x;exact⟨mA,⟨od,es,ep,k _ _ (.inl rfl) e,c⟩,r⟩
 | rng lo hi=>obtain⟨t,u,v,e⟩:=x;exact⟨t,u,v,k _ _ (.inl rfl) e⟩
 | frz ob u ih=>obtain⟨e,q⟩:=x;exact⟨k _ _ (.inl rfl) e,ih q⟩
 | tbl ps=>
  have e:h.get? a=some {cls:=.none,data:=.fields ps}:=x;show h'.get? a=some {cls:=.none,data:=.fields ps};exact k a _ (.inl rfl) e
 | met f y=>
  have e:h.get? a=some (W.methodObj (.ref f) (.ref y)):=x;show h'.get? a=some (W.methodObj (.ref f) (.ref y));exact k a _ (.inl rfl) e
 | ext φ=>obtain⟨p,⟨o,e⟩,st⟩:=x;exact⟨st _ _ p fun o q=>k _ _ (.inl rfl) q,⟨o,k _ _ (.inl rfl) e⟩,st⟩
theorem HOk.lt(x:HOk P w H h)(e:H a=some o):a<h.objs.size:=(x a o e).lt
theorem HOk.fresh(x:HOk P w H h)(e:h.objs.size≤a):H a=none:=by
 cases q:H a with
 | none=>rfl
 | some u=>exact absurd (mX (x.lt q) e) (rR _)
theorem HOk.kept(x:HOk P w H h)(k:∀b u,h.get? b=some u→h'.get? b=some u):HOk P w H h':=fun a o e=>
 (x a o e).stay (fun b u _ q=>k b u q) (fun _ q=>q) fun _ _ q=>q
theorem HOk.laid(x:HOk P w H h)(k:∀b u,h.get? b=some u→h'.get? b=some u)(hp:h.objs.size≤a)(new:ObjOk P w (upd H a o) h' a o):HOk P w (upd H a o) h':=fun b u e=>by
 have hn:=x.fresh hp
 by_cases hb:b=a
 ·subst hb;rw[zF] at e;cases e;exact new
 ·rw[zL hb] at e
  exact(x b u e).stay (fun c v _ q=>k c v q) (fun c q=>by rw[zL (yI q hn)];exact q) fun c xs q=>by rw[zL (yI q hn)];exact q
end
def Rd(H:Hp)(a:Addr)(u:HO):Prop:=H a=some u∨∃o,H a=some (.frz o u)
theorem Rd.ok{P:Program}{w:World}{H:Hp}{h:Heap}{a:Addr}{u:HO}(r:Rd H a u)(x:HOk P w H h):ObjOk P w H h a u:=by
 rcases r with r |⟨o,r⟩
 ·exact x a u r
 ·obtain⟨_,q⟩:=x a _ r
  exact q
def Mut:Option HO→Prop
 | some (.lst _)=>True
 | some (.dK _)=>True
 | some (.dT _)=>True
 | some (.set _ _)=>True
 | some (.ins _ _ _)=>True
 | some (.ext _)=>True
 | _=>False
section
variable{P:Program}{w:World}{H:Hp}{h h':Heap}{x e:Addr}{o':HO}
theorem HOk.write(ok:HOk P w H h)(mu:Mut (H x))(he:e=x∨H e=some (.own x))(k:∀b u,b≠e→h.get? b=some u→h'.get? b=some u)(heo:∃u,h'.get? e=some u)
  (new:ObjOk P w (upd H x o') h' x o'):HOk P w (upd H x o') h':=fun b u q=>by
 have nown:∀c y,H c=some (.own y)→c≠x:=fun c y r z=>by subst z;rw[r] at mu;exact mu
 have ntup:∀c xs,H c=some (.tup xs)→c≠x:=fun c xs r z=>by subst z;rw[r] at mu;exact mu
 by_cases hb:b=x
 ·subst hb;rw[zF] at q;cases q;exact new
 ·rw[zL hb] at q
  by_cases hbe:b=e
  ·have q':H b=some (.own x):=by
    rcases he with z | z
    ·exact absurd (hbe.trans z) hb
    ·rw[hbe];exact z
   rw[q] at q';cases q';obtain⟨v,hv⟩:=heo;exact⟨v,by rw[hbe];exact hv⟩
  ·refine(ok b u q).stay (fun c v hc r=>k c v ?_ r) (fun c r=>by rw[zL (nown c b r)];exact r) fun c xs r=>by rw[zL (ntup c xs r)];exact r
   rcases hc with rfl | hc
   ·exact hbe
   ·rintro rfl
    rcases he with z | z
    ·exact nown c b hc z
    ·rw[hc] at z;cases z;exact hb rfl
end
structure Un(fs ex:List Addr)(H H':Hp)(h h':Heap):Prop where
 keep:∀b o,h.get? b=some o→H b=none→b∉fs→b∉ex→h'.get? b=some o
 slot:∀b o,h.get? b=some o→H b=none→b∈fs→b∉ex→∃sl,h'.get? b=some {o with slots:=sl}
 free:∀b o,h.get? b=some o→H b=none→b∉ex→H' b=none
 there:∀b o,h.get? b=some o→b∉ex→∃o',h'.get? b=some o'
 tups:∀b xs,H b=some (.tup xs)→H' b=some (.tup xs)
 frzs:∀b o u,H b=some (.frz o u)→H' b=some (.frz o u)
 tbls:∀b ps,H b=some (.tbl ps)→∃more,H' b=some (.tbl (ps++more))
section
variable{fs fs' ex ex':List Addr}{H H1 H2:Hp}{h h1 h2 h':Heap}{a x e:Addr}{o:HO}
theorem Un.any(u:Un fs ex H H1 h h1){b:Addr}{ob:Obj}(q:h.get? b=some ob)(n:H b=none)(hx:b∉ex):∃sl,h1.get? b=some {ob with slots:=sl}:=by
 by_cases hb:b∈fs
 ·exact u.slot b ob q n hb hx
 ·exact⟨ob.slots,u.keep b ob q n hb hx⟩
theorem Un.kept(k:∀b u,h.get? b=some u→h'.get? b=some u):Un fs ex H H h h':=
 ⟨fun b ob q _ _ _=>k b ob q,fun b ob q _ _ _=>⟨ob.slots,k b ob q⟩,fun _ _ _ n _=>n,fun b ob q _=>⟨ob,k b ob q⟩,fun _ _ q=>q,fun _ _ _ q=>q,fun _ ps q=>⟨#[],by rw[q];simp⟩⟩
theorem Un.refl:Un fs ex H H h h:=Un.kept fun _ _ q=>q
theorem Un.laid(k:∀b u,h.get? b=some u→h'.get? b=some u)(hp:h.objs.size≤a)(hn:H a=none):Un fs ex H (upd H a o) h h' where
 keep:=fun b u q _ _ _=>k b u q
 slot:=fun b u q _ _ _=>⟨u.slots,k b u q⟩
 free:=fun b u q n _=>by rw[zL (nQ (mX (mW q) hp))];exact n
 there:=fun b u q _=>⟨u,k b u q⟩
 tups:=fun b xs q=>by rw[zL (yI q hn)];exact q
 frzs:=fun b u xs q=>by rw[zL (yI q hn)];exact q
 tbls:=fun b ps q=>⟨#[],by rw[zL (yI q hn),q];simp⟩
theorem Un.write(mu:Mut (H x))(he:e=x∨H e=some (.own x))(k:∀b u,b≠e→h.get? b=some u→h'.get? b=some u)(heo:∃u,h'.get? e=some u):Un fs ex H (upd H x o) h h':=by
 have hx:∀b,H b=none→b≠x:=fun b n z=>by subst z;rw[n] at mu;exact mu
 have hb:∀b,H b=none→b≠e:=fun b n z=>by
  subst z;rcases he with r | r
  ·exact hx b n r
  ·rw[n] at r;cases r
 have hm:∀b u,H b=some u→¬Mut (some u)→b≠x:=fun b u q nm z=>by subst z;rw[q] at mu;exact nm mu
 refine⟨fun b u q n _ _=>k b u (hb b n) q,fun b u q n _ _=>⟨u.slots,k b u (hb b n) q⟩,fun b u q n _=>by rw[zL (hx b n)];exact n,fun b u q _=>?_,
  fun b xs q=>by rw[zL (hm b _ q fun z=>z)];exact q,fun b u xs q=>by rw[zL (hm b _ q fun z=>z)];exact q,fun b ps q=>⟨#[],by rw[zL (hm b _ q fun z=>z),q];simp⟩⟩
 by_cases hbe:b=e
 ·subst hbe;exact heo
 ·exact⟨u,k b u hbe q⟩
end
def trk(h:Heap)(H:Hp):List Addr:=(List.range h.objs.size).filter fun a=>(H a).isSome
def zFf(h:Heap)(H:Hp):Heap:=W.hideAll h (trk h H)
theorem zOc(h:Heap)(H:Hp):(zFf h H).objs.size=h.objs.size:=W.hideAll_size _ _
theorem zQa{h:Heap}{H:Hp}{b:Addr}{o:Obj}(e:h.get? b=some o)(n:H b=none):(zFf h H).get? b=some o:=
 W.hideAll_get _ e fun hm=>by
  have q:(H b).isSome=true:=(cX.mp hm).2;rw[n] at q;simp at q
theorem zVu{h:Heap}{H:Hp}{b:Addr}{o:Obj}(e:(zFf h H).get? b=some o):h.get? b=some o∧H b=none:=by
 have e':h.get? b=some o:=W.of_hideAll (trk h H) e;refine⟨e', ?_⟩
 cases q:H b with
 | none=>rfl
 | some x=>
  have hm:b∈trk h H:=cX.mpr ⟨List.mem_range.mpr (mW e'),by simp[q]⟩;have z:(zFf h H).get? b=none:=W.hideAll_none (trk h H) hm;rw[z] at e;cases e
def zWm(g h:Heap)(L:Addr):List (Addr×Obj):=(List.range h.objs.size).filterMap fun a=>if a=L∨(g.get? a).isSome=true then none else(h.get? a).map fun o=>(a,o)
def rest(g h:Heap)(L d:Addr):List (Addr×Obj):=(zWm g h L).filter fun p=>decide (p.1≠d)
structure Mod(K:W.Frag)(mg:Str→Option Value)(base:Heap):Prop where
 kin:K.In base
 glob:base.Ns mainGlobals mg
 blt:∃mb,base.Ns builtinsNs mb∧∀x:Str,x≠ "__name__"→mb x=bootBuiltins x
 nolimit:base.NoLimit
structure Cx where
 prog:Program
 w:World
 K:W.Frag
 mg:Str→Option Value
 base:Heap
 A:Around
 N:List Str
 s₀:Shared
 H₀:Hp
 env:Env
 outer:List Env
 stack:List Env
 ex:List Addr
 fn:Str→Bool
 calm:Bool
 cool:Bool
 pn:List (Addr×Obj)
 xe:Value→Shared→Prop
def frs(l:List Env):List Addr:=l.filterMap (·.frame)
abbrev Cx.fs(X:Cx):List Addr:=frs X.outer
def Vis(sc:Scope)(x:Str):Prop:=sc.names.lookup x=some .local∨sc.names.lookup x=some .cell∨sc.names.lookup x=some .free
def Loc(sc:Scope)(x:Str):Prop:=sc.names.lookup x=some .local∨sc.names.lookup x=some .cell
def Look(env:Env)(h:Heap)(m:Str→Option Value)(x:Str)(u:Value):Prop:=
 (env.kindOf x=some .local∧m x=some u)∨((env.kindOf x=some .cell∨env.kindOf x=some .free)∧∃c,env.cells.lookup x=some c∧h.IsCell c (some u))
def Cx.heat(X:Cx):Bool→Bool
 | true=>X.cool
 | false=>X.calm
def HnAt(A:Around)(h:Heap)(H:Hp)(fs ex:List Addr):Prop:=∀v,A.handled=some v→∃x o C vs,v= .ref x∧h.get? x=some o∧o.cls= .ref C∧o.data= .fields vs∧vs[2]? =some Value.none∧((H x=none∧x∉fs∧x∉ex)∨∃u,H x=some (.frz o u))
theorem HnAt.none{A:Around}{h:Heap}{H:Hp}{fs ex:List Addr}(hh:A.handled=none):HnAt A h H fs ex:=fun v e=>by rw[hh] at e;cases e
theorem HnAt.hn{A:Around}{h:Heap}{H:Hp}{fs ex:List Addr}(n:HnAt A h H fs ex):Hn A h:=fun v e=>by
 obtain⟨x,o,C,vs,a,b,c,d,f,_⟩:=n v e;exact⟨x,o,C,vs,a,b,c,d,f⟩
structure Cx.Ok(X:Cx):Prop where
 mod:Mod X.K X.mg X.base
 kind:X.env.scope.kind= .function
 glob:X.env.globals=mainGlobals
 blt:X.env.builtins=builtinsNs
 above:X.s₀.heap.objs.size≤X.env.locals
 inj:∀x y c,X.env.cells.lookup x=some c→X.env.cells.lookup y=some c→x=y
 has:∀x,(X.env.kindOf x=some .cell∨X.env.kindOf x=some .free)→∃c,X.env.cells.lookup x=some c
 cab:∀x c,X.fn x=true→X.env.cells.lookup x=some c→X.s₀.heap.objs.size≤c
 hd:(X.calm=true→X.A.handled=none)∧(X.cool=true→HnAt X.A X.s₀.heap X.H₀ X.fs X.ex)
 frames:X.A.frames=some X.stack
 stk:X.stack=X.outer∨(X.stack=X.env::X.outer∧X.env.frame=some X.env.locals)
 exf:∀b∈X.ex,b≠X.env.locals∧∀x c,X.env.cells.lookup x=some c→c≠b
 bs:∀b o,X.base.get? b=some o→X.s₀.heap.get? b=some o∧X.H₀ b=none
 bsz:X.base.objs.size≤X.s₀.heap.objs.size
 noex:∀b o,X.base.get? b=some o→b∉X.ex
 exfs:∀b∈X.ex,b∉X.fs
 funs:X.s₀.heap.FunFrames X.base X.outer
 frf:∀b∈X.fs,X.H₀ b=none
structure Inv(X:Cx)(pins:List (Addr×Obj))(σ:List (Option V))(H:Hp)(s:Shared):Prop where
 ok:X.Ok
 os:s.os=X.s₀.os
 bare:AllBare s.gens
 base:Un X.fs X.ex X.H₀ H X.s₀.heap s.heap
 loc:∃m,s.heap.Ns X.env.locals m∧∀(i:Nat)(x:Str)(v:V),X.N[i]? =some x→σ[i]? =some (some v)→Vis X.env.scope x→∃u,RelV v u∧Look X.env s.heap m x u
 cell:∀x c,X.env.cells.lookup x=some c→∃v,s.heap.IsCell c v
 free:H X.env.locals=none
 freeC:∀x c,X.env.cells.lookup x=some c→H c=none
 pin:∀p∈X.pn++pins,s.heap.get? p.1=some p.2∧H p.1=none∧p.1≠X.env.locals∧p.1∉X.fs∧∀v,p.2.data≠ .cell v
 hok:HOk X.prog X.w H s.heap
 len:σ.length=X.N.length
section
variable{X:Cx}{pins:List (Addr×Obj)}{σ:List (Option V)}{H H':Hp}{s:Shared}{h':Heap}
theorem Inv.hnAt(I:Inv X pins σ H s)(hc:X.cool=true):HnAt X.A s.heap H X.fs X.ex:=fun v e=>by
 obtain⟨x,o,C,vs,a,h1,h2,h3,h4,⟨h5,h6,h7⟩|⟨u,h5⟩⟩:=I.ok.hd.2 hc v e
 ·exact⟨x,o,C,vs,a,I.base.keep x o h1 h5 h6 h7,h2,h3,h4, .inl ⟨I.base.free x o h1 h5 h7,h6,h7⟩⟩
 ·have z:=I.base.frzs x o u h5
  exact⟨x,o,C,vs,a,(I.hok x _ z).1,h2,h3,h4, .inr ⟨u,z⟩⟩
theorem Inv.hn(I:Inv X pins σ H s)(hc:X.cool=true):Hn X.A s.heap:=(I.hnAt hc).hn
theorem Cx.Ok.nofr(ok:X.Ok){b:Addr}{o:Obj}(e:X.base.get? b=some o):b∉X.fs:=fun hb=>by
 have:=(ok.funs.mem hb).1;rw[e] at this;cases this
theorem Inv.bs(I:Inv X pins σ H s):∀b o,X.base.get? b=some o→s.heap.get? b=some o∧H b=none:=fun b o e=>
 ⟨I.base.keep b o (I.ok.bs b o e).1 (I.ok.bs b o e).2 (I.ok.nofr e) (I.ok.noex b o e),I.base.free b o (I.ok.bs b o e).1 (I.ok.bs b o e).2 (I.ok.noex b o e)⟩
theorem Inv.bk(I:Inv X pins σ H s):∀b o,X.base.get? b=some o→s.heap.get? b=some o:=fun b o e=>(I.bs b o e).1
theorem Inv.mod(I:Inv X pins σ H s):Mod X.K X.mg X.base:=I.ok.mod
theorem Inv.kIn(I:Inv X pins σ H s):X.K.In s.heap:=I.ok.mod.kin.keeps I.bk
theorem Inv.lt(I:Inv X pins σ H s):X.env.locals<s.heap.objs.size:=let ⟨_,hn,_⟩:=I.loc;hn.lt
theorem Inv.sz(I:Inv X pins σ H s):X.s₀.heap.objs.size≤s.heap.objs.size:=nR I.ok.above (Nat.le_of_lt I.lt)
theorem Inv.nofs(I:Inv X pins σ H s){a:Addr}(h:s.heap.objs.size≤a):a∉X.fs:=fun hb=>by
 obtain⟨_,o,ho,_⟩:=I.ok.funs.mem hb;exact absurd (mX (mW ho) (nR I.sz h)) (rR _)
theorem Inv.cne(I:Inv X pins σ H s):∀x c,X.env.cells.lookup x=some c→c≠X.env.locals:=fun x c e z=>by
 obtain⟨v,o,ho,hd⟩:=I.cell x c e;obtain⟨m,⟨o',es,ep,ho',hd',_⟩,_⟩:=I.loc;rw[z,ho'] at ho;cases ho;rw[hd'] at hd;cases hd
theorem Inv.funs(I:Inv X pins σ H s):s.heap.FunFrames X.base X.outer:=by
 have all:∀(l:List Env),(∀b∈frs l,b∈X.fs)→X.s₀.heap.FunFrames X.base l→s.heap.FunFrames X.base l:=by
  intro l
  induction l with
  | nil=>intro _ _;trivial
  | cons env r ih=>
   intro hs hl;obtain⟨hk,⟨L,o,hf,hn,ho,hd⟩,hr⟩:=hl;have hL:L∈X.fs:=hs L (by unfold frs;rw[rM,hf];exact mH);obtain⟨sl,e⟩:=I.base.slot L o ho (I.ok.frf L hL) hL fun z=>I.ok.exfs L z hL;exact⟨hk,⟨L,_,hf,hn,e,hd⟩,ih (fun b hb=>hs b (by unfold frs;rw[rM,hf];exact mQ _ hb)) hr⟩
 exact all X.outer (fun _ hb=>hb) I.ok.funs
theorem Inv.stack(I:Inv X pins σ H s):s.heap.FunFrames X.base X.stack:=by
 rcases I.ok.stk with e |⟨e,hf⟩
 ·rw[e];exact I.funs
 ·rw[e]
  obtain⟨m,hn,_⟩:=I.loc;refine .cons (by rw[I.ok.kind];decide) hf hn ?_ I.funs;exact sY (nR I.ok.bsz I.ok.above)
theorem Inv.stkSub(I:Inv X pins σ H s):∀b∈frs X.stack,b∈X.env.locals::X.fs:=fun b hb=>by
 rcases I.ok.stk with e |⟨e,hf⟩
 ·rw[e] at hb;exact mQ _ hb
 ·rw[e] at hb
  unfold frs at hb;rw[rM,hf] at hb;exact hb
theorem Inv.stkFree(I:Inv X pins σ H s):∀b∈frs X.stack,H b=none:=fun b hb=>by
 rcases mF.mp (I.stkSub b hb) with e | hb
 ·rw[e];exact I.free
 ·obtain⟨_,o,ho,_⟩:=I.ok.funs.mem hb
  exact I.base.free b o ho (I.ok.frf b hb) fun z=>I.ok.exfs b z hb
theorem Inv.step{g':Array GenState}{t':Nat}{d':Drawn}{ch:List Addr}(I:Inv X pins σ H s)
  (hch:∀b∈ch,(b∈X.ex∨X.s₀.heap.objs.size≤b)∧b≠X.env.locals∧(∀x c,X.env.cells.lookup x=some c→c≠b)∧∀p∈X.pn++pins,p.1≠b)
  (keep:∀b o,b≠X.env.locals→b∉X.fs→b∉ch→s.heap.get? b=some o→H b=none→h'.get? b=some o)
  (slot:∀b o,b≠X.env.locals→b∈X.fs→b∉ch→s.heap.get? b=some o→H b=none→∃sl,h'.get? b=some {o with slots:=sl}) (free:∀b o,b∉ch→s.heap.get? b=some o→H b=none→H' b=none)
  (there:∀b o,b∉ch→s.heap.get? b=some o→∃o',h'.get? b=some o')
  (tups:∀b xs,H b=some (.tup xs)→H' b=some (.tup xs)) (frzs:∀b o u,H b=some (.frz o u)→H' b=some (.frz o u)) (tbls:∀b ps,H b=some (.tbl ps)→∃more,H' b=some (.tbl (ps++more)))
  (ns:∀m,s.heap.Ns X.env.locals m→h'.Ns X.env.locals m) (hok:HOk X.prog X.w H' h') (hg:AllBare g'):
  Inv X pins σ H' {s with heap:=h',gens:=g',drawn:=d',toks:=t'}:=by
 have neL:∀b o,X.s₀.heap.get? b=some o→b≠X.env.locals:=fun b o e=>nQ (mX (mW e) I.ok.above);have neC:∀b o,X.s₀.heap.get? b=some o→b∉X.ex→b∉ch:=fun b o e hx hb=>by
  rcases(hch b hb).1 with z | z
  ·exact hx z
  ·exact absurd (mX (mW e) z) (rR _)
 have cellK:∀x c,X.env.cells.lookup x=some c→∀v,s.heap.IsCell c v→h'.IsCell c v:=fun x c e v ⟨o,ho,hd⟩=>by
  have nch:c∉ch:=fun z=>(hch c z).2.2.1 x c e rfl
  by_cases hc:c∈X.fs
  ·obtain⟨sl,q⟩:=slot c o (I.cne x c e) hc nch ho (I.freeC x c e)
   exact⟨_,q,hd⟩
  ·exact⟨o,keep c o (I.cne x c e) hc nch ho (I.freeC x c e),hd⟩
 refine⟨I.ok,I.os,hg,⟨fun b o e n hb hx=>?_,fun b o e n hb hx=>?_,fun b o e n hx=>?_,fun b o e hx=>?_,fun b xs e=>tups b xs (I.base.tups b xs e),fun b o xs e=>frzs b o xs (I.base.frzs b o xs e),fun b ps e=>?_⟩, ?_,fun x c e=>?_, ?_,fun x c e=>?_,fun p hp=>?_,hok,I.len⟩
 ·exact keep b o (neL b o e) hb (neC b o e hx) (I.base.keep b o e n hb hx) (I.base.free b o e n hx)
 ·obtain⟨sl,e1⟩:=I.base.slot b o e n hb hx
  obtain⟨sl',e2⟩:=slot b _ (neL b o e) hb (neC b o e hx) e1 (I.base.free b o e n hx);exact⟨sl',e2⟩
 ·obtain⟨o',e1⟩:=I.base.there b o e hx
  exact free b o' (neC b o e hx) e1 (I.base.free b o e n hx)
 ·obtain⟨o',e1⟩:=I.base.there b o e hx
  exact there b o' (neC b o e hx) e1
 ·obtain⟨m1,e1⟩:=I.base.tbls b ps e
  obtain⟨m2,e2⟩:=tbls b _ e1;exact⟨m1++m2,by rw[e2,Array.append_assoc]⟩
 ·obtain⟨m,hn,hl⟩:=I.loc
  refine⟨m,ns m hn,fun i x v e1 e2 e3=>?_⟩;obtain⟨u,r,l⟩:=hl i x v e1 e2 e3;refine⟨u,r, ?_⟩;rcases l with l |⟨k,c,e,z⟩
  ·exact .inl l
  ·exact .inr ⟨k,c,e,cellK x c e _ z⟩
 ·obtain⟨v,z⟩:=I.cell x c e
  exact⟨v,cellK x c e v z⟩
 ·obtain⟨m,⟨o,_,_,ho,_⟩,_⟩:=I.loc
  exact free _ o (fun z=>(hch _ z).2.1 rfl) ho I.free
 ·obtain⟨v,o,ho,hd⟩:=I.cell x c e
  exact free c o (fun z=>(hch c z).2.2.1 x c e rfl) ho (I.freeC x c e)
 ·obtain⟨e,n,ne,nf,d⟩:=I.pin p hp
  have nch:p.1∉ch:=fun z=>(hch p.1 z).2.2.2 p hp rfl;exact⟨keep p.1 p.2 ne nf nch e n,free p.1 p.2 nch e n,ne,nf,d⟩
theorem Inv.un{t':Nat}(I:Inv X pins σ H s)(u:Un X.fs [] H H' s.heap h')(hok:HOk X.prog X.w H' h'):Inv X pins σ H' {s with heap:=h',toks:=t'}:=by
 obtain⟨m,⟨o,es,ep,ho,r⟩,_⟩:=id I.loc;obtain⟨sl,hL⟩:=u.any ho I.free (by simp);exact I.step (g':=s.gens) (d':=s.drawn) (ch:=[]) (fun _ z=>nomatch z) (fun b o _ hb _ e n=>u.keep b o e n hb (by simp)) (fun b o _ hb _ e n=>u.slot b o e n hb (by simp)) (fun b o _ e n=>u.free b o e n (by simp)) (fun b o _ e=>u.there b o e (by simp)) u.tups u.frzs u.tbls (fun m' hm=>by
  obtain⟨o',es',ep',ho',r'⟩:=hm;rw[ho] at ho';cases ho';exact⟨_,es',ep',hL,r'⟩) hok I.bare
theorem Inv.call{g':Array GenState}{t':Nat}{d':Drawn}{ch:List Addr}(I:Inv X pins σ H s)(u:Un (frs X.stack) ch H H' s.heap h')(hok:HOk X.prog X.w H' h')(hg:AllBare g')
  (hch:∀b∈ch,(b∈X.ex∨X.s₀.heap.objs.size≤b)∧b≠X.env.locals∧(∀x c,X.env.cells.lookup x=some c→c≠b)∧∀p∈X.pn++pins,p.1≠b):
  Inv X pins σ H' {s with heap:=h',gens:=g',drawn:=d',toks:=t'}:=by
 obtain⟨m,⟨o,es,ep,ho,r⟩,_⟩:=id I.loc;obtain⟨sl,hL⟩:=u.any ho I.free fun z=>(hch _ z).2.1 rfl;exact I.step (ch:=ch) hch (fun b o hL hb hc e n=>u.keep b o e n (fun z=>(mF.mp (I.stkSub b z)).elim hL hb) hc) (fun b o _ _ hc e n=>u.any e n hc) (fun b o hc e n=>u.free b o e n hc) (fun b o hc e=>u.there b o e hc) u.tups u.frzs u.tbls (fun m' hm=>by
  obtain⟨o',es',ep',ho',r'⟩:=hm;rw[ho] at ho';cases ho';exact⟨_,es',ep',hL,r'⟩) hok hg
theorem Inv.turned{t':Nat}{it:Addr}(I:Inv X pins σ H s)(k:∀b o,b≠it→s.heap.get? b=some o→h'.get? b=some o)(hn:H it=none)(hL:it≠X.env.locals)
  (h1:it∈X.ex∨X.s₀.heap.objs.size≤it) (h2:∀x c,X.env.cells.lookup x=some c→c≠it) (h3:∀p∈X.pn++pins,p.1≠it):Inv X pins σ H {s with heap:=h',toks:=t'}:=by
 have nit:∀b u,H b=some u→b≠it:=fun b u e z=>by rw[z,hn] at e;cases e
 refine I.step (g':=s.gens) (d':=s.drawn) (ch:=[it]) (fun b hb=>?_) (fun b o _ _ hc e _=>k b o (fun z=>hc (by simp[z])) e) (fun b o _ _ hc e _=>⟨o.slots,k b o (fun z=>hc (by simp[z])) e⟩) (fun _ _ _ _ n=>n)
  (fun b o hc e=>⟨o,k b o (fun z=>hc (by simp[z])) e⟩) (fun _ _ e=>e) (fun _ _ _ e=>e) (fun b ps e=>⟨#[],by rw[e];simp⟩) (fun m hm=>?_) (fun b u e=>?_) I.bare
 ·have e:b=it:=by simpa using hb
  subst e;exact⟨h1,hL,h2,h3⟩
 ·obtain⟨o,es,ep,ho,r⟩:=hm
  exact⟨o,es,ep,k _ o (Ne.symm hL) ho,r⟩
 ·refine(I.hok b u e).stay (fun c v hc q=>k c v ?_ q) (fun _ q=>q) fun _ _ q=>q
  rcases hc with z | z
  ·rw[z];exact nit b u e
  ·exact nit c _ z
theorem Inv.tok(I:Inv X pins σ H s)(t:Nat):Inv X pins σ H {s with toks:=t}:=I.un (h':=s.heap) (t':=t) Un.refl I.hok
theorem Inv.kept{t':Nat}(I:Inv X pins σ H s)(k:∀b u,s.heap.get? b=some u→h'.get? b=some u):Inv X pins σ H {s with heap:=h',toks:=t'}:=I.un (Un.kept k) (I.hok.kept k)
theorem Inv.laid{a:Addr}{o:HO}{t':Nat}(I:Inv X pins σ H s)(k:∀b u,s.heap.get? b=some u→h'.get? b=some u)(hp:s.heap.objs.size≤a)(new:ObjOk X.prog X.w (upd H a o) h' a o):
  Inv X pins σ (upd H a o) {s with heap:=h',toks:=t'}:=I.un (Un.laid k hp (I.hok.fresh hp)) (I.hok.laid k hp new)
theorem Inv.write{x e:Addr}{o:HO}{t':Nat}(I:Inv X pins σ H s)(mu:Mut (H x))(he:e=x∨H e=some (.own x))(k:∀b u,b≠e→s.heap.get? b=some u→h'.get? b=some u)(heo:∃u,h'.get? e=some u)
  (new:ObjOk X.prog X.w (upd H x o) h' x o):Inv X pins σ (upd H x o) {s with heap:=h',toks:=t'}:=I.un (Un.write mu he k heo) (I.hok.write mu he k heo new)
theorem Inv.weak{σ':List (Option V)}(I:Inv X pins σ H s)(hl:σ'.length=σ.length)(w:∀(i:Nat) v,σ'[i]? =some (some v)→σ[i]? =some (some v)):Inv X pins σ' H s:=
 ⟨I.ok,I.os,I.bare,I.base,let ⟨m,hn,hl'⟩:=I.loc;⟨m,hn,fun i x v e1 e2 e3=>hl' i x v e1 (w i v e2) e3⟩,I.cell,I.free,I.freeC,I.pin,I.hok,hl.trans I.len⟩
theorem Inv.pins_of{pins':List (Addr×Obj)}(I:Inv X pins σ H s)(h:∀p∈pins',s.heap.get? p.1=some p.2∧H p.1=none∧p.1≠X.env.locals∧p.1∉X.fs∧∀v,p.2.data≠ .cell v):Inv X pins' σ H s:=
 ⟨I.ok,I.os,I.bare,I.base,I.loc,I.cell,I.free,I.freeC,fun p hp=>(pA.mp hp).elim (fun z=>I.pin p (sD _ z)) (h p),I.hok,I.len⟩
theorem zIt{N:List Str}(hN:N.Nodup){i j:Nat}{x:Str}(a:N[i]? =some x)(b:N[j]? =some x):i=j:=by
 obtain⟨h1,e1⟩:=nG.mp a;obtain⟨h2,e2⟩:=nG.mp b;exact(List.getElem_inj hN).mp (e1.trans e2.symm)
theorem zDx{M:Model}{A:Around}{E:Value→Shared→Prop}{i:Nat}{x:Str}{v:V}{u:Value}{Q:Unit→Shared→Prop}(I:Inv X pins σ H s)(hN:X.N.Nodup)(hi:X.N[i]? =some x)(hx:Loc X.env.scope x)(r:RelV v u)
  (h:∀s',Inv X pins (σ.set i (some v)) H s'→(∃a,Heap.SameBut a s.heap s'.heap∧(a=X.env.locals∨X.env.cells.lookup x=some a))→Q () s') (hf:X.fn x=true∨X.env.scope.names.lookup x=some .local:=by first | exact .inl rfl | exact .inr rfl | assumption):wpAny M A (storeName X.env x u) Q E s:=by
 obtain⟨m,hn,hl⟩:=id I.loc;have hcls:(X.env.scope.kind== .class ||(X.env.scope.kind== .module && X.env.locals !=X.env.globals))=false:=by rw[I.ok.kind];rfl
 have hiσ:i<σ.length:=by rw[I.len];exact(nG.mp hi).1
 have cne:=I.cne;have tracked:∀{a:Addr}{h':Heap},(∃o,s.heap.get? a=some o∧H a=none)→Heap.SameBut a s.heap h'→HOk X.prog X.w H h':=fun {a h'} ha hs b ob e=>by
  obtain⟨_,_,hfree⟩:=ha;refine(I.hok b ob e).stay (fun c w' hc q=>(hs.2 c ?_).trans q) (fun _ q=>q) fun _ _ q=>q;rintro rfl;rcases hc with rfl | hc
  ·rw[hfree] at e;cases e
  ·rw[hfree] at hc;cases hc
 rcases hx with hk | hk
 ·refine wpAny_storeName_local hk hn (fun h' hn' hs=>?_) hcls
  obtain⟨oL,_,_,hoL,_⟩:=id hn;refine h _ ⟨I.ok,I.os,I.bare,⟨fun b o e n hb hx=>?_,fun b o e n hb hx=>?_,I.base.free,fun b o e hx=>?_,I.base.tups,I.base.frzs,I.base.tbls⟩,⟨_,hn',fun j y v' e1 e2 e3=>?_⟩,fun y c e=>?_,I.free,I.freeC,fun p hp=>?_,tracked ⟨oL,hoL,I.free⟩ hs,by simpa using I.len⟩ ⟨_,hs, .inl rfl⟩
  ·exact(hs.2 b (nQ (mX (mW e) I.ok.above))).trans (I.base.keep b o e n hb hx)
  ·obtain⟨sl,e1⟩:=I.base.slot b o e n hb hx
   exact⟨sl,(hs.2 b (nQ (mX (mW e) I.ok.above))).trans e1⟩
  ·obtain⟨o',e1⟩:=I.base.there b o e hx
   exact⟨o',(hs.2 b (nQ (mX (mW e) I.ok.above))).trans e1⟩
  ·by_cases hj:j=i
   ·subst hj
    rw[hi] at e1;cases e1;rw[List.getElem?_set_self hiσ] at e2;cases e2;exact⟨u,r, .inl ⟨hk,by simp⟩⟩
   ·rw[bN (Ne.symm hj)] at e2
    obtain⟨u',r',q⟩:=hl j y v' e1 e2 e3;refine⟨u',r', ?_⟩;rcases q with⟨k,e⟩|⟨k,c,e,z⟩
    ·refine .inl ⟨k, ?_⟩
     have:y≠x:=fun e=>hj (zIt hN e1 (e▸hi));simp[this,e]
    ·exact .inr ⟨k,c,e,z.sameBut hs (cne y c e)⟩
  ·obtain⟨w',z⟩:=I.cell y c e
   exact⟨w',z.sameBut hs (cne y c e)⟩
  ·obtain⟨e,n,ne,nf,d⟩:=I.pin p hp
   exact⟨(hs.2 p.1 ne).trans e,n,ne,nf,d⟩
 ·have hfn:X.fn x=true:=by
   rcases hf with z | z
   ·exact z
   ·rw[z] at hk;cases hk
  obtain⟨c,hc⟩:=I.ok.has x (.inl hk);obtain⟨w',z⟩:=I.cell x c hc;refine wpAny_storeName_cell I.ok.kind hk hc z (fun h' hc' hs=>?_);obtain⟨oc,hoc,hocd⟩:=id z;refine h {s with heap:=h'} ⟨I.ok,I.os,I.bare,⟨fun b o e n hb hx=>?_,fun b o e n hb hx=>?_,I.base.free,fun b o e hx=>?_,I.base.tups,I.base.frzs,I.base.tbls⟩,⟨m,hn.sameBut hs (Ne.symm (cne x c hc)),fun j y v' e1 e2 e3=>?_⟩,fun y c' e=>?_,I.free,I.freeC,fun p hp=>?_,tracked ⟨oc,hoc,I.freeC x c hc⟩ hs,by simpa using I.len⟩ ⟨c,hs, .inr hc⟩
  ·exact(hs.2 b (nQ (mX (mW e) (I.ok.cab x c hfn hc)))).trans (I.base.keep b o e n hb hx)
  ·obtain⟨sl,e1⟩:=I.base.slot b o e n hb hx
   exact⟨sl,(hs.2 b (nQ (mX (mW e) (I.ok.cab x c hfn hc)))).trans e1⟩
  ·obtain⟨o',e1⟩:=I.base.there b o e hx
   exact⟨o',(hs.2 b (nQ (mX (mW e) (I.ok.cab x c hfn hc)))).trans e1⟩
  ·by_cases hj:j=i
   ·subst hj
    rw[hi] at e1;cases e1;rw[List.getElem?_set_self hiσ] at e2;cases e2;exact⟨u,r, .inr ⟨.inl hk,c,hc,hc'⟩⟩
   ·rw[bN (Ne.symm hj)] at e2
    obtain⟨u',r',q⟩:=hl j y v' e1 e2 e3;refine⟨u',r', ?_⟩;rcases q with q |⟨k,c',e,z'⟩
    ·exact .inl q
    ·refine .inr ⟨k,c',e,z'.sameBut hs ?_⟩
     rintro rfl;exact hj (zIt hN e1 (I.ok.inj _ _ _ e hc▸hi))
  ·by_cases hcc:c'=c
   ·subst hcc;exact⟨_,hc'⟩
   ·obtain⟨w2,z2⟩:=I.cell y c' e
    exact⟨w2,z2.sameBut hs hcc⟩
  ·obtain⟨e,n,ne,nf,d⟩:=I.pin p hp
   refine⟨(hs.2 p.1 ?_).trans e,n,ne,nf,d⟩;intro q;rw[q,hoc] at e;have q':oc=p.2:=nV e;exact d w' (by rw[←q'];exact hocd)
theorem gT{M:Model}{A:Around}{E:Value→Shared→Prop}{i:Nat}{x:Str}{v:V}{u:Value}{Q:Unit→Shared→Prop}(I:Inv X pins σ H s)(hN:X.N.Nodup)(hi:X.N[i]? =some x)(hx:Loc X.env.scope x)(r:RelV v u)
  (h:∀s',Inv X pins (σ.set i (some v)) H s'→Q () s') (hf:X.fn x=true∨X.env.scope.names.lookup x=some .local:=by first | exact .inl rfl | exact .inr rfl | assumption):wpAny M A (storeName X.env x u) Q E s:=
 zDx I hN hi hx r (fun s' I' _=>h s' I') hf
theorem Inv.call'{s':Shared}{ch:List Addr}(I:Inv X pins σ H s)(ho:s'.os=s.os)(u:Un (frs X.stack) ch H H' s.heap s'.heap)(hok:HOk X.prog X.w H' s'.heap)(hg:AllBare s'.gens)
  (hch:∀b∈ch,(b∈X.ex∨X.s₀.heap.objs.size≤b)∧b≠X.env.locals∧(∀x c,X.env.cells.lookup x=some c→c≠b)∧∀p∈X.pn++pins,p.1≠b):Inv X pins σ H' s':=by
 obtain⟨h',g',d',t',o'⟩:=s';have e:o'=s.os:=ho;subst e;exact I.call (g':=g') (t':=t') (d':=d') u hok hg hch
end
abbrev XK:=Value→Option Addr→Hp→Prop
abbrev St:=List (Option V)
abbrev VK:=V→Hp→Prop
abbrev TE:=St→Hp→VK→Prop
abbrev TT:=St→Hp→(Bool→Hp→Prop)→Prop
abbrev TA:=St→Hp→(List V→Hp→Prop)→Prop
structure uZ where
 nx:St→Hp→Prop
 rt:VK
 bk:St→Hp→Prop:=fun _ _=>False
 ct:St→Hp→Prop:=fun _ _=>False
abbrev TS:=uZ→St→Hp→Prop
def EP(X:Cx)(pins:List (Addr×Obj))(σ:St)(Q:VK)(u:Value)(s':Shared):Prop:=∃v H',Inv X pins σ H' s'∧RelV v u∧Q v H'
def TP(X:Cx)(pins:List (Addr×Obj))(σ:St)(Q:Bool→Hp→Prop)(b:Bool)(s':Shared):Prop:=∃H',Inv X pins σ H' s'∧Q b H'
def AP(X:Cx)(pins:List (Addr×Obj))(σ:St)(Q:List V→Hp→Prop)(us:List Value)(s':Shared):Prop:=∃vs H',Inv X pins σ H' s'∧Vals vs us∧Q vs H'
def SP(X:Cx)(pins:List (Addr×Obj))(D:uZ)(f:Flow)(s':Shared):Prop:=
 match f with
 | .next=>∃σ' H',Inv X pins σ' H' s'∧D.nx σ' H'
 | .brk=>∃σ' H',Inv X pins σ' H' s'∧D.bk σ' H'
 | .cont=>∃σ' H',Inv X pins σ' H' s'∧D.ct σ' H'
 | .ret u=>∃v σ' H',Inv X pins σ' H' s'∧RelV v u∧D.rt v H'
def PE(X:Cx)(e:Expr)(t:TE):Prop:=
 ∀(pins:List (Addr×Obj))(s:Shared)(σ:St)(H:Hp)(Q:VK),Inv X pins σ H s→t σ H Q→wpAny (model X.prog X.w) X.A (eval e X.env) (EP X pins σ Q) X.xe s
def PT(X:Cx)(e:Expr)(t:TT):Prop:=
 ∀(pins:List (Addr×Obj))(s:Shared)(σ:St)(H:Hp)(Q:Bool→Hp→Prop),Inv X pins σ H s→t σ H Q→wpAny (model X.prog X.w) X.A (isTrue e X.env (eval e X.env)) (TP X pins σ Q) X.xe s
def PW(X:Cx)(e:Expr)(t:TT):Prop:=
 ∀(whole:Sem Value)(pins:List (Addr×Obj))(s:Shared)(σ:St)(H:Hp)(Q:Bool→Hp→Prop),Inv X pins σ H s→t σ H Q→wpAny (model X.prog X.w) X.A (isTrue e X.env whole) (TP X pins σ Q) X.xe s
theorem PW.pt{X:Cx}{e:Expr}{t:TT}(h:PW X e t):PT X e t:=h _
def PA(X:Cx)(es:List Expr)(t:TA):Prop:=
 ∀(pos:Pos)(pins:List (Addr×Obj))(s:Shared)(σ:St)(H:Hp)(Q:List V→Hp→Prop),Inv X pins σ H s→t σ H Q→wpAny (model X.prog X.w) X.A (spliced (backTo pos (starEach es X.env))) (AP X pins σ Q) X.xe s
def PS(X:Cx)(st:Stmt)(t:TS):Prop:=
 ∀(pins:List (Addr×Obj))(s:Shared)(σ:St)(H:Hp)(D:uZ),Inv X pins σ H s→t D σ H→wpAny (model X.prog X.w) X.A (exec st X.env) (SP X pins D) X.xe s
def PSs(X:Cx)(st:List Stmt)(t:TS):Prop:=
 ∀(pins:List (Addr×Obj))(s:Shared)(σ:St)(H:Hp)(D:uZ),Inv X pins σ H s→t D σ H→wpAny (model X.prog X.w) X.A (execs st X.env) (SP X pins D) X.xe s
theorem thn{α:Type}{t:Sem α}{Q Q':α→Shared→Prop}{M:Model}{A:Around}{E:Value→Shared→Prop}{s:Shared}(h:wpAny M A t Q E s)(hQ:∀a s,Q a s→Q' a s):wpAny M A t Q' E s:=pV h hQ fun _ _ x=>x
section
variable{X:Cx}
def zKx(i:Nat):TE:=fun σ H Q=>∃v,σ[i]? =some (some v)∧Q v H
def tC(v:V):TE:=fun _ H Q=>Q v H
theorem zRf{i:Nat}{x:Str}{pos:Pos}(hN:X.N[i]? =some x)(hv:Vis X.env.scope x)(hd:(x==("__debug__" :Str))=false:=by decide)(hcd:(x==("__classdict__" :Str))=false:=by decide):PE X (.Name x pos) (zKx i):=by
 intro pins s σ H Q I h;obtain⟨v,e,h⟩:=h;obtain⟨m,hn,hl⟩:=I.loc;obtain⟨u,r,l⟩:=hl i x v hN e hv;have fin:EP X pins σ Q u s:=⟨v,H,I,r,h⟩;rcases l with⟨hk,hm⟩|⟨hk,c,hc,hcell⟩
 ·exact wpAny_Name (wpAny_loadName_local I.ok.kind hk hn hm fin) hd
 ·rcases hk with hk | hk
  ·exact wpAny_Name (wpAny_loadName_cell I.ok.kind hk hc hcell fin) hd
  ·exact wpAny_Name (wpAny_loadName_free I.ok.kind hk hc hcell fin hcd) hd
theorem zC{i j pos}:PE X (.Constant (.int i) j pos) (tC (.int i)):=fun _ _ _ H _ I h=>cE ⟨.int i,H,I.tok _,⟨_,rfl⟩,h⟩
theorem qW{b j pos}:PE X (.Constant (.bool b) j pos) (tC (.bl b)):=fun _ _ _ H _ I h=>Constant_bool ⟨.bl b,H,I,rfl,h⟩
theorem jC{j pos}:PE X (.Constant .none j pos) (tC .non):=fun _ _ _ H _ I h=>Constant_none ⟨.non,H,I,rfl,h⟩
theorem zD{x j pos}:PE X (.Constant (.str x) j pos) (tC (.str x)):=fun _ _ _ H _ I h=>cF ⟨.str x,H,I.tok _,⟨_,rfl⟩,h⟩
def Gl(X:Cx)(x:Str):Prop:=X.env.kindOf x=some .globalImplicit
theorem wS{E:Value→Shared→Prop}{pins:List (Addr×Obj)}{s:Shared}{σ:St}{H:Hp}{x:Str}{u:Value}{pos:Pos}{Q:Value→Shared→Prop}(I:Inv X pins σ H s)(hg:Gl X x)(hm:X.mg x=some u)(h:Q u s)
  (hd:(x==("__debug__" :Str))=false:=by decide):wpAny (model X.prog X.w) X.A (eval (.Name x pos) X.env) Q E s:=
 Calls.Name_function_global I.ok.kind hg (Calls.loadGlobal_global (by rw[I.ok.glob];exact I.mod.glob.keeps I.bk) hm h) hd
theorem zFt{E:Value→Shared→Prop}{pins:List (Addr×Obj)}{s:Shared}{σ:St}{H:Hp}{x:Str}{u:Value}{pos:Pos}{Q:Value→Shared→Prop}(I:Inv X pins σ H s)(hg:Gl X x)(hm:X.mg x=none)(hv:bootBuiltins x=some u)(h:Q u s)
  (hn:x≠ "__name__":=by decide) (hd:(x==("__debug__" :Str))=false:=by decide):wpAny (model X.prog X.w) X.A (eval (.Name x pos) X.env) Q E s:=by
 obtain⟨mb,h1,h2⟩:=I.mod.blt;exact Calls.Name_function_global I.ok.kind hg (Calls.loadGlobal_builtin (by rw[I.ok.glob];exact I.mod.glob.keeps I.bk) hm (by rw[I.ok.blt];exact h1.keeps I.bk) ((h2 x hn).trans hv) h) hd
theorem jL{x:Str}{v:V}{u:Value}{pos:Pos}(hg:Gl X x)(hm:X.mg x=some u)(r:RelV v u)(hd:(x==("__debug__" :Str))=false:=by decide):PE X (.Name x pos) (tC v):=
 fun _ _ _ H _ I h=>wS I hg hm ⟨v,H,I,r,h⟩ hd
theorem vJ{x:Str}{v:V}{u:Value}{pos:Pos}(hg:Gl X x)(hm:X.mg x=none)(hv:bootBuiltins x=some u)(r:RelV v u)(hn:x≠ "__name__":=by decide)(hd:(x==("__debug__" :Str))=false:=by decide):PE X (.Name x pos) (tC v):=
 fun _ _ _ H _ I h=>zFt I hg hm hv ⟨v,H,I,r,h⟩ hn hd
variable{a b:Expr}{ta tb:TE}{pos:Pos}
def PC(X:Cx)(op:CmpOp)(a b:Expr)(t:TE):Prop:=
 ∀(pins:List (Addr×Obj))(s:Shared)(σ:St)(H:Hp)(Q:VK),Inv X pins σ H s→t σ H Q→
  wpAny (model X.prog X.w) X.A (eval a X.env) (fun v s₁=>wpAny (model X.prog X.w) X.A (eval b X.env) (fun u s₂=>wpAny (model X.prog X.w) X.A (compareOp op v u) (EP X pins σ Q) X.xe s₂) X.xe s₁) X.xe s
theorem zHz(b:Expr){op:CmpOp}(h:op≠ .In)(h2:op≠ .NotIn):behindInMarks op b=false:=by
 have e1:(op==CmpOp.In)=false:=by cases op<;>first | rfl | exact absurd rfl h
 have e2:(op==CmpOp.NotIn)=false:=by cases op<;>first | rfl | exact absurd rfl h2
 cases b<;>simp[behindInMarks,e1,e2]
def zQd(ta:TE):TE:=fun σ H Q=>ta σ H fun x H1=>Q (.bl (decide (x= .non))) H1
def zJq(ta:TE):TE:=fun σ H Q=>ta σ H fun x H1=>Q (.bl (!decide (x= .non))) H1
theorem RelV.none_iff{x:V}{v:Value}(r:RelV x v):(v==Value.none)=decide (x= .non):=by
 cases x with
 | non=>cases r;rfl
 | bl _=>cases r;rfl
 | int _=>obtain⟨t,rfl⟩:=r;rfl
 | str _=>obtain⟨t,rfl⟩:=r;rfl
 | byt _=>obtain⟨t,rfl⟩:=r;rfl
 | flt _=>obtain⟨t,rfl⟩:=r;rfl
 | ref _=>cases r;rfl
 | ty _=>cases r;rfl
theorem zUm{j pos'}(ha:PE X a ta):PC X .Is a (.Constant .none j pos') (zQd ta):=by
 intro pins s σ H Q I h;refine thn (ha pins s σ H _ I h) fun v s1 ⟨x,H1,I1,r1,q1⟩=>?_;exact Constant_none (is_none_gen ⟨.bl _,H1,I1,by rw[r1.none_iff];rfl,q1⟩)
theorem zNc{j pos'}(ha:PE X a ta):PC X .IsNot a (.Constant .none j pos') (zJq ta):=by
 intro pins s σ H Q I h;refine thn (ha pins s σ H _ I h) fun v s1 ⟨x,H1,I1,r1,q1⟩=>?_;exact Constant_none (isnot_none_gen ⟨.bl _,H1,I1,by rw[r1.none_iff];rfl,q1⟩)
def tB(t:TE):TT:=fun σ H Q=>t σ H fun x H1=>∃c,x= .bl c∧Q c H1
theorem zQn{op:CmpOp}{t:TE}(h:PC X op a b t)(h1:behindInMarks op b=false:=by first | exact zHz _ (by decide) (by decide)| rfl):PE X (.Compare a [op] [b] pos) t:=fun pins s σ H Q I hw=>wpAny_Compare1 (h pins s σ H Q I hw) h1
theorem zFm{op:CmpOp}{t:TE}(h:PC X op a b t)(h1:behindInMarks op b=false:=by first | exact zHz _ (by decide) (by decide)| rfl):PT X (.Compare a [op] [b] pos) (tB t):=by
 intro pins s σ H Q I hw;refine wpAny_isTrue_Compare1 (thn (h pins s σ H _ I hw) fun v s1 h1=>thn h1 fun u s2 h2=>thn h2 fun c s3 ⟨x,H1,I1,r1,q1⟩=>?_) h1;obtain⟨d,rfl,q⟩:=q1;cases r1;exact rL ⟨H1,I1,q⟩
theorem yT{e:Expr}{t:TE}(h:PE X e t)(he:∀whole,isTrue e X.env whole=(do let v ←whole;standAt e.pos;holding [v] (truthy v)):=by intro _;rfl):PT X e (tB t):=by
 intro pins s σ H Q I hw;refine isTrue_plain (thn (h pins s σ H _ I hw) fun v s1 ⟨x,H1,I1,r1,q1⟩=>?_) (he _);obtain⟨d,rfl,q⟩:=q1;cases r1;exact rL ⟨H1,I1,q⟩
variable{tA tB':TT}{rest:List Expr}
def zQs(t u:TT):TT:=fun σ H Q=>t σ H fun c H1=>if c=true then u σ H1 Q else Q false H1
def tOr(t u:TT):TT:=fun σ H Q=>t σ H fun c H1=>if c=true then Q true H1 else u σ H1 Q
def zSn(t:TT):TT:=fun σ H Q=>t σ H fun c H1=>Q (!c) H1
theorem xV(ha:PT X a tA):PW X (.BoolOp .And [a] pos) tA:=by
 intro wh pins s σ H Q I h;refine isTrue_and (thn (ha pins s σ H Q I h) fun c s1 e=>?_)
 cases c with
 | true=>exact isTrue_and_nil e
 | false=>exact e
theorem vX(ha:PT X a tA):PW X (.BoolOp .Or [a] pos) tA:=by
 intro wh pins s σ H Q I h;refine isTrue_or (thn (ha pins s σ H Q I h) fun c s1 e=>?_)
 cases c with
 | false=>exact isTrue_or_nil e
 | true=>exact e
theorem wA(ha:PT X a tA)(hb:PW X (.BoolOp .And (b::rest) pos) tB'):PW X (.BoolOp .And (a::b::rest) pos) (zQs tA tB'):=by
 intro wh pins s σ H Q I h;refine isTrue_and (thn (ha pins s σ H _ I h) fun c s1 ⟨H1,I1,q1⟩=>?_)
 cases c with
 | true=>exact hb wh pins s1 σ H1 Q I1 q1
 | false=>exact⟨H1,I1,q1⟩
theorem jS(ha:PT X a tA)(hb:PW X (.BoolOp .Or (b::rest) pos) tB'):PW X (.BoolOp .Or (a::b::rest) pos) (tOr tA tB'):=by
 intro wh pins s σ H Q I h;refine isTrue_or (thn (ha pins s σ H _ I h) fun c s1 ⟨H1,I1,q1⟩=>?_)
 cases c with
 | true=>exact⟨H1,I1,q1⟩
 | false=>exact hb wh pins s1 σ H1 Q I1 q1
theorem qM(ha:PT X a tA):PT X (.UnaryOp .Not a pos) (zSn tA):=by
 intro pins s σ H Q I h;exact isTrue_not (ha pins s σ H (fun c H1=>Q (!c) H1) I h)
def zIn(ta tb:TE):TE:=fun σ H Q=>ta σ H fun x H1=>∃c,x= .bl c∧if c=true then tb σ H1 Q else Q (.bl false) H1
def zQm(ta tb:TE):TE:=fun σ H Q=>ta σ H fun x H1=>∃c,x= .bl c∧if c=true then Q (.bl true) H1 else tb σ H1 Q
def zJj(ta:TE):TE:=fun σ H Q=>ta σ H fun x H1=>∃c,x= .bl c∧Q (.bl (!c)) H1
theorem xL{op}{t:TE}(h:PE X a t):PE X (.BoolOp op [a] pos) t:=fun pins s σ H Q I hw=>BoolOp_one (h pins s σ H Q I hw)
theorem wI(ha:PE X a ta)(hb:PE X (.BoolOp .And (b::rest) pos) tb):PE X (.BoolOp .And (a::b::rest) pos) (zIn ta tb):=by
 intro pins s σ H Q I h;refine BoolOp_and (thn (ha pins s σ H _ I h) fun v s1 ⟨x,H1,I1,r1,q1⟩=>?_);obtain⟨c,rfl,q1⟩:=q1;cases r1;refine rL ?_
 cases c with
 | true=>exact hb pins s1 σ H1 Q I1 q1
 | false=>exact⟨.bl false,H1,I1,rfl,q1⟩
theorem zAo(ha:PE X a ta)(hb:PE X (.BoolOp .Or (b::rest) pos) tb):PE X (.BoolOp .Or (a::b::rest) pos) (zQm ta tb):=by
 intro pins s σ H Q I h;refine BoolOp_or (thn (ha pins s σ H _ I h) fun v s1 ⟨x,H1,I1,r1,q1⟩=>?_);obtain⟨c,rfl,q1⟩:=q1;cases r1;refine rL ?_
 cases c with
 | false=>exact hb pins s1 σ H1 Q I1 q1
 | true=>exact⟨.bl true,H1,I1,rfl,q1⟩
theorem zSb(ha:PE X a ta):PE X (.UnaryOp .Not a pos) (zJj ta):=by
 intro pins s σ H Q I h;refine UnaryOp_ (thn (ha pins s σ H _ I h) fun v s1 ⟨x,H1,I1,r1,q1⟩=>?_);obtain⟨c,rfl,q1⟩:=q1;cases r1;exact not_of (rL ⟨.bl (!c),H1,I1,rfl,q1⟩)
def tIf(t:TT)(ta tb:TE):TE:=fun σ H Q=>t σ H fun c H1=>if c=true then ta σ H1 Q else tb σ H1 Q
theorem vQ{c:Expr}(hc:PT X c tA)(ha:PE X a ta)(hb:PE X b tb):PE X (.IfExp c a b pos) (tIf tA ta tb):=by
 intro pins s σ H Q I h;refine wpAny_IfExp (thn (hc pins s σ H _ I h) fun d s1 ⟨H1,I1,q1⟩=>?_)
 cases d with
 | true=>exact ha pins s1 σ H1 Q I1 q1
 | false=>exact hb pins s1 σ H1 Q I1 q1
end
def SqL(K:W.Frag)(H:Hp)(a:Addr)(xs:List V):Prop:=
 Rd H a (.lst xs)∨
  ∃(o:Obj)(its:Array Value)(n:Nat),K.lookup a=some o∧o.cls= .type "list"∧o.dict=none∧o.data= .seq its n∧its.size≤sizeLine∧Vals xs its.toList
def SqT(K:W.Frag)(H:Hp)(a:Addr)(xs:List V):Prop:=
 Rd H a (.tup xs)∨
  ∃(o:Obj)(its:Array Value)(n:Nat),K.lookup a=some o∧o.cls= .type "tuple"∧o.data= .seq its n∧its.size≤sizeLine∧Vals xs its.toList
def absV:Value→Option V
 | .none=>some .non
 | .bool b=>some (.bl b)
 | .int i _=>some (.int i)
 | .str x _=>some (.str x)
 | .bytes b _=>some (.byt b)
 | .float b _=>some (.flt b)
 | .ref a=>some (.ref a)
 | .type n=>some (.ty n)
 | _=>none
theorem RelV.abs{x:V}{u:Value}(r:RelV x u):absV u=some x:=by
 cases x with
 | non=>cases r;rfl
 | bl _=>cases r;rfl
 | int _=>obtain⟨t,rfl⟩:=r;rfl
 | str _=>obtain⟨t,rfl⟩:=r;rfl
 | byt _=>obtain⟨t,rfl⟩:=r;rfl
 | flt _=>obtain⟨t,rfl⟩:=r;rfl
 | ref _=>cases r;rfl
 | ty _=>cases r;rfl
theorem RelV.inj{x y:V}{u:Value}(r:RelV x u)(q:RelV y u):x=y:=nV (r.abs.symm.trans q.abs)
theorem Vals.inj:∀{xs ys:List V}{us:List Value},Vals xs us→Vals ys us→xs=ys
 | _,_,_, .nil, .nil=>rfl
 | _,_,_, .cons r t, .cons r' t'=>by rw[r.inj r',Vals.inj t t']
section
variable{X:Cx}{pins:List (Addr×Obj)}{σ:St}{H:Hp}{s:Shared}{a:Addr}{xs ys:List V}
theorem SqL.of{K:W.Frag}(h:H a=some (.lst xs)):SqL K H a xs:=.inl (.inl h)
theorem SqT.of{K:W.Frag}(h:H a=some (.tup xs)):SqT K H a xs:=.inl (.inl h)
theorem Inv.list(I:Inv X pins σ H s)(h:SqL X.K H a xs):∃its:List Value,Vals xs its∧PlainL s.heap a its.toArray∧xs.length≤sizeLine:=by
 rcases h with h |⟨o,its,n,hk,hc,hd,hs,hz,r⟩
 ·obtain⟨z,its,n,r,e⟩:=h.ok I.hok
  exact⟨its,r,⟨_,n,e,rfl,rfl,rfl⟩,z⟩
 ·refine⟨its.toList,r,⟨o,n,I.kIn a o hk,hc,hd,by simpa using hs⟩, ?_⟩
  have e:=r.length;simp only[bY] at e
  lia
theorem Inv.tuple(I:Inv X pins σ H s)(h:SqT X.K H a xs):∃its:List Value,Vals xs its∧IsTup s.heap a its.toArray∧xs.length≤sizeLine:=by
 rcases h with h |⟨o,its,n,hk,hc,hs,hz,r⟩
 ·obtain⟨z,its,r,p⟩:=h.ok I.hok
  exact⟨its,r,p,z⟩
 ·refine⟨its.toList,r,⟨o,I.kIn a o hk,hc,n,by simpa using hs⟩, ?_⟩
  have e:=r.length;simp only[bY] at e
  lia
theorem Inv.list_inj(I:Inv X pins σ H s)(h:SqL X.K H a xs)(h':SqL X.K H a ys):xs=ys:=by
 obtain⟨its,r,⟨o,n,e,_,_,d⟩,_⟩:=I.list h;obtain⟨its',r',⟨o',n',e',_,_,d'⟩,_⟩:=I.list h';rw[e] at e';cases e';rw[d] at d';injection d' with d1 _;have:its=its':=by simpa using congrArg Array.toList d1
 subst this;exact r.inj r'
end
abbrev Cx.wish(X:Cx)(E:Value→Shared→Prop):Cx:={X with xe:=E}
abbrev Cx.nox(X:Cx):Cx:=X.wish fun _ _=>False
theorem Cx.Ok.wish{X:Cx}(ok:X.Ok)(E:Value→Shared→Prop):(X.wish E).Ok:=
 ⟨ok.mod,ok.kind,ok.glob,ok.blt,ok.above,ok.inj,ok.has,ok.cab,ok.hd,ok.frames,ok.stk,ok.exf,ok.bs,ok.bsz,ok.noex,ok.exfs,ok.funs,ok.frf⟩
theorem Cx.Ok.unwish{X:Cx}{E:Value→Shared→Prop}(ok:(X.wish E).Ok):X.Ok:=
 ⟨ok.mod,ok.kind,ok.glob,ok.blt,ok.above,ok.inj,ok.has,ok.cab,ok.hd,ok.frames,ok.stk,ok.exf,ok.bs,ok.bsz,ok.noex,ok.exfs,ok.funs,ok.frf⟩
section
variable{X:Cx}{pins:List (Addr×Obj)}{σ:St}{H:Hp}{s:Shared}{E:Value→Shared→Prop}
theorem Inv.wish(I:Inv X pins σ H s)(E:Value→Shared→Prop):Inv (X.wish E) pins σ H s:=⟨I.ok.wish E,I.os,I.bare,I.base,I.loc,I.cell,I.free,I.freeC,I.pin,I.hok,I.len⟩
theorem Inv.unwish(I:Inv (X.wish E) pins σ H s):Inv X pins σ H s:=⟨I.ok.unwish,I.os,I.bare,I.base,I.loc,I.cell,I.free,I.freeC,I.pin,I.hok,I.len⟩
theorem SP.unwish{D:uZ}{f:Flow}{s':Shared}(h:SP (X.wish E) pins D f s'):SP X pins D f s':=by
 cases f with
 | next=>obtain⟨σ',H',I,q⟩:=h;exact⟨σ',H',I.unwish,q⟩
 | brk=>obtain⟨σ',H',I,q⟩:=h;exact⟨σ',H',I.unwish,q⟩
 | cont=>obtain⟨σ',H',I,q⟩:=h;exact⟨σ',H',I.unwish,q⟩
 | ret u=>obtain⟨v,σ',H',I,r,q⟩:=h;exact⟨v,σ',H',I.unwish,r,q⟩
theorem PSs.nox{st:List Stmt}{t:TS}(h:PSs X.nox st t):PSs X st t:=fun pins s σ H D I hw=>
 pV (h pins s σ H D (I.wish _) hw) (fun _ _ q=>q.unwish) fun _ _ z=>False.elim z
end
section
variable{X:Cx}{st:Stmt}{rest:List Stmt}{t u:TS}{e:Expr}{te:TE}{pos:Pos}
def zHj:TS:=fun D σ H=>D.nx σ H
def zVl(t u:TS):TS:=fun D σ H=>t {D with nx:=u D} σ H
theorem zM:PSs X [] zHj:=fun _ _ σ H _ I h=>aJ ⟨σ,H,I,h⟩
theorem zB(h1:PS X st t)(h2:PSs X rest u):PSs X (st::rest) (zVl t u):=by
 intro pins s σ H D I h;refine cS (thn (h1 pins s σ H {D with nx:=u D} I h) fun f s1 q=>?_)
 cases f with
 | next=>
  obtain⟨σ',H',I',q⟩:=q;exact h2 pins s1 σ' H' D I' q
 | ret v=>exact q
 | brk=>exact q
 | cont=>exact q
theorem zG(h1:PS X st t):PSs X [st] t:=by
 intro pins s σ H D I h;refine cS (thn (h1 pins s σ H D I h) fun f s1 q=>?_)
 cases f with
 | next=>exact aJ q
 | ret v=>exact q
 | brk=>exact q
 | cont=>exact q
def zGa:TS:=fun D σ H=>D.bk σ H
theorem zRv:PS X (.Break pos) zGa:=fun _ _ σ H _ I h=>wpAny_Break ⟨σ,H,I,h⟩
theorem Inv.quiet{pins:List (Addr×Obj)}{σ:St}{H:Hp}{s:Shared}(I:Inv X pins σ H s):interactive X.env=false:=by simp[interactive,I.ok.kind]
def zIo(te:TE):TS:=fun D σ H=>te σ H fun _ H1=>D.nx σ H1
theorem yY(he:PE X e te)(hs:swapsWith e none pos.line X.env=pure false:=by rfl):PS X (.Expr e pos) (zIo te):=by
 intro pins s σ H D I h;exact wpAny_Expr_any (thn (he pins s σ H _ I h) fun v s1 ⟨x,H1,I1,r1,q1⟩=>⟨σ,H1,I1,q1⟩) I.quiet hs
def zPj(te:TE):TS:=fun D σ H=>te σ H D.rt
theorem zN(he:PE X e te):PS X (.Return (some e) pos) (zPj te):=by
 intro pins s σ H D I h;exact wpAny_Return_some (thn (he pins s σ H _ I h) fun v s1 ⟨x,H1,I1,r1,q1⟩=>⟨x,σ,H1,I1,r1,q1⟩)
def zMg:TS:=fun D _ H=>D.rt .non H
def zTj(c:TT)(t u:TS):TS:=fun D σ H=>c σ H fun b H1=>if b=true then t D σ H1 else u D σ H1
theorem zR{c:Expr}{a b:List Stmt}{tc:TT}(hc:PT X c tc)(ha:PSs X a t)(hb:PSs X b u):PS X (.If c a b pos) (zTj tc t u):=by
 intro pins s σ H D I h;refine wpAny_If (thn (hc pins s σ H _ I h) fun d s1 ⟨H1,I1,q1⟩=>?_)
 cases d with
 | true=>exact ha pins s1 σ H1 D I1 q1
 | false=>exact hb pins s1 σ H1 D I1 q1
def uU:TS:=fun _ _ _=>False
theorem uW{sts:List Stmt}:PSs X sts uU:=fun _ _ _ _ _ _ h=>h.elim
end
abbrev TG:=V→St→Hp→(St→Hp→Prop)→Prop
abbrev TGs:=List V→St→Hp→(St→Hp→Prop)→Prop
def PG(X:Cx)(target:Expr)(t:TG):Prop:=
 ∀(pins:List (Addr×Obj))(s:Shared)(σ:St)(H:Hp)(v:V)(u:Value)(Q:St→Hp→Prop),Inv X pins σ H s→RelV v u→t v σ H Q→
  wpAny (model X.prog X.w) X.A (assign target X.env u) (fun _ s'=>∃σ' H',Inv X pins σ' H' s'∧Q σ' H') X.xe s
def PGs(X:Cx)(ts:List Expr)(t:TGs):Prop:=
 ∀(pins:List (Addr×Obj))(s:Shared)(σ:St)(H:Hp)(vs:List V)(us:List Value)(Q:St→Hp→Prop),Inv X pins σ H s→Vals vs us→t vs σ H Q→
  wpAny (model X.prog X.w) X.A (assignInOrder ((assignEach ts X.env).map (·.2)) us) (fun _ s'=>∃σ' H',Inv X pins σ' H' s'∧Q σ' H') X.xe s
abbrev zZl:=V→V→V→Hp→(Hp→Prop)→Prop
def PSet(X:Cx)(t:zZl):Prop:=
 ∀(pins:List (Addr×Obj))(s:Shared)(σ:St)(H:Hp)(o i v:V)(ov iv u:Value)(Q:Hp→Prop),Inv X pins σ H s→RelV o ov→RelV i iv→RelV v u→t o i v H Q→
  wpAny (model X.prog X.w) X.A (setItem ov iv u) (fun _ s'=>∃H',Inv X pins σ H' s'∧Q H') X.xe s
abbrev TIp:=V→V→Hp→VK→Prop
def PIp(X:Cx)(op:Operator)(t:TIp):Prop:=
 ∀(pins:List (Addr×Obj))(s:Shared)(σ:St)(H:Hp)(x y:V)(v u:Value)(Q:VK),Inv X pins σ H s→RelV x v→RelV y u→t x y H Q→
  wpAny (model X.prog X.w) X.A (inplaceOp op v u) (EP X pins σ Q) X.xe s
section
variable{X:Cx}{pos:Pos}
def qC(i:Nat):TG:=fun v σ H Q=>Q (σ.set i (some v)) H
theorem yO{i:Nat}{x:Str}(hN:X.N.Nodup)(hi:X.N[i]? =some x)(hx:Loc X.env.scope x)(hf:X.fn x=true∨X.env.scope.names.lookup x=some .local:=by first | exact .inl rfl | exact .inr rfl | assumption):PG X (.Name x pos) (qC i):=by
 intro pins s σ H v u Q I r h;exact wpAny_assign_Name (gT I hN hi hx r (fun s' I'=>⟨_,H,I',h⟩) hf)
def zOg:TGs:=fun vs σ H Q=>vs= []∧Q σ H
def zBp(t:TG)(u:TGs):TGs:=fun vs σ H Q=>∃v r,vs=v::r∧t v σ H fun σ' H'=>u r σ' H' Q
theorem zAv:PGs X [] zOg:=by
 intro pins s σ H vs us Q I r h;obtain⟨e,h⟩:=h;subst e;cases r;exact assignInOrder_nil ⟨σ,H,I,h⟩
theorem wE{e:Expr}{es:List Expr}{t:TG}{u:TGs}(h1:PG X e t)(h2:PGs X es u)
  (hs:(assignEach (e::es) X.env).map (·.2)=assign e X.env::(assignEach es X.env).map (·.2):=by rfl):PGs X (e::es) (zBp t u):=by
 intro pins s σ H vs us Q I r h;obtain⟨v,vr,e1,h⟩:=h;subst e1
 cases r with
 | cons r rr=>
  rw[hs];refine assignInOrder_cons (thn (h1 pins s σ H _ _ _ I r h) fun _ s1 ⟨σ1,H1,I1,q1⟩=>?_);exact h2 pins s1 σ1 H1 _ _ Q I1 rr q1
def zOa(K:W.Frag)(n:Nat)(t:TGs):TG:=fun v σ H Q=>∃a xs,v= .ref a∧SqT K H a xs∧xs.length=n∧t xs σ H Q
theorem zEz{es:List Expr}{k:Nat}{t:TGs}{n:Nat}(hc:X.cool=true)(h:PGs X es t)
  (hn:(assignEach es X.env).length=n:=by rfl) (hst:(assignEach es X.env).findIdx? (·.1)=none:=by rfl):PG X (.Tuple es k pos) (zOa X.K n t):=by
 intro pins s σ H v u Q I r hw;obtain⟨a,xs,e1,hq,hl,hw⟩:=hw;subst e1;cases r;obtain⟨its,rv,ht,hz⟩:=I.tuple hq;refine zCz (I.hn hc) ht (by simp[hn,←hl,rv.length]) hst fun h' hx=>?_;have I1:Inv X pins σ H {s with heap:=h'}:=I.kept (t':=s.toks) fun b o e=>hx b o (nQ (mW e)) e;exact h pins _ σ H xs _ Q I1 (by simpa using rv) hw
def gSub(to ti:TE)(t:zZl):TG:=fun v σ H Q=>to σ H fun o H1=>ti σ H1 fun i H2=>t o i v H2 fun H3=>Q σ H3
theorem yAa{o i:Expr}{to ti:TE}{t:zZl}(ho:PE X o to)(hi:PE X i ti)(hs:PSet X t)
  (ha:∀v,assign (.Subscript o i pos) X.env v=(do
   let ov ←holding [v] (eval o X.env);let iv ←holding [v,ov] (eval i X.env)
   standAt pos
   holding [v,ov,iv] (setItem ov iv v)
   release [v,ov,iv] []):=by intro _;rfl):PG X (.Subscript o i pos) (gSub to ti t):=by
 intro pins s σ H v u Q I r h;rw[ha];refine mD (pM (thn (ho pins s σ H _ I h) fun ov s1 ⟨x,H1,I1,r1,q1⟩=>?_));refine mD (pM (thn (hi pins s1 σ H1 _ I1 q1) fun iv s2 ⟨y,H2,I2,r2,q2⟩=>?_));refine mD (sX (mD (pM (thn (hs pins s2 σ H2 x y v ov iv u _ I2 r1 r2 r q2) fun _ s3 ⟨H3,I3,q3⟩=>?_))));exact wpAny_release ⟨σ,H3,I3,q3⟩
def zGy(te:TE)(g:TG):TS:=fun D σ H=>te σ H fun x H1=>g x σ H1 D.nx
theorem zBv{tg e:Expr}{te:TE}{g:TG}(he:PE X e te)(hg:PG X tg g)(hs:swapsWithSole [tg] e pos.line X.env=pure false:=by rfl)(hw:swappedStores [tg] e X.env=pure none:=by rfl)
  (h1:(assignEach [tg] X.env).map (·.2)= [assign tg X.env]:=by rfl):PS X (.Assign [tg] e pos) (zGy te g):=by
 intro pins s σ H D I h;refine wpAny_Assign_stores (thn (he pins s σ H _ I h) fun v s1 ⟨x,H1,I1,r1,q1⟩=>?_) hs hw;rw[h1];exact thn (hg pins s1 σ H1 x v _ I1 r1 q1) fun _ s2 q=>q
theorem zAc{i:Nat}{x:Str}{e:Expr}{te:TE}{pos':Pos}(hN:X.N.Nodup)(hi:X.N[i]? =some x)(hx:Loc X.env.scope x)(he:PE X e te)(hs:swapsWith e (some (.Name x pos')) pos.line X.env=pure false:=by rfl)(hf:X.fn x=true∨X.env.scope.names.lookup x=some .local:=by first | exact .inl rfl | exact .inr rfl | assumption):
  PS X (.Assign [.Name x pos'] e pos) (zGy te (qC i)):=by
 intro pins s σ H D I h;refine wpAny_Assign_Name (thn (he pins s σ H _ I h) fun v s1 ⟨y,H1,I1,r1,q1⟩=>?_) hs;exact gT I1 hN hi hx r1 (fun s2 I2=>⟨_,H1,I2,q1⟩) hf
def tAug(i:Nat)(te:TE)(ti:TIp):TS:=fun D σ H=>∃x,σ[i]? =some (some x)∧te σ H fun y H1=>ti x y H1 fun z H2=>D.nx (σ.set i (some z)) H2
theorem yAi{i:Nat}{x:Str}{e:Expr}{te:TE}{op:Operator}{ti:TIp}{pos':Pos}(hN:X.N.Nodup)(hi:X.N[i]? =some x)(hx:Loc X.env.scope x)(he:PE X e te)(ho:PIp X op ti)(hf:X.fn x=true∨X.env.scope.names.lookup x=some .local:=by first | exact .inl rfl | exact .inr rfl | assumption):
  PS X (.AugAssign (.Name x pos') op e pos) (tAug i te ti):=by
 intro pins s σ H D I h;obtain⟨v,e1,h⟩:=h;obtain⟨m,hn,hl⟩:=I.loc;have vis:Vis X.env.scope x:=by rcases hx with k | k;exact .inl k;exact .inr (.inl k)
 obtain⟨u,r,l⟩:=hl i x v hi e1 vis;refine wpAny_AugAssign_Name ?_;have go:wpAny (model X.prog X.w) X.A (eval e X.env) (fun w s₂=>wpAny (model X.prog X.w) X.A (inplaceOp op u w) (fun r s₃=>wpAny (model X.prog X.w) X.A (storeName X.env x r) (fun _=>SP X pins D .next) X.xe s₃) X.xe s₂) X.xe s:=by
  refine thn (he pins s σ H _ I h) fun w s1 ⟨y,H1,I1,r1,q1⟩=>?_;refine thn (ho pins s1 σ H1 v y u w _ I1 r r1 q1) fun z s2 ⟨zv,H2,I2,r2,q2⟩=>?_;exact gT I2 hN hi hx r2 (fun s3 I3=>⟨_,H2,I3,q2⟩) hf
 rcases l with⟨hk,hm⟩|⟨hk,c,hc,hcell⟩
 ·exact wpAny_loadName_local I.ok.kind hk hn hm go
 ·rcases hk with hk | hk
  ·exact wpAny_loadName_cell I.ok.kind hk hc hcell go
  ·rcases hx with k | k
   ·have:X.env.scope.names.lookup x=some .free:=hk
    rw[k] at this;cases this
   ·have:X.env.scope.names.lookup x=some .free:=hk
    rw[k] at this;cases this
def ipI(f:Int→Int→Int):TIp:=fun x y H Q=>∃i j,x= .int i∧y= .int j∧Q (.int (f i j)) H
theorem yAn:PIp X .Add (ipI fun i j=>i+j):=by
 intro pins s σ H x y v u Q I r1 r2 h;obtain⟨i,j,e1,e2,q⟩:=h;subst e1;subst e2;obtain⟨t,rfl⟩:=r1;obtain⟨t',rfl⟩:=r2;exact iadd_int ⟨.int _,H,I.tok _,⟨_,rfl⟩,q⟩
def zZo(c:TT)(tb:TS):TS:=fun D σ H=>∃W:Nat→St→Hp→Prop,(∃m,W m σ H)∧∀m σ H,W m σ H→
 c σ H fun b H1=>if b=true then∃N:St→Hp→Prop,(∀σ' H',N σ' H'→∃m',m'<m∧W m' σ' H')∧tb {D with nx:=N,ct:=N,bk:=D.nx} σ H1 else D.nx σ H1
theorem wN{c:Expr}{body:List Stmt}{tc:TT}{tb:TS}(hp:PassesOwn (model X.prog X.w) X.A X.env X.xe)(hc:PT X c tc)(hb:PSs X body tb):PS X (.While c body [] pos) (zZo tc tb):=by
 intro pins s σ H D I h;obtain⟨W,⟨m0,w0⟩,turn⟩:=h;refine wpAny_While (codeAny_whileLoop (fun n s'=>∃σ' H',Inv X pins σ' H' s'∧W n σ' H') ?_ m0 ⟨σ,H,I,w0⟩);rintro n s1 ⟨σ1,H1,I1,w1⟩;refine sV hp (thn (hc pins s1 σ1 H1 _ I1 (turn n σ1 H1 w1)) fun b s2 ⟨H2,I2,q2⟩=>?_)
 cases b with
 | true=>
  obtain⟨N,hN,q2⟩:=q2;rw[mK rfl];refine sV hp (thn (hb pins s2 σ1 H2 _ I2 q2) fun f s3 q3=>?_)
  cases f with
  | next=>
   obtain⟨σ3,H3,I3,n3⟩:=q3;obtain⟨m',hm,w3⟩:=hN σ3 H3 n3;exact⟨m',hm,σ3,H3,I3,w3⟩
  | cont=>
   obtain⟨σ3,H3,I3,n3⟩:=q3;obtain⟨m',hm,w3⟩:=hN σ3 H3 n3;exact⟨m',hm,σ3,H3,I3,w3⟩
  | brk=>exact q3
  | ret v=>exact q3
 | false=>
  rw[mG mR];exact aJ ⟨σ1,H2,I2,q2⟩
end
structure It where
 go:Nat→Hp→Prop
 yld:Nat→Hp→V→Hp→Prop
 stop:Nat→Hp→Prop
def zDk(X:Cx)(pins:List (Addr×Obj))(H:Hp)(b:Addr):Prop:=
 H b=none∧b≠X.env.locals∧b∉X.fs∧(b∈X.ex∨X.s₀.heap.objs.size≤b)∧(∀x c,X.env.cells.lookup x=some c→c≠b)∧∀p∈X.pn++pins,p.1≠b
theorem Inv.fpOk{X:Cx}{pins:List (Addr×Obj)}{σ:St}{H H':Hp}{s:Shared}{b:Addr}(I:Inv X pins σ H s)(hb:s.heap.objs.size≤b)(hn:H' b=none):zDk X pins H' b:=by
 refine⟨hn,aM (mX I.lt hb),I.nofs hb, .inr (nR I.sz hb),fun x c e z=>?_,fun p hp z=>?_⟩
 ·obtain⟨v,q⟩:=I.cell x c e
  exact absurd (mX q.lt (by rw[z];exact hb)) (rR _)
 ·exact absurd (mX (mW (I.pin p hp).1) (by rw[z];exact hb)) (rR _)
structure zHp(fl:Bool)(P:Program)(w:World)(K:W.Frag)(tg:Expr)(J:It)(fp:List Addr)(it:Addr)(tn:Nat→Heap→Prop):Prop where
 mem:it∈fp
 obj:∀i h,tn i h→∀b∈fp,∃o,h.get? b=some o∧∀v,o.data≠ .cell v
 keep:∀i h h',tn i h→(∀b∈fp,∀o,h.get? b=some o→h'.get? b=some o)→tn i h'
 item:∀(X:Cx),X.prog=P→X.w=w→X.K=K→X.heat fl=true→∀(i:Nat)(pins:List (Addr×Obj))(s:Shared)(σ:St)(H:Hp)(E:Value→Shared→Prop),Inv X pins σ H s→(∀b∈fp,zDk X pins H b)→tn i s.heap→J.go i H→
  wpAny (model P w) X.A (pyNext (.ref it)) (fun r s1=>∃u,r=some u∧
   wpAny (model P w) X.A (letOwnedTupleGo tg (.ref it) u) (fun _ s2=>∃x H',Inv X pins σ H' s2∧RelV x u∧J.yld i H x H'∧tn (i+1) s2.heap∧∀b∈fp,H' b=none) E s1) E s
 done:∀(X:Cx),X.prog=P→X.w=w→X.K=K→X.heat fl=true→∀(i:Nat)(pins:List (Addr×Obj))(s:Shared)(σ:St)(H:Hp)(E:Value→Shared→Prop),Inv X pins σ H s→(∀b∈fp,zDk X pins H b)→tn i s.heap→J.stop i H→
  wpAny (model P w) X.A (pyNext (.ref it)) (fun r s1=>r=none∧Inv X pins σ H s1) E s
 self:∀(A:Around)(i:Nat)(s:Shared)(Q:Value→Shared→Prop)(E:Value→Shared→Prop),tn i s.heap→Q (.ref it) s→wpAny (model P w) A (pyIter (.ref it)) Q E s
abbrev Turn(P:Program)(w:World)(K:W.Frag)(tg:Expr)(J:It)(fp:List Addr)(it:Addr)(tn:Nat→Heap→Prop):Prop:=zHp false P w K tg J fp it tn
abbrev TI:=St→Hp→(It→Hp→Prop)→Prop
def PIE(X:Cx)(pins:List (Addr×Obj))(σ:St)(tg:Expr)(R:It→Hp→Prop)(itv:Value)(s2:Shared):Prop:=
 ∃(it:Addr)(fp:List Addr)(tn:Nat→Heap→Prop)(J:It)(H':Hp),itv= .ref it∧Inv X pins σ H' s2∧(∃fl,X.heat fl=true∧zHp fl X.prog X.w X.K tg J fp it tn)∧tn 0 s2.heap∧(∀b∈fp,zDk X pins H' b)∧R J H'
def PI(X:Cx)(tg iter:Expr)(wi:TI):Prop:=
 ∀(pins:List (Addr×Obj))(s:Shared)(σ:St)(H:Hp)(R:It→Hp→Prop),Inv X pins σ H s→wi σ H R→
  wpAny (model X.prog X.w) X.A (eval iter X.env) (fun v s1=>wpAny (model X.prog X.w) X.A (pyIter v) (PIE X pins σ tg R) X.xe s1) X.xe s
theorem zLy{M:Model}{A:Around}{E:Value→Shared→Prop}{s:Shared}{tg:Expr}{it:Addr}{u:Value}{o:Obj}{n:String}{vs:Array Value}{Q:Unit→Shared→Prop}(ho:s.heap.get? it=some o)(hc:o.cls= .type n)(hd:o.data= .fields vs)
    (hn: ["enumerate","zip","dict_itemiterator","dict_reverseitemiterator","odict_iterator","itertools.zip_longest","itertools.pairwise"].contains n=false) (hQ:Q () s):wpAny M A (letOwnedTupleGo tg (.ref it) u) Q E s:=by
  unfold letOwnedTupleGo;cases tg<;>first
    | exact mO hQ
    |(cases u<;>first
        | exact mO hQ
        | (refine mD (wpAny_load ho ?_)
           rw[hc,hd];show wpAny M A (if(["enumerate","zip","dict_itemiterator","dict_reverseitemiterator","odict_iterator","itertools.zip_longest","itertools.pairwise"].contains n && vs[0]? ==some (rawInt _))=true then _ else _) Q E s;rw[mG (by intro h;rw[hn,tV] at h;cases h)];exact mO hQ))
def Itl(K:W.Frag)(a:Addr):It:=
 ⟨fun i H=>∃xs x,SqL K H a xs∧xs[i]? =some x,fun i H x H'=>H'=H∧∀xs,SqL K H a xs→xs[i]? =some x,fun i H=>∃xs,SqL K H a xs∧xs.length≤i⟩
def Itr(lo:Int)(n:Nat):It:=⟨fun i _=>i<n,fun i H x H'=>H'=H∧x= .int (lo+i),fun i _=>n≤i⟩
theorem zOi{P:Program}{w:World}{K:W.Frag}{tg:Expr}(a it:Addr):zHp true P w K tg (Itl K a) [it] it (fun i h=>h.IsListIter it a i) where
 mem:=by simp
 obj:=fun i h st b hb=>by
  have e:b=it:=by simpa using hb
  subst e;obtain⟨o,e,c,d⟩:=st;exact⟨o,e,fun v z=>by rw[d] at z;cases z⟩
 keep:=fun i h h' st k=>st.at fun o e=>k it (by simp) o e
 item:=by
  intro X hP hw hK hc i pins s σ H E I hf st hg;subst hP hw hK;obtain⟨xs,x,hq,hx⟩:=hg;obtain⟨its,rv,p,hz⟩:=I.list hq;obtain⟨u,hu,ru⟩:=rv.get hx;obtain⟨f0,f1,f2,f3,f4,f5⟩:=hf it (by simp);refine wpAny_pyNext_list_item st p.isList (x:=u) (by simpa using hu) fun h' st' sb=>?_;have I1:Inv X pins σ H {s with heap:=h'}:=I.turned (t':=s.toks) (fun b o hb e=>(sb.2 b hb).trans e) f0 f1 f3 f4 f5;obtain⟨o,e,c,d⟩:=id st';exact⟨u,rfl,zLy (s:={s with heap:=h'}) e c d (by decide) ⟨x,H,I1,ru,⟨rfl,fun ys hy=>by rw[I.list_inj hy hq];exact hx⟩,st',fun b hb=>(hf b hb).1⟩⟩
 done:=by
  intro X hP hw hK hc i pins s σ H E I hf st hg;subst hP hw hK;obtain⟨xs,hq,hx⟩:=hg;obtain⟨its,rv,p,hz⟩:=I.list hq;obtain⟨f0,f1,f2,f3,f4,f5⟩:=hf it (by simp);have hl:=rv.length;exact zCy (I.hn hc) st p.isList (by simp;lia) fun h' eb=>⟨rfl,I.turned (t':=s.toks) (fun b o hb e=>eb b o hb e) f0 f1 f3 f4 f5⟩
 self:=fun _ _ _ _ _ st h=>wpAny_pyIter_listiter st h
theorem zJv{P:Program}{w:World}{K:PySem.W.Frag}{tg:Expr}(it:Addr)(lo:Int)(n:Nat):Turn P w K tg (Itr lo n) [it] it (fun i h=>IsRangeIter h it (lo+(i:Nat)*1) ((n:Int)- (i:Nat)) 1) where
 mem:=by simp
 obj:=fun i h st b hb=>by
  have e:b=it:=by simpa using hb
  subst e;exact⟨_,st,fun v z=>by
   have z':Data.fields _=Data.cell v:=z;cases z'⟩
 keep:=fun i h h' st k=>k it (by simp) _ st
 item:=by
  intro X hP hw hK hc i pins s σ H E I hf st hg;subst hP hw hK;obtain⟨f0,f1,f2,f3,f4,f5⟩:=hf it (by simp);have W:=Walks.range (prog:=X.prog) (w:=X.w) (I.ok.hd.1 hc) it lo 1 n;refine W.item i s _ _ hg st fun v h' tk hv st' kk=>?_;obtain⟨t,rfl⟩:=hv;have I1:Inv X pins σ H {s with heap:=h',toks:=tk}:=I.turned (fun b o hb e=>kk b o (by simpa using hb) e) f0 f1 f3 f4 f5;refine⟨_,rfl,zLy (s:={s with heap:=h',toks:=tk}) (n:="range_iterator") st' rfl rfl (by decide) ⟨.int (lo+i),H,I1,⟨t, ?_⟩,⟨rfl,rfl⟩,st',fun b hb=>(hf b hb).1⟩⟩;rw[Int.mul_one]
 done:=by
  intro X hP hw hK hc i pins s σ H E I hf st hg;subst hP hw hK;obtain⟨f0,f1,f2,f3,f4,f5⟩:=hf it (by simp);exact wpAny_pyNext_range_end (I.ok.hd.1 hc) st (by have:n≤i:=hg;lia) fun h' eb=>⟨rfl,I.turned (t':=s.toks) (fun b o hb e=>eb b o hb e) f0 f1 f3 f4 f5⟩
 self:=fun _ _ _ _ _ st h=>wpAny_pyIter_rangeiter st h
section
variable{X:Cx}{tg:Expr}
def zIk(K:W.Frag)(tl:TE):TI:=fun σ H R=>tl σ H fun x H1=>∃a,x= .ref a∧(∃xs,SqL K H1 a xs)∧R (Itl K a) H1
theorem zWz{l:Expr}{tl:TE}(hl:PE X l tl)(hcl:X.cool=true:=by rfl):PI X tg l (zIk X.K tl):=by
 intro pins s σ H R I h;refine thn (hl pins s σ H _ I h) fun v s1 ⟨x,H1,I1,r1,q1⟩=>?_;obtain⟨a,e,⟨xs,hq⟩,q⟩:=q1;subst e;cases r1;obtain⟨its,rv,p,hz⟩:=I1.list hq;refine wpAny_pyIter_list p.isList ?_;refine⟨s1.heap.objs.size,[s1.heap.objs.size],_,_,H1,rfl,I1.kept (t':=s1.toks) fun b o e=>mI _ e,⟨true,hcl,zOi a _⟩,⟨_,nI _ rfl,rfl,rfl⟩,fun b hb=>?_,q⟩;have e:b=s1.heap.objs.size:=by simpa using hb
 subst e;exact I1.fpOk (mL _) (I1.hok.fresh (mL _))
theorem zVh{pins:List (Addr×Obj)}{σ:St}{H:Hp}{s:Shared}{R:It→Hp→Prop}{E:Value→Shared→Prop}{lo hi:Int}{t u v:Tok}{tk:Nat}(I:Inv X pins σ H s)(h1: -(2 ^ 62)≤lo)(h2:lo<2 ^ 62)(h3: -(2 ^ 62)≤hi)(h4:hi<2 ^ 62)
  (q:R (Itr lo (hi - lo).toNat) H) (hcl:X.calm=true):wpAny (model X.prog X.w) X.A (pyIter (.ref s.heap.objs.size)) (PIE X pins σ tg R) E {s with heap:=s.heap.push {cls:=.type "range",data:=.fields #[.int lo t, .int hi u, .int 1 v]},toks:=tk}:=by
 refine wpAny_pyIter_range (IsRange.new ..) (small_one h1 h2 h3 h4) ?_;have I1:Inv X pins σ H {s with heap:=s.heap.push {cls:=.type "range",data:=.fields #[.int lo t, .int hi u, .int 1 v]},toks:=tk}:=I.kept fun b o e=>mI _ e;refine⟨(s.heap.push {cls:=.type "range",data:=.fields #[.int lo t, .int hi u, .int 1 v]}).objs.size,[(s.heap.push {cls:=.type "range",data:=.fields #[.int lo t, .int hi u, .int 1 v]}).objs.size],_,_,H,rfl,
  I1.kept (t':=tk) fun b o e=>mI _ e,⟨false,hcl,zJv _ lo (hi - lo).toNat⟩, ?_,fun b hb=>?_,q⟩
 ·have e1:lo+((0:Nat):Int)*1=lo:=by simp
  have e2:(((hi - lo).toNat:Nat):Int)- ((0:Nat):Int)=Builtin.Range.rangeSize lo hi 1:=by rw[rangeSize_one];split<;>lia
  show IsRangeIter _ _ (lo+((0:Nat):Int)*1) ((((hi - lo).toNat:Nat):Int)- ((0:Nat):Int)) 1;rw[e1,e2];exact nI _ rfl
 ·have e:b=(s.heap.push {cls:=.type "range",data:=.fields #[.int lo t, .int hi u, .int 1 v]}).objs.size:=by simpa using hb
  subst e;exact I1.fpOk (mL _) (I1.hok.fresh (mL _))
def zHa(ta:TA):TI:=fun σ H R=>ta σ H fun vs H1=>∃j:Int,vs= [.int j]∧-(2 ^ 62)≤j∧j<2 ^ 62∧R (Itr 0 j.toNat) H1
theorem vB{a:Expr}{ta:TA}{p pos:Pos}(hg:Gl X "range")(hm:X.mg "range" =none)(ha:PA X [a] ta)(hs:starEach [a] X.env= [(false,eval a X.env)]:=by rfl)(hcl:X.calm=true:=by rfl):PI X tg (.Call (.Name "range" p) [a] [] pos) (zHa ta):=by
 intro pins s σ H R I h;refine Call_ (zFt I hg hm boot_range (cG (thn (ha pos pins s σ H _ I h) fun us s1 ⟨vs,H1,I1,r1,q1⟩=>?_) hs rfl));obtain⟨j,e,q1,q2,q⟩:=q1;subst e
 cases r1 with
 | cons r rr=>
  cases rr;obtain⟨t,rfl⟩:=r;exact call_range_1 (zVh I1 (by lia) (by lia) q1 q2 (by simpa using q) hcl)
def tFor(wi:TI)(g:TG)(tb:TS):TS:=fun D σ H=>wi σ H fun J H1=>∃W:Nat→Nat→St→Hp→Prop,(∃m,W 0 m σ H1)∧∀i m σ H,W i m σ H→
 (J.stop i H∧D.nx σ H)∨(J.go i H∧∃N:St→Hp→Prop,(∀σ' H',N σ' H'→∃m',m'<m∧W (i+1) m' σ' H')∧∀x H',J.yld i H x H'→g x σ H' fun σ2 H2=>tb {D with nx:=N,ct:=N,bk:=D.nx} σ2 H2)
def zCw(fp:List Addr)(h:Heap):List (Addr×Obj):=fp.filterMap fun b=>(h.get? b).map fun o=>(b,o)
theorem jN{fp:List Addr}{h:Heap}{b:Addr}{o:Obj}(hb:b∈fp)(e:h.get? b=some o):(b,o)∈zCw fp h:=List.mem_filterMap.mpr ⟨b,hb,by rw[e];rfl⟩
theorem zPc{fp:List Addr}{h:Heap}{p:Addr×Obj}(hp:p∈zCw fp h):p.1∈fp∧h.get? p.1=some p.2:=by
 obtain⟨b,hb,e⟩:=List.mem_filterMap.mp hp
 cases q:h.get? b with
 | none=>rw[q] at e;cases e
 | some o=>
  rw[q] at e;have e':(b,o)=p:=nV e;subst e';exact⟨hb,q⟩
theorem Inv.pinned{pins:List (Addr×Obj)}{σ:St}{H:Hp}{s:Shared}{fp:List Addr}(I:Inv X pins σ H s)(hf:∀b∈fp,zDk X pins H b)(ho:∀b∈fp,∃o,s.heap.get? b=some o∧∀v,o.data≠ .cell v):Inv X (pins++zCw fp s.heap) σ H s:=
 I.pins_of fun p hp=>(pA.mp hp).elim (fun z=>I.pin p (nX _ z)) fun z=>by
  obtain⟨hb,e⟩:=zPc z;obtain⟨f0,f1,f2,_⟩:=hf p.1 hb;obtain⟨o,e',d⟩:=ho p.1 hb;rw[e] at e';cases e';exact⟨e,f0,f1,f2,d⟩
theorem Inv.unpinned{pins pl:List (Addr×Obj)}{σ:St}{H:Hp}{s:Shared}(I:Inv X (pins++pl) σ H s):Inv X pins σ H s:=I.pins_of fun p hp=>I.pin p (nX _ (sD _ hp))
theorem zFs{iter:Expr}{body:List Stmt}{wi:TI}{g:TG}{tb:TS}{pos:Pos}(hp:PassesOwn (model X.prog X.w) X.A X.env X.xe)(hc:X.cool=true)(hi:PI X tg iter wi)(hg:PG X tg g)(hb:PSs X body tb)
  (hs:∀x,foldedSetIterable iter X.env x=pure x:=by intro _;rfl):PS X (.For tg iter body [] pos) (tFor wi g tb):=by
 intro pins s σ H D I h;refine wpAny_For (thn (hi pins s σ H _ I h) fun v s1 h1=>thn h1 fun itv s2 h2=>?_) hs;obtain⟨it,fp,tn,J,H2,e,I2,⟨fl,hfl,T⟩,st2,f2,W,⟨m0,w0⟩,turn⟩:=h2;subst e
 -- what stays true of the iterator's objects through the loop
 have stat:∀{H':Hp},(∀b∈fp,H' b=none)→∀b∈fp,zDk X pins H' b:=fun hn b hb=>⟨hn b hb,(f2 b hb).2⟩;refine codeAny_forLoop_any (fun n s'=>∃i σ' H',Inv X pins σ' H' s'∧tn i s'.heap∧(∀b∈fp,H' b=none)∧W i n σ' H') ?_ m0 ⟨0,σ,H2,I2,st2,fun b hb=>(f2 b hb).1,w0⟩;rintro n s3 ⟨i,σ3,H3,I3,st3,fr3,w3⟩;rcases turn i n σ3 H3 w3 with⟨stop,qn⟩|⟨go,N,hN,step⟩
 ·refine sV hp (thn (T.done X rfl rfl rfl hfl i pins s3 σ3 H3 X.xe I3 (stat fr3) st3 stop) fun r s4 ⟨hr,I4⟩=>?_)
  subst hr;exact aJ ⟨σ3,H3,I4,qn⟩
 ·refine sV hp (thn (T.item X rfl rfl rfl hfl i pins s3 σ3 H3 X.xe I3 (stat fr3) st3 go) fun r s4 ⟨u,hr,h4⟩=>?_)
  subst hr;refine sV hp (thn h4 fun _ s5 ⟨x,H5,I5,r5,y5,st5,fr5⟩=>?_);have I5':=I5.pinned (stat fr5) (T.obj _ _ st5);refine sV hp (thn (hg _ s5 σ3 H5 x u _ I5' r5 (step x H5 y5)) fun _ s6 ⟨σ6,H6,I6,q6⟩=>?_);refine sV hp (thn (hb _ s6 σ6 H6 _ I6 q6) fun f s7 q7=>?_);have again:∀{σ7:St}{H7:Hp},Inv X (pins++zCw fp s5.heap) σ7 H7 s7→N σ7 H7→∃m,m<n∧∃i σ' H',Inv X pins σ' H' s7∧tn i s7.heap∧(∀b∈fp,H' b=none)∧W i m σ' H':=fun {σ7 H7} I7 n7=>by
   obtain⟨m',hm,w7⟩:=hN σ7 H7 n7;refine⟨m',hm,i+1,σ7,H7,I7.unpinned,T.keep _ _ _ st5 fun b hb o e=>(I7.pin (b,o) (nX _ (nX _ (jN hb e)))).1,fun b hb=>?_,w7⟩;obtain⟨o,e,d⟩:=T.obj _ _ st5 b hb;exact(I7.pin (b,o) (nX _ (nX _ (jN hb e)))).2.1
  cases f with
  | next=>obtain⟨σ7,H7,I7,n7⟩:=q7;exact again I7 n7
  | cont=>obtain⟨σ7,H7,I7,n7⟩:=q7;exact again I7 n7
  | brk=>obtain⟨σ7,H7,I7,q7⟩:=q7;exact⟨σ7,H7,I7.unpinned,q7⟩
  | ret v=>obtain⟨x7,σ7,H7,I7,r7,q7⟩:=q7;exact⟨x7,σ7,H7,I7.unpinned,r7,q7⟩
end
theorem zUu{K:PySem.W.Frag}{a:Addr}{xs:List V}{g:TG}{tb:TS}{D:uZ}{σ:St}{H:Hp}(Pv:Nat→St→Hp→Prop)(h0:Pv 0 σ H)(hl:∀i σ H,i≤xs.length→Pv i σ H→SqL K H a xs)
  (hs:∀i x σ H,xs[i]? =some x→Pv i σ H→g x σ H fun σ2 H2=>tb {D with nx:=Pv (i+1),ct:=Pv (i+1),bk:=D.nx} σ2 H2) (hd:∀σ H,Pv xs.length σ H→D.nx σ H):
  ∃W:Nat→Nat→St→Hp→Prop,(∃m,W 0 m σ H)∧∀i m σ H,W i m σ H→
   ((Itl K a).stop i H∧D.nx σ H)∨((Itl K a).go i H∧∃N:St→Hp→Prop,(∀σ' H',N σ' H'→∃m',m'<m∧W (i+1) m' σ' H')∧∀x H',(Itl K a).yld i H x H'→g x σ H' fun σ2 H2=>tb {D with nx:=N,ct:=N,bk:=D.nx} σ2 H2):=by
 refine⟨fun i m σ H=>m=xs.length - i∧i≤xs.length∧Pv i σ H,⟨xs.length,by simp,rK _,h0⟩, ?_⟩;rintro i m σ H ⟨rfl,hi,p⟩;have q:=hl i σ H hi p
 by_cases hlt:i<xs.length
 ·refine .inr ⟨⟨xs,xs[i],q,by simp[hlt]⟩,Pv (i+1),fun σ' H' p'=>⟨xs.length - (i+1),by lia,rfl,hlt,p'⟩,fun x H' y=>?_⟩
  obtain⟨e,y⟩:=y;subst e;exact hs i x σ _ (y xs q) p
 ·have e:i=xs.length:=by lia
  subst e;exact .inl ⟨⟨xs,q,mL _⟩,hd σ H p⟩
theorem zPa{lo:Int}{n:Nat}{g:TG}{tb:TS}{D:uZ}{σ:St}{H:Hp}(Pv:Nat→St→Hp→Prop)(h0:Pv 0 σ H)
  (hs:∀i σ H,i<n→Pv i σ H→g (.int (lo+i)) σ H fun σ2 H2=>tb {D with nx:=Pv (i+1),ct:=Pv (i+1),bk:=D.nx} σ2 H2) (hd:∀σ H,Pv n σ H→D.nx σ H):
  ∃W:Nat→Nat→St→Hp→Prop,(∃m,W 0 m σ H)∧∀i m σ H,W i m σ H→
   ((Itr lo n).stop i H∧D.nx σ H)∨((Itr lo n).go i H∧∃N:St→Hp→Prop,(∀σ' H',N σ' H'→∃m',m'<m∧W (i+1) m' σ' H')∧∀x H',(Itr lo n).yld i H x H'→g x σ H' fun σ2 H2=>tb {D with nx:=N,ct:=N,bk:=D.nx} σ2 H2):=by
 refine⟨fun i m σ H=>m=n - i∧i≤n∧Pv i σ H,⟨n,by simp,rK _,h0⟩, ?_⟩;rintro i m σ H ⟨rfl,hi,p⟩
 by_cases hlt:i<n
 ·refine .inr ⟨hlt,Pv (i+1),fun σ' H' p'=>⟨n - (i+1),by lia,rfl,hlt,p'⟩,fun x H' y=>?_⟩
  obtain⟨e,y⟩:=y;subst e y;exact hs i σ _ hlt p
 ·have e:i=n:=by lia
  subst e;exact .inl ⟨mL _,hd σ H p⟩
abbrev R2:=V→V→Hp→VK→Prop
def OpR(X:Cx)(f:Value→Value→Sem Value)(r:R2):Prop:=
 ∀(pins:List (Addr×Obj))(s:Shared)(σ:St)(H:Hp)(x y:V)(v u:Value)(Q:VK),Inv X pins σ H s→RelV x v→RelV y u→r x y H Q→
  wpAny (model X.prog X.w) X.A (f v u) (EP X pins σ Q) X.xe s
def UnR(X:Cx)(f:Value→Sem Value)(r:V→Hp→VK→Prop):Prop:=
 ∀(pins:List (Addr×Obj))(s:Shared)(σ:St)(H:Hp)(x:V)(v:Value)(Q:VK),Inv X pins σ H s→RelV x v→r x H Q→
  wpAny (model X.prog X.w) X.A (f v) (EP X pins σ Q) X.xe s
def wK(X:Cx)(f:Value)(r:List V→Hp→VK→Prop):Prop:=
 ∀(pins:List (Addr×Obj))(s:Shared)(σ:St)(H:Hp)(xs:List V)(us:List Value)(Q:VK),Inv X pins σ H s→Vals xs us→r xs H Q→
  wpAny (model X.prog X.w) X.A (call f us) (EP X pins σ Q) X.xe s
def TruR(X:Cx)(r:V→Hp→(Bool→Hp→Prop)→Prop):Prop:=
 ∀(pins:List (Addr×Obj))(s:Shared)(σ:St)(H:Hp)(x:V)(v:Value)(Q:Bool→Hp→Prop),Inv X pins σ H s→RelV x v→r x H Q→
  wpAny (model X.prog X.w) X.A (truthy v) (TP X pins σ Q) X.xe s
def tOp(r:R2)(ta tb:TE):TE:=fun σ H Q=>ta σ H fun x H1=>tb σ H1 fun y H2=>r x y H2 Q
def tUn(r:V→Hp→VK→Prop)(ta:TE):TE:=fun σ H Q=>ta σ H fun x H1=>r x H1 Q
def rI(C:Int→Int→Prop)(g:Int→Int→V):R2:=fun x y H Q=>∃i j,x= .int i∧y= .int j∧C i j∧Q (g i j) H
def rI0(g:Int→Int→V):R2:=fun x y H Q=>∃i j,x= .int i∧y= .int j∧Q (g i j) H
def rU(g:Int→V):V→Hp→VK→Prop:=fun x H Q=>∃i,x= .int i∧Q (g i) H
section
variable{X:Cx}{a b c:Expr}{ta tb tc:TE}{pos:Pos}
theorem zZg(ha:PE X a ta)(hb:PE X b tb){pins:List (Addr×Obj)}{s:Shared}{σ:St}{H:Hp}{R:V→V→Hp→Prop}(I:Inv X pins σ H s)
  (h:ta σ H fun x H1=>tb σ H1 fun y H2=>R x y H2) {Q:Value→Shared→Prop} {f:Value→Value→Sem Value}
  (hf:∀v u s2 x y H2,Inv X pins σ H2 s2→RelV x v→RelV y u→R x y H2→wpAny (model X.prog X.w) X.A (f v u) Q X.xe s2):
  wpAny (model X.prog X.w) X.A (eval a X.env) (fun v s₁=>wpAny (model X.prog X.w) X.A (eval b X.env) (fun u s₂=>wpAny (model X.prog X.w) X.A (f v u) Q X.xe s₂) X.xe s₁) X.xe s:=by
 refine thn (ha pins s σ H _ I h) fun v s1 ⟨x,H1,I1,r1,q1⟩=>?_;refine thn (hb pins s1 σ H1 _ I1 q1) fun u s2 ⟨y,H2,I2,r2,q2⟩=>?_;exact hf v u s2 x y H2 I2 r1 r2 q2
theorem zI{op:Operator}{r:R2}(ho:OpR X (binaryOp op) r)(ha:PE X a ta)(hb:PE X b tb):PE X (.BinOp a op b pos) (tOp r ta tb):=by
 intro pins s σ H Q I h;exact wpAny_BinOp (zZg ha hb I h fun v u s2 x y H2 I2 rx ry q=>ho pins s2 σ H2 x y v u Q I2 rx ry q)
theorem wQ{op:UnaryOp}{r:V→Hp→VK→Prop}(ho:UnR X (unaryOp op) r)(ha:PE X a ta):PE X (.UnaryOp op a pos) (tUn r ta):=by
 intro pins s σ H Q I h;exact UnaryOp_ (thn (ha pins s σ H _ I h) fun v s1 ⟨x,H1,I1,r1,q1⟩=>ho pins s1 σ H1 x v Q I1 r1 q1)
theorem opI{f:Value→Value→Sem Value}{C:Int→Int→Prop}{g:Int→Int→Int}
  (rule:∀(i j:Int)(t u:Tok)(s:Shared)(Q:Value→Shared→Prop)(E:Value→Shared→Prop),C i j→Q (.int (g i j) s.toks) {s with toks:=s.toks+1}→wpAny (model X.prog X.w) X.A (f (.int i t) (.int j u)) Q E s):
  OpR X f (rI C fun i j=>.int (g i j)):=by
 intro pins s σ H x y v u Q I rx ry h;obtain⟨i,j,rfl,rfl,hc,q⟩:=h;obtain⟨t,rfl⟩:=rx;obtain⟨t',rfl⟩:=ry;exact rule i j t t' s _ _ hc ⟨.int (g i j),H,I.tok _,⟨_,rfl⟩,q⟩
theorem opI0{f:Value→Value→Sem Value}{g:Int→Int→Int}
  (rule:∀(i j:Int)(t u:Tok)(s:Shared)(Q:Value→Shared→Prop)(E:Value→Shared→Prop),Q (.int (g i j) s.toks) {s with toks:=s.toks+1}→wpAny (model X.prog X.w) X.A (f (.int i t) (.int j u)) Q E s):
  OpR X f (rI0 fun i j=>.int (g i j)):=by
 intro pins s σ H x y v u Q I rx ry h;obtain⟨i,j,rfl,rfl,q⟩:=h;obtain⟨t,rfl⟩:=rx;obtain⟨t',rfl⟩:=ry;exact rule i j t t' s _ _ ⟨.int (g i j),H,I.tok _,⟨_,rfl⟩,q⟩
theorem zWv{f:Value→Value→Sem Value}{g:Int→Int→Bool}
  (rule:∀(i j:Int)(t u:Tok)(s:Shared)(Q:Value→Shared→Prop)(E:Value→Shared→Prop),Q (.bool (g i j)) s→wpAny (model X.prog X.w) X.A (f (.int i t) (.int j u)) Q E s):
  OpR X f (rI0 fun i j=>.bl (g i j)):=by
 intro pins s σ H x y v u Q I rx ry h;obtain⟨i,j,rfl,rfl,q⟩:=h;obtain⟨t,rfl⟩:=rx;obtain⟨t',rfl⟩:=ry;exact rule i j t t' s _ _ ⟨.bl (g i j),H,I,rfl,q⟩
def zSr(i j:Int):Prop:=0<j∧j<1073741824
def zQl(i j:Int):Prop:=0≤j∧j≤1000000∧i.natAbs<2 ^ 64
def CMul(i j:Int):Prop:=(-(2 ^ 64)<i∧i<2 ^ 64)∨(-(2 ^ 64)<j∧j<2 ^ 64)
theorem CMul.ok{i j:Int}(h:CMul i j):IntMulOk i j:=by
 rcases h with⟨h1,h2⟩|⟨h1,h2⟩
 ·exact .of_left (intBits_le_64 h1 h2)
 ·exact .of_right (intBits_le_64 h1 h2)
theorem yD:OpR X (binaryOp .Add) (rI0 fun i j=>.int (i+j)):=opI0 fun _ _ _ _ _ _ _ q=>add_int q
theorem jO:OpR X (binaryOp .Sub) (rI0 fun i j=>.int (i - j)):=opI0 fun _ _ _ _ _ _ _ q=>sub_int q
theorem wO:OpR X (binaryOp .Mult) (rI CMul fun i j=>.int (i*j)):=opI fun _ _ _ _ _ _ _ hc q=>mul_int q hc.ok
theorem zZ:OpR X (binaryOp .FloorDiv) (rI zSr fun i j=>.int (i / j)):=opI fun i j _ _ _ _ _ hc q=>by
 have h1:(0:Int)<j:=hc.1;have h2:j<1073741824:=hc.2;exact floordiv_int (by lia) (by rw[Int.fdiv_eq_ediv_of_nonneg i (by lia)];exact q) (.inl (PyProof.noPylong_small (by lia)))
theorem zY:OpR X (binaryOp .Mod) (rI (fun _ j=>0<j) fun i j=>.int (i % j)):=opI fun i j _ _ _ _ _ hc q=>by
 have h1:(0:Int)<j:=hc;exact mod_int' (by lia) (by rw[Int.fmod_eq_emod_of_nonneg i (by lia)];exact q)
theorem qO:OpR X (binaryOp .Pow) (rI zQl fun i j=>.int (i ^ j.toNat)):=opI fun _ _ _ _ _ _ _ hc q=>pow_int_small hc.1 hc.2.1 hc.2.2 q
theorem unI{f:Value→Sem Value}{g:Int→Int}
  (rule:∀(i:Int)(t:Tok)(s:Shared)(Q:Value→Shared→Prop)(E:Value→Shared→Prop),Q (.int (g i) s.toks) {s with toks:=s.toks+1}→wpAny (model X.prog X.w) X.A (f (.int i t)) Q E s):
  UnR X f (rU fun i=>.int (g i)):=by
 intro pins s σ H x v Q I rx h;obtain⟨i,rfl,q⟩:=h;obtain⟨t,rfl⟩:=rx;exact rule i t s _ _ ⟨.int (g i),H,I.tok _,⟨_,rfl⟩,q⟩
theorem xN:UnR X (unaryOp .USub) (rU fun i=>.int (-i)):=unI fun _ _ _ _ _ q=>neg_int q
def zKf:V→V→Bool
 | .non, .non=>true | .non, .int _=>true | .int _, .non=>true | .non, .bl _=>true | .bl _, .non=>true | .non, .str _=>true | .str _, .non=>true
 | .int _, .int _=>true | .bl _, .bl _=>true | .str _, .str _=>true | .byt _, .byt _=>true
 | .int _, .str _=>true | .str _, .int _=>true | .bl _, .str _=>true | .str _, .bl _=>true
 | _,_=>false
def rEq:R2:=fun x y H Q=>zKf x y=true∧Q (.bl (decide (x=y))) H
def rNe:R2:=fun x y H Q=>zKf x y=true∧Q (.bl (!decide (x=y))) H
theorem zMl{i j:Int}:decide (V.int i=V.int j)=(i==j):=by
 rw[tP];simp
theorem zVg{i j:Bool}:decide (V.bl i=V.bl j)=(i==j):=by
 rw[tP];simp
theorem zMj{i j:Str}:decide (V.str i=V.str j)=(i==j):=by
 rw[tP];simp
theorem zLw{i j:Array UInt8}:decide (V.byt i=V.byt j)=(i.toList==j.toList):=by
 rw[tP];cases i;cases j;simp
theorem yN{pins:List (Addr×Obj)}{σ:St}{H:Hp}{s:Shared}{Q:VK}{k k':Bool}(I:Inv X pins σ H s)(q:Q (.bl k) H)(e:k=k'):EP X pins σ Q (.bool k') s:=by
 subst e;exact⟨.bl k,H,I,rfl,q⟩
theorem zS:OpR X (compareOp .Eq) rEq:=by
 intro pins s σ H x y v u Q I rx ry h;obtain⟨hs,q⟩:=h
 cases x with
 | non=>
  cases rx
  cases y with
  | non=>cases ry;exact PySem.EqNone.eq_none_none (yN I q (by simp))
  | bl j=>cases ry;exact PySem.EqNone.eq_none_bool (yN I q (by simp))
  | int j=>obtain⟨t',rfl⟩:=ry;exact PySem.EqNone.eq_none_int (yN I q (by simp))
  | str j=>obtain⟨t',rfl⟩:=ry;exact PySem.EqNone.eq_none_str (yN I q (by simp))
  | _=>exact absurd (show false=true from hs) mR
 | bl i=>
  cases rx
  cases y with
  | non=>cases ry;exact PySem.EqNone.eq_bool_none (yN I q (by simp))
  | bl j=>cases ry;exact eq_bool (yN I q zVg)
  | str j=>obtain⟨t',rfl⟩:=ry;exact PySem.EqMixed.eq_bool_str (yN I q (by simp))
  | _=>exact absurd (show false=true from hs) mR
 | int i=>
  obtain⟨t,rfl⟩:=rx
  cases y with
  | non=>cases ry;exact PySem.EqNone.eq_int_none (yN I q (by simp))
  | int j=>obtain⟨t',rfl⟩:=ry;exact eq_int (yN I q zMl)
  | str j=>obtain⟨t',rfl⟩:=ry;exact PySem.EqMixed.eq_int_str (yN I q (by simp))
  | _=>exact absurd (show false=true from hs) mR
 | str i=>
  obtain⟨t,rfl⟩:=rx
  cases y with
  | non=>cases ry;exact PySem.EqNone.eq_str_none (yN I q (by simp))
  | bl j=>cases ry;exact PySem.EqMixed.eq_str_bool (yN I q (by simp))
  | int j=>obtain⟨t',rfl⟩:=ry;exact PySem.EqMixed.eq_str_int (yN I q (by simp))
  | str j=>obtain⟨t',rfl⟩:=ry;exact eq_str (yN I q zMj)
  | _=>exact absurd (show false=true from hs) mR
 | byt i=>
  obtain⟨t,rfl⟩:=rx
  cases y with
  | byt j=>obtain⟨t',rfl⟩:=ry;exact W.eq_bytes (yN I q zLw)
  | _=>exact absurd (show false=true from hs) mR
 | _=>cases y<;>exact absurd (show false=true from hs) mR
theorem vE:OpR X (compareOp .NotEq) rNe:=by
 intro pins s σ H x y v u Q I rx ry h;obtain⟨hs,q⟩:=h
 cases x with
 | non=>
  cases rx
  cases y with
  | non=>cases ry;exact PySem.EqNone.ne_none_none (yN I q (by simp))
  | bl j=>cases ry;exact PySem.EqNone.ne_none_bool (yN I q (by simp))
  | int j=>obtain⟨t',rfl⟩:=ry;exact PySem.EqNone.ne_none_int (yN I q (by simp))
  | str j=>obtain⟨t',rfl⟩:=ry;exact PySem.EqNone.ne_none_str (yN I q (by simp))
  | _=>exact absurd (show false=true from hs) mR
 | bl i=>
  cases rx
  cases y with
  | non=>cases ry;exact PySem.EqNone.ne_bool_none (yN I q (by simp))
  | bl j=>cases ry;exact ne_bool (yN I q (congrArg not zVg))
  | str j=>obtain⟨t',rfl⟩:=ry;exact PySem.EqMixed.ne_bool_str (yN I q (by simp))
  | _=>exact absurd (show false=true from hs) mR
 | int i=>
  obtain⟨t,rfl⟩:=rx
  cases y with
  | non=>cases ry;exact PySem.EqNone.ne_int_none (yN I q (by simp))
  | int j=>obtain⟨t',rfl⟩:=ry;exact ne_int (yN I q (congrArg not zMl))
  | str j=>obtain⟨t',rfl⟩:=ry;exact PySem.EqMixed.ne_int_str (yN I q (by simp))
  | _=>exact absurd (show false=true from hs) mR
 | str i=>
  obtain⟨t,rfl⟩:=rx
  cases y with
  | non=>cases ry;exact PySem.EqNone.ne_str_none (yN I q (by simp))
  | bl j=>cases ry;exact PySem.EqMixed.ne_str_bool (yN I q (by simp))
  | int j=>obtain⟨t',rfl⟩:=ry;exact PySem.EqMixed.ne_str_int (yN I q (by simp))
  | str j=>obtain⟨t',rfl⟩:=ry;exact ne_str (yN I q (congrArg not zMj))
  | _=>exact absurd (show false=true from hs) mR
 | byt i=>
  obtain⟨t,rfl⟩:=rx
  cases y with
  | byt j=>obtain⟨t',rfl⟩:=ry;exact W.ne_bytes (yN I q (congrArg not zLw))
  | _=>exact absurd (show false=true from hs) mR
 | _=>cases y<;>exact absurd (show false=true from hs) mR
theorem jP:OpR X (compareOp .Lt) (rI0 fun i j=>.bl (decide (i<j))):=zWv fun _ _ _ _ _ _ _ q=>lt_int q
theorem zAn:OpR X (compareOp .LtE) (rI0 fun i j=>.bl (decide (i≤j))):=zWv fun _ _ _ _ _ _ _ q=>le_int q
theorem qH:OpR X (compareOp .Gt) (rI0 fun i j=>.bl (decide (j<i))):=zWv fun _ _ _ _ _ _ _ q=>gt_int q
theorem zUk:OpR X (compareOp .GtE) (rI0 fun i j=>.bl (decide (j≤i))):=zWv fun _ _ _ _ _ _ _ q=>ge_int q
theorem zNy:OpR X (compareOp .In) (fun x y H Q=>∃i j,x= .str i∧y= .str j∧Q (.bl (!(Builtin.Str.occurrences j i 0 j.length 1).isEmpty)) H):=by
 intro pins s σ H x y v u Q I rx ry h;obtain⟨i,j,rfl,rfl,q⟩:=h;obtain⟨t,rfl⟩:=rx;obtain⟨t',rfl⟩:=ry;exact in_str (yN I q rfl)
theorem zJ(b:Expr){op:CmpOp}(h:op≠ .In:=by decide)(h2:op≠ .NotIn:=by decide):behindInMarks op b=false:=by
 have e1:(op==CmpOp.In)=false:=by cases op<;>first | rfl | exact absurd rfl h
 have e2:(op==CmpOp.NotIn)=false:=by cases op<;>first | rfl | exact absurd rfl h2
 cases b<;>simp[behindInMarks,e1,e2]
theorem yA{op:CmpOp}{r:R2}(ho:OpR X (compareOp op) r)(ha:PE X a ta)(hb:PE X b tb)(hm:behindInMarks op b=false):PE X (.Compare a [op] [b] pos) (tOp r ta tb):=by
 intro pins s σ H Q I h;exact wpAny_Compare1 (zZg ha hb I h fun v u s2 x y H2 I2 rx ry q=>ho pins s2 σ H2 x y v u Q I2 rx ry q) hm
def zHs(t:TE):TT:=fun σ H Q=>t σ H fun x H'=>∃k,x= .bl k∧Q k H'
theorem zK{op:CmpOp}{r:R2}(ho:OpR X (compareOp op) r)(ha:PE X a ta)(hb:PE X b tb)(hm:behindInMarks op b=false):PT X (.Compare a [op] [b] pos) (zHs (tOp r ta tb)):=by
 intro pins s σ H Q I h;refine wpAny_isTrue_Compare1 (thn (ha pins s σ H _ I h) fun v s1 ⟨x,H1,I1,r1,q1⟩=>thn (hb pins s1 σ H1 _ I1 q1) fun u s2 ⟨y,H2,I2,r2,q2⟩=>
  thn (ho pins s2 σ H2 x y v u _ I2 r1 r2 q2) fun c s3 ⟨z,H3,I3,r3,k,e,q3⟩=>?_) hm
 subst e;cases r3;exact rL ⟨H3,I3,q3⟩
def zCi(r r':R2)(ta tb tc:TE):TE:=fun σ H Q=>ta σ H fun x H1=>tb σ H1 fun y H2=>r x y H2 fun z H3=>∃k,z= .bl k∧
 (if k=true then tc σ H3 fun w' H4=>r' y w' H4 Q else Q (.bl false) H3)
theorem zVn{op op':CmpOp}{r r':R2}(ho:OpR X (compareOp op) r)(ho':OpR X (compareOp op') r')(ha:PE X a ta)(hb:PE X b tb)(hc:PE X c tc)
  (hm:lastMarks [op,op'] [b,c]=false:=by with_unfolding_all rfl):PE X (.Compare a [op,op'] [b,c] pos) (zCi r r' ta tb tc):=by
 intro pins s σ H Q I h;refine Compare_chain (thn (ha pins s σ H _ I h) fun v s1 ⟨x,H1,I1,r1,q1⟩=>chain_link (thn (hb pins s1 σ H1 _ I1 q1) fun u s2 ⟨y,H2,I2,r2,q2⟩=>
  thn (ho pins s2 σ H2 x y v u _ I2 r1 r2 q2) fun d s3 ⟨z,H3,I3,r3,k,e,q3⟩=>?_)) hm
 subst e;cases r3;refine rL ?_
 cases k with
 | false=>exact ite_ff ⟨.bl false,H3,I3,rfl,q3⟩
 | true=>exact ite_tt (chain_last (thn (hc pins s3 σ H3 _ I3 q3) fun w' s4 ⟨z',H4,I4,r4,q4⟩=>ho' pins s4 σ H4 y z' u w' Q I4 r2 r4 q4))
def TruV(K:W.Frag)(x:V)(H:Hp)(k:Bool):Prop:=
 match x with
 | .non=>k=false
 | .bl b=>k=b
 | .int i=>k=(i !=0)
 | .str y=>y.length≤sizeLine∧k=((y.length:Int) !=0)
 | .byt y=>y.size≤sizeLine∧k=((y.size:Int) !=0)
 | .ref p=>(∃xs,SqL K H p xs∧k= !xs.isEmpty)∨(∃xs,SqT K H p xs∧k= !xs.isEmpty)∨∃kvs,H p=some (.dK kvs)∧k= !kvs.isEmpty
 | _=>False
theorem zKy{κ:Type}{kvs:List (κ×V)}{vs:List (κ×Value)}(r:KV kvs vs):(!vs.isEmpty)= !kvs.isEmpty:=by
 cases r<;>rfl
theorem zDe{xs:List V}{its:List Value}(r:Vals xs its):(!its.toArray.isEmpty)= !xs.isEmpty:=by
 cases r<;>simp
theorem gL:(sizeLine:Nat)<2 ^ 63:=by rw[mJ];decide
theorem zZw:TruR X (fun x H Q=>∃k,TruV X.K x H k∧Q k H):=by
 intro pins s σ H x v Q I rx h;obtain⟨k,e,q⟩:=h;have hl:=gL;have hs:sizeLine=16777216:=mJ
 cases x with
 | non=>
  cases rx;have e':k=false:=e;subst e';exact truthy_none ⟨H,I,q⟩
 | bl b=>
  cases rx;have e':k=b:=e;subst e';exact rL ⟨H,I,q⟩
 | int i=>
  obtain⟨t,rfl⟩:=rx;have e':k=(i !=0):=e;subst e';exact PySem.P.truthy_int ⟨H,I,q⟩
 | str y=>
  obtain⟨t,rfl⟩:=rx;obtain⟨hy,e'⟩:y.length≤sizeLine∧k=((y.length:Int) !=0):=e;subst e';exact PySem.P.truthy_str (by lia) ⟨H,I.tok _,q⟩
 | byt y=>
  obtain⟨t,rfl⟩:=rx;obtain⟨hy,e'⟩:y.size≤sizeLine∧k=((y.size:Int) !=0):=e;subst e';exact W.truthy_bytes (by lia) ⟨H,I.tok _,q⟩
 | ref p=>
  cases rx;have e':(∃xs,SqL X.K H p xs∧k= !xs.isEmpty)∨(∃xs,SqT X.K H p xs∧k= !xs.isEmpty)∨∃kvs,H p=some (.dK kvs)∧k= !kvs.isEmpty:=e;rcases e' with⟨xs,hx,e'⟩|⟨xs,hx,e'⟩|⟨kvs,hx,e'⟩
  ·subst e'
   obtain⟨its,r,pl,hz⟩:=I.list hx;have hlen:=r.length;exact wpAny_truthy_list pl.isList (by simp only[nF];lia) ⟨H,I.tok _,by rw[zDe r];exact q⟩
  ·subst e'
   obtain⟨its,r,pl,hz⟩:=I.tuple hx;have hlen:=r.length;exact truthy_tuple pl (by simp only[nF];lia) ⟨H,I.tok _,by rw[zDe r];exact q⟩
  ·subst e'
   obtain⟨hz,hS,vs,r,m⟩:kvs.length≤sizeLine∧(p==sysModules)=false∧∃vs,KV kvs vs∧s.heap.DictOf (yQ X.prog X.w) p vs:=I.hok p _ hx;have hlen:kvs.length=vs.length:=Paired.length r;exact wpAny_truthy_dict hS m (by lia) ⟨H,I.tok _,by rw[zKy r];exact q⟩
 | _=>exact(show False from e).elim
theorem zHr(ha:PE X a ta)(he:∀whole,isTrue a X.env whole=(do let v ←whole;standAt a.pos;holding [v] (truthy v))):
  PT X a (fun σ H Q=>ta σ H fun x H'=>∃k,TruV X.K x H' k∧Q k H'):=by
 intro pins s σ H Q I h;exact isTrue_plain (thn (ha pins s σ H _ I h) fun v s1 ⟨x,H1,I1,r1,q1⟩=>zZw pins s1 σ H1 x v Q I1 r1 q1) (he _)
theorem yW:OpR X (binaryOp .Add) (fun x y H Q=>∃i j,x= .str i∧y= .str j∧i.length+j.length≤sizeLine∧Q (.str (i++j)) H):=by
 intro pins s σ H x y v u Q I rx ry h;obtain⟨i,j,rfl,rfl,hz,q⟩:=h;obtain⟨t,rfl⟩:=rx;obtain⟨t',rfl⟩:=ry;exact add_str (fun t' tk=>⟨.str (i++j),H,I.tok _,⟨_,rfl⟩,q⟩) hz
theorem jW{x:V}{us:List Value}(r:Vals [x] us):∃u,us= [u]∧RelV x u:=by
 cases r with
 | cons r1 r2=>cases r2;exact⟨_,rfl,r1⟩
theorem zHb{x y:V}{us:List Value}(r:Vals [x,y] us):∃u w',us= [u,w']∧RelV x u∧RelV y w':=by
 cases r with
 | cons r1 r2=>
  cases r2 with
  | cons r3 r4=>cases r4;exact⟨_,_,rfl,r1,r3⟩
theorem zHe:wK X (.builtin "abs") (fun xs H Q=>∃i,xs= [.int i]∧Q (.int (if i<0 then -i else i)) H):=by
 intro pins s σ H xs us Q I r h;obtain⟨i,rfl,q⟩:=h;obtain⟨u,rfl,t,rfl⟩:=jW r;exact call_abs_int fun u tk=>⟨.int (if i<0 then -i else i),H,I.tok _,⟨_,rfl⟩,q⟩
theorem zOx(hc:X.calm=true):wK X (.builtin "max") (fun xs H Q=>∃i j,xs= [.int i, .int j]∧Q (.int (if j>i then j else i)) H):=by
 intro pins s σ H xs us Q I r h;obtain⟨i,j,rfl,q⟩:=h;obtain⟨u,w',rfl,⟨t,rfl⟩,⟨t',rfl⟩⟩:=zHb r;refine max_two_ints (I.ok.hd.1 hc) fun h' tk k=>⟨_,H,I.kept k, ?_,q⟩
 by_cases hj:j>i
 ·rw[mK hj,mK hj];exact⟨_,rfl⟩
 ·rw[mG hj,mG hj];exact⟨_,rfl⟩
theorem zNo:wK X (.type "int") (fun xs H Q=>(∃i,xs= [.int i]∧Q (.int i) H)∨∃k,xs= [.bl k]∧Q (.int (if k then 1 else 0)) H):=by
 intro pins s σ H xs us Q I r h;rcases h with⟨i,rfl,q⟩|⟨k,rfl,q⟩
 ·obtain⟨u,rfl,t,rfl⟩:=jW r
  exact call_int_int ⟨.int i,H,I,⟨_,rfl⟩,q⟩
 ·obtain⟨u,rfl,r1⟩:=jW r
  cases r1;exact call_int_bool ⟨.int (if k then 1 else 0),H,I.tok _,⟨_,rfl⟩,q⟩
theorem vI:wK X (.type "str") (fun xs H Q=>∃i,xs= [.int i]∧i.natAbs.log2<1920∧Q (.str (toString i)) H):=by
 intro pins s σ H xs us Q I r h;obtain⟨i,rfl,hz,q⟩:=h;obtain⟨u,rfl,t,rfl⟩:=jW r;exact PySem.P.str_of_int hz ⟨.str _,H,I.tok _,⟨_,rfl⟩,q⟩
theorem zTm:wK X (.builtin "ord") (fun xs H Q=>∃x,xs= [.str x]∧x.length=1∧Q (.int (x.cps.getD 0 0:Nat)) H):=by
 intro pins s σ H xs us Q I r h;obtain⟨x,rfl,hz,q⟩:=h;obtain⟨u,rfl,t,rfl⟩:=jW r;exact ord_of_one hz ⟨.int _,H,I.tok _,⟨_,rfl⟩,q⟩
end
structure ObjM(h:Heap)(x dx C:Addr)(mA:Str→Option Value):Prop where
 obj:h.get? x=some (W.instObj C dx)
 ns:h.Ns1 dx mA
 ne:dx≠x
theorem uY{h:Heap}{dx:Addr}{mA:Str→Option Value}(n:h.Ns1 dx mA):∃od,h.get? dx=some od∧∀name,W.lookIn name od=some (mA name):=by
 obtain⟨o,es,ep,ho,hd,hk,_,hm⟩:=n;refine⟨o,ho,fun name=>?_⟩;have e:=hm name;unfold nsFind findBy at e;rw[←Array.find?_toList] at e;unfold W.lookIn;rw[hd];dsimp only;split
 ·rename_i y q
  rw[q] at e;exact congrArg some e
 ·rename_i q
  rw[q] at e;have a:es.toList.any (·.refKey)=false:=by
   rw[List.any_eq_false];intro y hy;obtain⟨z,t,hkey⟩:=hk y (Array.mem_toList_iff.mp hy);simp[DictEntry.refKey,hkey]
  have a':¬es.toList.any (·.refKey)=true:=by rw[a];exact mR
  rw[mG a'];exact congrArg some e
theorem ObjM.look{h:Heap}{x dx C:Addr}{mA:Str→Option Value}(I:ObjM h x dx C mA):∃od,W.InstAt h x (W.instObj C dx) C (some od)∧∀name,W.lookIn name od=some (mA name):=
 let ⟨od,ho,hl⟩:=uY I.ns
 ⟨od,⟨I.obj,rfl,rfl,ho⟩,hl⟩
section
variable{prog:Program}{w:World}{A:Around}{E:Value→Shared→Prop}{s:Shared}{K:W.Frag}{x dx C f:Addr}{mA:Str→Option Value}{name:Str}{v:Value}
theorem zWd{expr:Bool}{Q:Value→Shared→Prop}(X:K.In s.heap)(I:ObjM s.heap x dx C mA)(hg:W.plainGet K C name=true)(hh:W.hasDictIn K C=true)
  (ha:W.findIn K (.ref C) name=some none) (hv:mA name=some v) (hv':W.handedIn v=true) (h:Q v {s with toks:=s.toks+1}):
  wpAny (model prog w) A (getAttr (.ref x) name expr) Q E s:=by
 obtain⟨od,J,hl⟩:=I.look;exact W.get_value X J (W.plainGet_of hg).1 (W.findObj_own hh ha rfl (by rw[hl,hv])) hv' h
theorem zQh{pl:Sem Bool}{Q:Value×List Value→Shared→Prop}(X:K.In s.heap)(I:ObjM s.heap x dx C mA)(hg:W.plainGet K C name=true)
  (hf:W.findIn K (.ref C) name=some (some (.ref f))) (ht:W.isFn K (.ref f)=true) (hv:mA name=none) (h:Q (.ref f,[.ref x]) s):
  wpAny (model prog w) A (getMethod (.ref x) name pl) Q E s:=by
 obtain⟨od,J,hl⟩:=I.look;exact W.method_fn X J (W.plainGet_of hg).1 (W.plainGet_of hg).2 hf (aT.mp ht) (by show(W.lookIn name od).map (·.isSome)=some false;rw[hl,hv];rfl) h
theorem zXk{ns:List Str}{Q:Unit→Shared→Prop}(X:K.In s.heap)(I:ObjM s.heap x dx C mA)
  (hs:W.findIn K (.ref C) "__setattr__" =some (some (.builtin "object.__setattr__"))) (hp:W.plainOver K C=true) (ht:W.takerIn K C name=some none) (hh:W.hasDictIn K C=true)
  (hw:PySem.Within mA ns) (hsz:ns.length≤sizeLine)
  (h:∀h',ObjM h' x dx C (fun y=>if y=name then some v else mA y)→Heap.SameBut dx s.heap h'→Q () {s with heap:=h',toks:=s.toks+2}):
  wpAny (model prog w) A (setAttr (.ref x) name v) Q E s:=by
 obtain⟨od,J,hl⟩:=I.look;refine W.set_plain X J hs (W.osa_open (s:={s with toks:=s.toks+1}) (r:=none) X J hp ht fun b=>?_);obtain⟨cd,hc,hd'⟩:=W.any_some hh;have hx:s.heap.get? x=some ⟨.ref C,some dx, .plain,#[]⟩:=I.obj;refine mD (mO (mD (mD (wpAny_loadPart hx (mD (W.Looks.here (s:={s with toks:=s.toks+1}) (W.looks_clsIn X hc) ?_))))));rw[hd'];refine mO (a:=some dx) (mD (mO (mD ?_)));refine wpAny_nsSet1 (s:={s with toks:=s.toks+1}) I.ns fun h' hn2 hs2=>?_;obtain⟨oD,esD,epD,hoD,hdD,hcD⟩:=hn2.count (PySem.Within.cons name v hw);refine mD (wpAny_lookBehind hoD (by rw[hdD];exact pastItsLine_dict (nR hcD (by rw[mE];lia))) ?_);exact mO (h _ ⟨(hs2.2 _ (Ne.symm I.ne)).trans I.obj,hn2,I.ne⟩ hs2)
theorem zRk{R:Result→Shared→Prop}{vs:List Value}{kw:List (Str×Value)}(X:K.In s.heap)(hm:W.makesIn K C=true)
  (hi:W.findIn K (.ref C) "__init__" =some (some (.ref f))) (hf:W.typeIn K (.ref f)=some (.type "function"))
  (h:codeAny (model prog w) (A.under (.builtin "type.__call__" ⟨.ref C::vs,kw⟩)) (.call (.ref f) ⟨.ref (s.heap.objs.size+1)::vs,kw⟩) (W.InitBack (s.heap.objs.size+1) R)
   {s with heap:=(s.heap.push W.emptyDict).push (W.instObj C s.heap.objs.size)}):
  codeAny (model prog w) A (.call (.ref C) ⟨vs,kw⟩) R s:=by
 obtain⟨hh,g,d,t,os⟩:=s;exact W.make_core (W.makes_of X hm) (W.looks_findIn X hi) (fun self=>W.bind_fn X self hf) (.inl rfl) h
end
def wU(f:Str)(v:V):List (Str×V)→List (Str×V)
 | []=>[(f,v)]
 |(g,x)::r=>if g=f then(g,v)::r else(g,x)::wU f v r
theorem zAj(f g:Str)(v:V):∀fs:List (Str×V),(wU f v fs).lookup g=if g=f then some v else fs.lookup g
 | []=>by
  show List.lookup g [(f,v)]=_
  by_cases h:g=f
  ·have hb:(g==f)=true:=aT.mpr h
   simp only[List.lookup,hb,mK h]
  ·have hb:(g==f)=false:=rV.mpr h
   simp only[List.lookup,hb,mG h]
 |(k,x)::r=>by
  have ih:=zAj f g v r;rw[show wU f v ((k,x)::r)=(if k=f then(k,v)::r else(k,x)::wU f v r) from rfl]
  by_cases hk:k=f
  ·rw[mK hk]
   by_cases h:g=k
   ·have hb:(g==k)=true:=aT.mpr h
    simp only[List.lookup,hb,mK (h.trans hk)]
   ·have hb:(g==k)=false:=rV.mpr h
    simp only[List.lookup,hb,mG (fun e:g=f=>h (e.trans hk.symm))]
  ·rw[mG hk]
   by_cases h:g=k
   ·have hb:(g==k)=true:=aT.mpr h
    simp only[List.lookup,hb,mG (fun e:g=f=>hk (h.symm.trans e))]
   ·have hb:(g==k)=false:=rV.mpr h
    simp only[List.lookup,hb];exact ih
theorem zAe(f:Str)(v:V):∀fs:List (Str×V),f∈(wU f v fs).map (·.1)∧∀g,g∈fs.map (·.1)→g∈(wU f v fs).map (·.1)
 | []=>⟨by simp[wU],fun g h=>by simp at h⟩
 |(k,x)::r=>by
  obtain⟨i1,i2⟩:=zAe f v r;rw[show wU f v ((k,x)::r)=(if k=f then(k,v)::r else(k,x)::wU f v r) from rfl]
  by_cases hk:k=f
  ·rw[mK hk]
   subst hk;exact⟨by simp,fun g h=>by simpa using h⟩
  ·rw[mG hk]
   refine⟨?_,fun g h=>?_⟩
   ·rw[mY]
    exact mQ _ i1
   ·rw[mY] at h⊢
    rcases mF.mp h with e | e
    ·exact mF.mpr (.inl e)
    ·exact mQ _ (i2 g e)
theorem zAl(f:Str)(v:V):∀fs:List (Str×V),(wU f v fs).length≤fs.length+1
 | []=>by simp[wU]
 |(k,x)::r=>by
  have ih:=zAl f v r;rw[show wU f v ((k,x)::r)=(if k=f then(k,v)::r else(k,x)::wU f v r) from rfl]
  by_cases hk:k=f
  ·rw[mK hk,mE,mE];lia
  ·rw[mG hk,mE,mE];lia
theorem RelO.some_of{v:V}{o:Option Value}(r:RelO (some v) o):∃u,o=some u∧RelV v u:=by
 cases o with
 | none=>exact(show False from r).elim
 | some u=>exact⟨u,rfl,r⟩
theorem RelO.none_of{o:Option Value}(r:RelO none o):o=none:=by
 cases o with
 | none=>rfl
 | some u=>exact(show False from r).elim
theorem zOu{v:V}{u:Value}(r:RelV v u):W.handedIn u=true:=by
 cases v with
 | non=>cases (show u=Value.none from r);rfl
 | bl b=>cases (show u=Value.bool b from r);rfl
 | int i=>obtain⟨t,e⟩:=(show∃t,u=Value.int i t from r);cases e;rfl
 | str x=>obtain⟨t,e⟩:=(show∃t,u=Value.str x t from r);cases e;rfl
 | byt b=>obtain⟨t,e⟩:=(show∃t,u=Value.bytes b t from r);cases e;rfl
 | flt b=>obtain⟨t,e⟩:=(show∃t,u=Value.float b t from r);cases e;rfl
 | ref a=>cases (show u=Value.ref a from r);rfl
 | ty n=>cases (show u=Value.type n from r);rfl
section
variable{P:Program}{w:World}{H H':Hp}{h h':Heap}{a C dx:Addr}{fs fs':List (Str×V)}
theorem zBa(hok:HOk P w H h)(e:H a=some (.ins C dx fs)):∃mA,ObjM h a dx C mA∧(∀f,RelO (fs.lookup f) (mA f))∧PySem.Within mA (fs.map (·.1))∧fs.length≤1000∧H dx=some (.own a):=by
 obtain⟨d,z,ne,ob,mA,n,r,q⟩:=(show ObjOk P w H h a (.ins C dx fs) from hok a _ e);exact⟨mA,⟨ob,n,ne⟩,r,q,z,d⟩
end
structure Cls(K:W.Frag)(C:Addr):Prop where
 pg:W.plainGet K C Str.empty=true
 hd:W.hasDictIn K C=true
 po:W.plainOver K C=true
 sa:W.findIn K (.ref C) "__setattr__" =some (some (.builtin "object.__setattr__"))
theorem Cls.get{K:W.Frag}{C:Addr}(c:Cls K C)(f:Str):W.plainGet K C f=true:=c.pg
def NoAttr(K:W.Frag)(C:Addr)(f:Str):Prop:=W.findIn K (.ref C) f=some none
theorem NoAttr.taker{K:W.Frag}{C:Addr}{f:Str}(n:NoAttr K C f):W.takerIn K C f=some none:=by
 unfold W.takerIn;rw[show W.findIn K (.ref C) f=some none from n]
 rfl
structure Con(K:W.Frag)(C:Addr)(f:Str)(v:V)(u:Value):Prop where
 at_:W.findIn K (.ref C) f=some (some u)
 rel:RelV v u
 get:W.specialIn K u "__get__" =some none
 cp:W.copiedNames.contains f=false
structure zIf(K:W.Frag)(C:Addr)(m:Str)(f:Addr):Prop where
 at_:W.findIn K (.ref C) m=some (some (.ref f))
 fn:W.isFn K (.ref f)=true
 kp:W.keepIn K (.ref f)=true
section
variable{X:Cx}{pins:List (Addr×Obj)}{σ:St}{H:Hp}{s:Shared}{a C dx:Addr}{fs:List (Str×V)}{f:Str}{v:V}{A:Around}{E:Value→Shared→Prop}
theorem zCk{b:Bool}{Q:Value→Shared→Prop}(I:Inv X pins σ H s)(e:H a=some (.ins C dx fs))(c:Cls X.K C)(n:NoAttr X.K C f)(l:fs.lookup f=some v)
  (h:∀u s',Inv X pins σ H s'→RelV v u→Q u s'):wpAny (model X.prog X.w) A (getAttr (.ref a) f b) Q E s:=by
 obtain⟨mA,O,r,_,_,_⟩:=zBa I.hok e;obtain⟨u,hu,ru⟩:=RelO.some_of (v:=v) (o:=mA f) (by rw[←l];exact r f);exact zWd I.kIn O (c.get f) c.hd n hu (zOu ru) (h u _ (I.tok _) ru)
theorem zKv{m:Str}{g:Addr}{pl:Sem Bool}{Q:Value×List Value→Shared→Prop}(I:Inv X pins σ H s)(e:H a=some (.ins C dx fs))(c:Cls X.K C)(k:zIf X.K C m g)(l:fs.lookup m=none)
  (h:Q (.ref g,[.ref a]) s):wpAny (model X.prog X.w) A (getMethod (.ref a) m pl) Q E s:=by
 obtain⟨mA,O,r,_,_,_⟩:=zBa I.hok e;have hn:mA m=none:=RelO.none_of (by rw[←l];exact r m);exact zQh I.kIn O (c.get m) k.at_ k.fn hn h
theorem zBu{y:V}{u:Value}{Q:Unit→Shared→Prop}(I:Inv X pins σ H s)(e:H a=some (.ins C dx fs))(c:Cls X.K C)(n:NoAttr X.K C f)(hl:fs.length<1000)(ry:RelV y u)
  (h:∀s',Inv X pins σ (upd H a (.ins C dx (wU f y fs))) s'→Q () s'):wpAny (model X.prog X.w) A (setAttr (.ref a) f u) Q E s:=by
 obtain⟨mA,O,r,wi,_,ho⟩:=zBa I.hok e;have hz:(fs.map (·.1)).length≤sizeLine:=by rw[mZ,mJ];lia
 refine zXk I.kIn O c.sa c.po n.taker c.hd wi hz fun h' O' sb=>h _ ?_;have hd:∃o,h'.get? dx=some o:=let ⟨o,_,_,e',_⟩:=O'.ns;⟨o,e'⟩;refine I.write (x:=a) (e:=dx) (by rw[e];exact nJ) (.inr ho) (fun b q hb z=>(sb.2 b hb).trans z) hd ?_;refine⟨by rw[zL O.ne];exact ho, ?_,O.ne,O'.obj,_,O'.ns,fun g=>?_,fun g hg=>?_⟩
 ·have:=zAl f y fs;lia
 ·show RelO ((wU f y fs).lookup g) (if g=f then some u else mA g)
  rw[zAj]
  by_cases q:g=f
  ·rw[mK q,mK q];exact ry
  ·rw[mG q,mG q];exact r g
 ·by_cases q:g=f
  ·rw[q];exact(zAe f y fs).1
  ·refine(zAe f y fs).2 g (wi g fun z=>hg ?_)
   show(if g=f then some u else mA g)=none;rw[mG q];exact z
theorem Inv.made(I:Inv X pins σ H s):Inv X pins σ (upd (upd H s.heap.objs.size (.own (s.heap.objs.size+1))) (s.heap.objs.size+1) (.ins C s.heap.objs.size []))
  {s with heap:=(s.heap.push W.emptyDict).push (W.instObj C s.heap.objs.size)}:=by
 have e1:(s.heap.push W.emptyDict).get? s.heap.objs.size=some W.emptyDict:=nI s.heap rfl;have e2:((s.heap.push W.emptyDict).push (W.instObj C s.heap.objs.size)).get? (s.heap.objs.size+1)=some (W.instObj C s.heap.objs.size):=by
  have:=nI (s.heap.push W.emptyDict) (o:=W.instObj C s.heap.objs.size) rfl
  rwa [tE] at this
 have e3:(s.heap.push W.emptyDict).Ns s.heap.objs.size (fun _=>none):=⟨W.emptyDict,#[],_,e1,rfl,(fun e he=>absurd he (by simp)),fun _=>rfl⟩;have I1:=I.laid (a:=s.heap.objs.size) (o:=.own (s.heap.objs.size+1)) (h':=s.heap.push W.emptyDict) (t':=s.toks) (fun b u q=>mI _ q) (mL _) ⟨_,e1⟩;refine I1.laid (a:=s.heap.objs.size+1) (o:=.ins C s.heap.objs.size []) (t':=s.toks) (fun b u q=>mI _ q) (Nat.le_of_eq (tE _ _)) ?_;have ne:s.heap.objs.size≠s.heap.objs.size+1:=nQ (sN _);refine⟨by rw[zL ne,zF],rK _,ne,e2,fun _=>none,(Heap.Ns1.of_empty e3).at fun o q=>mI _ q,fun _=>nJ,fun y hy=>absurd rfl hy⟩
theorem zNb{prog:Program}{w:World}{env:Env}{e:Expr}{f:Str}{pos:Pos}{s:Shared}{Q:Value→Shared→Prop}(hb:attributeBase e f env (eval e env)=eval e env)
  (h:wpAny (model prog w) A (eval e env) (fun o s₁=>wpAny (model prog w) A (getAttr o f true) Q E s₁) E s):wpAny (model prog w) A (eval (.Attribute e f pos) env) Q E s:=
 Attribute_any_ h (by rw[arm_eval_Attribute,hb])
end
def yAs(K:W.Frag)(ta:TE)(f:Str):TE:=fun σ H Q=>ta σ H fun x H1=>∃a C dx fs v,x= .ref a∧H1 a=some (.ins C dx fs)∧Cls K C∧NoAttr K C f∧fs.lookup f=some v∧Q v H1
def yAd(K:W.Frag)(ta tv:TE)(f:Str):TS:=fun D σ H=>tv σ H fun y H1=>ta σ H1 fun x H2=>∃a C dx fs,x= .ref a∧H2 a=some (.ins C dx fs)∧Cls K C∧NoAttr K C f∧fs.length<1000∧
 D.nx σ (upd H2 a (.ins C dx (wU f y fs)))
def zZd(X:Cx)(op:Operator)(rd:V→V→Hp→VK→Prop):Prop:=
 ∀(pins:List (Addr×Obj))(s:Shared)(σ:St)(H:Hp)(x y:V)(u v:Value)(Q:VK),Inv X pins σ H s→RelV x u→RelV y v→rd x y H Q→wpAny (model X.prog X.w) X.A (inplaceOp op u v) (EP X pins σ Q) X.xe s
def zFd(K:W.Frag)(ta tv:TE)(rd:V→V→Hp→VK→Prop)(f:Str):TS:=fun D σ H=>ta σ H fun x H1=>∃a C dx fs v,x= .ref a∧H1 a=some (.ins C dx fs)∧Cls K C∧NoAttr K C f∧fs.lookup f=some v∧
 tv σ H1 fun y H2=>rd v y H2 fun z H3=>∃dx' fs',H3 a=some (.ins C dx' fs')∧fs'.length<1000∧D.nx σ (upd H3 a (.ins C dx' (wU f z fs')))
section
variable{X:Cx}{o e value:Expr}{f:Str}{pos pos' tpos:Pos}{ta tv:TE}
theorem jA(he:PE X e ta)(hb:attributeBase e f X.env (eval e X.env)=eval e X.env):PE X (.Attribute e f pos) (yAs X.K ta f):=by
 intro pins s σ H Q I h;refine zNb hb (thn (he pins s σ H _ I h) fun u s1 ⟨x,H1,I1,rx,a,C,dx,fs,v,ex,ea,c,n,l,q⟩=>?_);subst ex;obtain rfl:u=Value.ref a:=rx;exact zCk I1 ea c n l fun u' s2 I2 ru=>⟨v,H1,I2,ru,q⟩
theorem zJu(ha:PE X o ta)(hv:PE X value tv)(hs:swapsWith value (some (.Attribute o f pos')) pos.line X.env=pure false):PS X (.Assign [.Attribute o f pos'] value pos) (yAd X.K ta tv f):=by
 intro pins s σ H D I h;refine bL (thn (hv pins s σ H _ I h) fun u s1 ⟨y,H1,I1,ry,q⟩=>thn (ha pins s1 σ H1 _ I1 q) fun ov s2 ⟨x,H2,I2,rx,a,C,dx,fs,ex,ea,c,n,l,q2⟩=>?_) hs;subst ex;obtain rfl:ov=Value.ref a:=rx;exact zBu I2 ea c n l ry fun s3 I3=>⟨σ,_,I3,q2⟩
theorem kK{op:Operator}{rd:V→V→Hp→VK→Prop}(ha:PE X o ta)(hv:PE X value tv)(hop:zZd X op rd):PS X (.AugAssign (.Attribute o f tpos) op value pos) (zFd X.K ta tv rd f):=by
 intro pins s σ H D I h;refine wpAny_AugAssign_AttributeAny (thn (ha pins s σ H _ I h) fun ov s1 ⟨x,H1,I1,rx,a,C,dx,fs,v,ex,ea,c,n,l,q⟩=>?_);subst ex;obtain rfl:ov=Value.ref a:=rx;refine zCk I1 ea c n l fun u s2 I2 ru=>thn (hv pins s2 σ H1 _ I2 q) fun w3 s3 ⟨y,H2,I3,ry,q3⟩=>thn (hop pins s3 σ H2 v y u w3 _ I3 ru ry q3) fun w4 s4 ⟨z,H3,I4,rz,dx',fs',ea',l',q4⟩=>?_;exact zBu I4 ea' c n l' rz fun s5 I5=>⟨σ,_,I5,q4⟩
def zZy:V→V→Hp→VK→Prop:=fun x y H Q=>∃i j,x= .int i∧y= .int j∧Q (.int (i+j)) H
theorem zDd:zZd X .Add zZy:=by
 rintro pins s σ H x y u v Q I rx ry ⟨i,j,rfl,rfl,q⟩;obtain⟨t,rfl⟩:=(show∃t,u=Value.int i t from rx);obtain⟨t',rfl⟩:=(show∃t',v=Value.int j t' from ry);exact PyProof.Rows.iadd_int ⟨.int (i+j),H,I.tok _,⟨_,rfl⟩,q⟩
end
section
variable{X:Cx}{pins:List (Addr×Obj)}{σ:St}{H:Hp}{s:Shared}{A:Around}{E:Value→Shared→Prop}{Q:Value→Shared→Prop}{c:Value}{b:Bool}
inductive zAd (K:W.Frag) (H:Hp):V→Value→Prop where
 | non:zAd K H .non (.type "NoneType")
 | bl (x:Bool):zAd K H (.bl x) (.type "bool")
 | int (i:Int):zAd K H (.int i) (.type "int")
 | str (x:Str):zAd K H (.str x) (.type "str")
 | flt (x:UInt64):zAd K H (.flt x) (.type "float")
 | lst {a:Addr} {xs:List V} (e:H a=some (.lst xs)):zAd K H (.ref a) (.type "list")
 | frz {a:Addr} {o:Obj} {xs:List V} (e:H a=some (.frz o (.lst xs))):zAd K H (.ref a) (.type "list")
 | tup {a:Addr} {xs:List V} (e:H a=some (.tup xs)):zAd K H (.ref a) (.type "tuple")
 | dK {a:Addr} {kvs:List (Key×V)} (e:H a=some (.dK kvs)):zAd K H (.ref a) (.type "dict")
 | dT {a:Addr} {kvs:List (List Key×V)} (e:H a=some (.dT kvs)):zAd K H (.ref a) (.type "dict")
 | ins {a C dx:Addr} {fs:List (Str×V)} (e:H a=some (.ins C dx fs)) (cl:Cls K C) (ha:W.findIn K (.ref C) "__class__" =some (some (.builtin "object.__class__")))
   (hn:W.specialIn K (.builtin "object.__class__") "__get__" =some (some (.builtin "getset_descriptor.__get__"))) (htk:W.takesIn K (.builtin "object.__class__")=some true)
   (hm:W.mroIn K C (.type "object")=some true):zAd K H (.ref a) (.ref C)
theorem zNq{x:V}{u t:Value}(I:Inv X pins σ H s)(rx:RelV x u)(ty:zAd X.K H x t)(e:W.kitOne X.K t c=some b)(h:∀tk,Q (.bool b) {s with toks:=tk}):
  wpAny (model X.prog X.w) A (call (.builtin "isinstance") [u,c]) Q E s:=by
 cases ty with
 | non=>cases (show u=Value.none from rx);exact sS W.kitx_none I.kIn nJ e (fun z=>nomatch z) h
 | bl y=>cases (show u=Value.bool y from rx);exact sS W.kitx_bool I.kIn nJ e (fun z=>nomatch z) h
 | int i=>obtain⟨t,q⟩:=(show∃t,u=Value.int i t from rx);cases q;exact sS W.kitx_int I.kIn nJ e (fun z=>nomatch z) h
 | str y=>obtain⟨t,q⟩:=(show∃t,u=Value.str y t from rx);cases q;exact sS W.kitx_str I.kIn nJ e (fun z=>nomatch z) h
 | flt y=>obtain⟨t,q⟩:=(show∃t,u=Value.float y t from rx);cases q;exact sS W.kitx_float I.kIn nJ e (fun z=>nomatch z) h
 | @lst a xs ea=>
  cases (show u=Value.ref a from rx);obtain⟨_,_,n,_,h1⟩:=(show ObjOk X.prog X.w H s.heap a (.lst xs) from I.hok a _ ea);exact sS W.kitx_list I.kIn ⟨_,h1,rfl⟩ e (fun z=>nomatch z) h
 | @frz a ob xs ea=>
  cases (show u=Value.ref a from rx);obtain⟨_,_,_,n,_,h1⟩:=(show ObjOk X.prog X.w H s.heap a (.frz ob (.lst xs)) from I.hok a _ ea);exact sS W.kitx_list I.kIn ⟨_,h1,rfl⟩ e (fun z=>nomatch z) h
 | @tup a xs ea=>
  cases (show u=Value.ref a from rx);obtain⟨_,_,_,p⟩:=(show ObjOk X.prog X.w H s.heap a (.tup xs) from I.hok a _ ea);obtain⟨o,h1,h2,_⟩:=p;exact sS W.kitx_tuple I.kIn ⟨o,h1,h2⟩ e (fun z=>nomatch z) h
 | @dK a kvs ea=>
  cases (show u=Value.ref a from rx);obtain⟨_,_,vs,_,p⟩:=(show ObjOk X.prog X.w H s.heap a (.dK kvs) from I.hok a _ ea);obtain⟨o,es,ep,h1,h2,_⟩:=p;exact sS W.kitx_dict I.kIn ⟨o,h1,h2.1⟩ e (fun z=>nomatch z) h
 | @dT a kvs ea=>
  cases (show u=Value.ref a from rx);obtain⟨_,_,xs,_,o,es,ep,h1,h2,_⟩:=(show ObjOk X.prog X.w H s.heap a (.dT kvs) from I.hok a _ ea);exact sS W.kitx_dict I.kIn ⟨o,h1,h2.1⟩ e (fun z=>nomatch z) h
 | @ins a C dx fs ea cl ha hn htk hm=>
  cases (show u=Value.ref a from rx);obtain⟨mA,O,_⟩:=zBa I.hok ea;obtain⟨od,J,_⟩:=O.look;exact sS (W.kitx_own (cl.get _) cl.hd ha hn htk hm) I.kIn J e (fun z=>nomatch z) h
end
structure Room(k:Nat)(A:Around):Prop where
 hd:A.handled=none
 dp:A.depth+3*k+5<recursionLimit
 un:A.units+16*k+200<cLine
theorem Room.mono{j k:Nat}{A:Around}(r:Room k A)(h:j≤k):Room j A:=⟨r.hd,by have:=r.dp;lia,by have:=r.un;lia⟩
theorem Room.deeper{k:Nat}{A:Around}(r:Room (k+1) A)(env:Env):Room k (A.deeper env):=
 ⟨r.hd,by have:=r.dp;show A.depth+1+3*k+5<_;lia,by have:=r.un;show A.units+3+16*k+200<_;lia⟩
theorem zLh{A:Around}{C:Addr}{us:List Value}{kw:List (Str×Value)}:(A.under (.builtin "type.__call__" ⟨.ref C::us,kw⟩)).depth=A.depth+1:=by
 first | rfl | simp[Around.under,Code.weight,Code.isCreation,Code.isGuard,Code.isCaller,Code.frames,Code.isFrame,guardIds]
theorem zLl{A:Around}{C:Addr}{us:List Value}{kw:List (Str×Value)}:(A.under (.builtin "type.__call__" ⟨.ref C::us,kw⟩)).units=A.units+1:=by
 first | rfl | simp[Around.under,Code.cUnits,Code.frames,Code.isFrame]
theorem Room.make{k:Nat}{A:Around}(r:Room (k+1) A)(C:Addr)(us:List Value)(kw:List (Str×Value)):Room k (A.under (.builtin "type.__call__" ⟨.ref C::us,kw⟩)):=
 ⟨r.hd,by have:=r.dp;rw[zLh];lia,by have:=r.un;rw[zLl];lia⟩
theorem Room.depth{k:Nat}{A:Around}(r:Room k A):A.depth<recursionLimit:=by have:=r.dp;lia
theorem Room.units{k:Nat}{A:Around}(r:Room k A):A.units+64<cLine:=by have:=r.un;lia
theorem Room.units0{k:Nat}{A:Around}(r:Room k A):A.units<cLine:=by have:=r.un;lia
def zJf:TA:=fun _ H Q=>Q [] H
def zAq(ta:TE)(tr:TA):TA:=fun σ H Q=>ta σ H fun x H1=>tr σ H1 fun xs H2=>Q (x::xs) H2
section
variable{X:Cx}{e:Expr}{es:List Expr}{te:TE}{t:TA}{pos:Pos}
theorem zE:PA X [] zJf:=fun _ _ _ _ H Q I h=>Calls.spliced_nil ⟨[],H,I, .nil,h⟩
theorem zA(ha:PE X e te)(hr:PA X es t)(hs:starEach (e::es) X.env=(false,eval e X.env)::starEach es X.env:=by rfl):PA X (e::es) (zAq te t):=by
 intro pos pins s σ H Q I h;rw[hs];show wpAny _ _ (spliced ((false,eval e X.env)::backTo pos (starEach es X.env))) _ _ s;refine aN (thn (ha pins s σ H _ I h) fun u s1 ⟨x,H1,I1,r1,q1⟩=>?_);exact thn (hr pos pins s1 σ H1 _ I1 q1) fun us s2 ⟨xs,H2,I2,r2,q2⟩=>⟨x::xs,H2,I2, .cons r1 r2,q2⟩
def zOy(t:TA):TE:=fun σ H Q=>t σ H fun xs H1=>xs.length≤sizeLine∧∀p,H1 p=none→Q (.ref p) (upd H1 p (.tup xs))
def zRq(t:TA):TE:=fun σ H Q=>t σ H fun xs H1=>xs.length≤sizeLine∧∀p,H1 p=none→Q (.ref p) (upd H1 p (.lst xs))
theorem yP{x1}(h:PA X es t):PE X (.Tuple es x1 pos) (zOy t):=by
 intro pins s σ H Q I hq;refine wpAny_Tuple_spliced (thn (h pos pins s σ H _ I hq) fun us s1 ⟨xs,H1,I1,r,z,q⟩=>⟨by rw[←r.length];exact z, ?_⟩);have hf:H1 s1.heap.objs.size=none:=I1.hok.fresh (mL _);refine⟨.ref s1.heap.objs.size,upd H1 s1.heap.objs.size (.tup xs),I1.laid (t':=s1.toks) (fun b u e=>mI _ e) (mL _) ?_,rfl,q _ hf⟩;exact⟨z,us,r,⟨_,nI _ rfl,rfl,_,rfl⟩⟩
theorem yF(h:PA X es t):PE X (.List es pos) (zRq t):=by
 intro pins s σ H Q I hq;refine wpAny_List_spliced (thn (h pos pins s σ H _ I hq) fun us s1 ⟨xs,H1,I1,r,z,q⟩=>⟨by rw[←r.length];exact z, ?_⟩);have hf:H1 s1.heap.objs.size=none:=I1.hok.fresh (mL _);refine⟨.ref s1.heap.objs.size,upd H1 s1.heap.objs.size (.lst xs),I1.laid (t':=s1.toks) (fun b u e=>mI _ e) (mL _) ?_,rfl,q _ hf⟩;exact⟨z,us,0,r,nI _ rfl⟩
end
abbrev Sp:=List V→Hp→VK→XK→Prop
abbrev CXT:=List Env→Hp→Shared→XK→Value→Shared→Prop
structure Env0(P:Program)(w:World)(K:W.Frag)(mg:Str→Option Value)(base:Heap)(A:Around)(outer:List Env)(s:Shared)(H:Hp):Prop where
 frames:A.frames=some outer
 mod:Mod K mg base
 bs:∀b o,base.get? b=some o→s.heap.get? b=some o∧H b=none
 bsz:base.objs.size≤s.heap.objs.size
 funs:s.heap.FunFrames base outer
 frf:∀b∈frs outer,H b=none
 hok:HOk P w H s.heap
 bare:AllBare s.gens
def CE(outer:List Env)(P:Program)(w:World)(H:Hp)(s:Shared)(Q:VK)(u:Value)(s':Shared):Prop:=
 ∃v H',s'.os=s.os∧AllBare s'.gens∧Un (frs outer) [] H H' s.heap s'.heap∧HOk P w H' s'.heap∧RelV v u∧Q v H'
def CR(CX:CXT)(outer:List Env)(P:Program)(w:World)(H:Hp)(s:Shared)(Q:VK)(E:XK)(r:Result)(s':Shared):Prop:=
 match r with
 | .ok (.ret u)=>CE outer P w H s Q u s'
 | .ok _=>False
 | .error e=>CX outer H s E e s'
structure FnOk(P:Program)(w:World)(K:W.Frag)(mg:Str→Option Value)(base:Heap)(CX:CXT)(k:Nat)(f:Addr)(fd:FuncData)(ps:List Str)(sp:Sp):Prop where
 len:∀vs H Q E,sp vs H Q E→vs.length=ps.length
 run:∀(A:Around)(outer:List Env)(s:Shared)(H:Hp)(args:Args)(us:List Value)(vs:List V)(Q:VK)(E:XK),Room k A→Env0 P w K mg base A outer s H→BindsTo s fd args (ps.zip us)→Vals vs us→sp vs H Q E→
  codeAny (model P w) A (.call (.ref f) args) (CR CX outer P w H s Q E) s
theorem FnOk.mono{P:Program}{w:World}{K:W.Frag}{mg:Str→Option Value}{base:Heap}{CX:CXT}{j k:Nat}{f:Addr}{fd:FuncData}{ps:List Str}{sp:Sp}(F:FnOk P w K mg base CX j f fd ps sp)(h:j≤k):
  FnOk P w K mg base CX k f fd ps sp:=⟨F.len,fun A outer s H args us vs Q E hr=>F.run A outer s H args us vs Q E (hr.mono h)⟩
theorem Env0.make{P:Program}{w:World}{K:W.Frag}{mg:Str→Option Value}{base:Heap}{A:Around}{outer:List Env}{s:Shared}{H:Hp}(e:Env0 P w K mg base A outer s H)(C:Addr)(us:List Value)(kw:List (Str×Value)):
  Env0 P w K mg base (A.under (.builtin "type.__call__" ⟨.ref C::us,kw⟩)) outer s H:=⟨by first | exact e.frames |(simpa [Around.under,Code.envs,Code.isFrame,pushEnvs] using e.frames),e.mod,e.bs,e.bsz,e.funs,e.frf,e.hok,e.bare⟩
section
variable{X:Cx}{pins:List (Addr×Obj)}{σ:St}{H:Hp}{s s':Shared}
theorem Inv.env0(I:Inv X pins σ H s):Env0 X.prog X.w X.K X.mg X.base X.A X.stack s H:=
 ⟨I.ok.frames,I.ok.mod,I.bs,nR I.ok.bsz I.sz,I.stack,I.stkFree,I.hok,I.bare⟩
theorem Inv.after{Q:VK}{u:Value}(I:Inv X pins σ H s)(h:CE X.stack X.prog X.w H s Q u s'):EP X pins σ Q u s':=by
 obtain⟨v,H',os,bare,un,hok,r,q⟩:=h;obtain⟨hh,g,d,t,os'⟩:=s';obtain rfl:os'=s.os:=os;exact⟨v,H',I.call (h':=hh) (g':=g) (d':=d) (t':=t) (ch:=[]) un hok bare (fun b z=>absurd z (by simp)),r,q⟩
end
def jQ(sp:Sp)(dvs:List V)(E:XK)(t:TA):TE:=fun σ H Q=>t σ H fun vs H1=>sp (vs++dvs) H1 Q E
def zHt(C:Addr)(m:Str)(sp:Sp)(dvs:List V)(E:XK)(ta:TE)(t:TA):TE:=fun σ H Q=>ta σ H fun x H1=>∃a dx fs,x= .ref a∧H1 a=some (.ins C dx fs)∧fs.lookup m=none∧
 t σ H1 fun vs H2=>sp (x::(vs++dvs)) H2 Q E
def zLq(C:Addr)(sp:Sp)(dvs:List V)(E:XK)(t:TA):TE:=fun σ H Q=>t σ H fun vs H1=>∀x dx,H1 x=none→H1 dx=none→dx≠x→
 sp (.ref x::(vs++dvs)) (upd (upd H1 dx (.own x)) x (.ins C dx [])) (fun v H2=>v= .non∧Q (.ref x) H2) E
def Binds(K:W.Frag)(fd:FuncData)(ps:List Str)(ds:List Value):Prop:=
 ∀(s:Shared)(us:List Value),K.In s.heap→(us++ds).length=ps.length→BindsTo s fd ⟨us,[]⟩ (ps.zip (us++ds))
theorem Binds.all{K:W.Frag}{fd:FuncData}{ps:List Str}(h:∀us:List Value,us.length=ps.length→bindArgs fd ⟨us,[]⟩=pure (ps.zip us)):Binds K fd ps []:=fun s us _ hl=>by
 rw[mN] at hl⊢;exact .of_eq (h us hl)
def jX(CX:CXT)(X:Cx)(E:XK):Prop:=∀(pins:List (Addr×Obj))(σ:St)(H:Hp)(s:Shared)(e:Value)(s':Shared),Inv X pins σ H s→CX X.stack H s E e s'→X.xe e s'
section
variable{X:Cx}{CX:CXT}{k:Nat}{f C:Addr}{fd:FuncData}{ps:List Str}{sp:Sp}{dvs:List V}{ds:List Value}{E:XK}{x m:Str}{p pos apos:Pos}{e o:Expr}{es:List Expr}{ta:TE}{t:TA}
theorem zKa{pins:List (Addr×Obj)}{σ:St}{H:Hp}{s:Shared}{Q:VK}{us:List Value}{vs:List V}(F:FnOk X.prog X.w X.K X.mg X.base CX k f fd ps sp)(hr:Room k X.A)(hb:Binds X.K fd ps ds)(hd:Vals dvs ds)(hx:jX CX X E)
  (I:Inv X pins σ H s) (r:Vals vs us) (h:sp (vs++dvs) H Q E):wpAny (model X.prog X.w) X.A (call (.ref f) us) (EP X pins σ Q) X.xe s:=by
 have r2:Vals (vs++dvs) (us++ds):=r.append hd;have hl:(us++ds).length=ps.length:=by rw[←r2.length];exact F.len _ _ _ _ h
 refine sE (rP (F.run X.A X.stack s H ⟨us,[]⟩ (us++ds) (vs++dvs) Q E hr I.env0 (hb s us I.kIn hl) r2 h) fun r s' hq=>?_)
 cases r with
 | error e=>exact hx pins σ H s e s' I hq
 | ok fl=>
  cases fl with
  | ret u=>exact I.after hq
  | next=>exact False.elim hq
  | brk=>exact False.elim hq
  | cont=>exact False.elim hq
theorem zMw(F:FnOk X.prog X.w X.K X.mg X.base CX k f fd ps sp)(hr:Room k X.A)(hg:Gl X x)(hm:X.mg x=some (.ref f))(hk:W.keepIn X.K (.ref f)=true)(hb:Binds X.K fd ps ds)(hd:Vals dvs ds)(hx:jX CX X E)
  (ha:PA X (e::es) t) (hdb:(x==("__debug__" :Str))=false:=by decide) (he:starEach (e::es) X.env=(false,eval e X.env)::starEach es X.env:=by rfl) (hpl:(backTo pos (starEach es X.env)).any (·.1)=false:=by rfl):
  PE X (.Call (.Name x p) (e::es) [] pos) (jQ sp dvs E t):=by
 intro pins s σ H Q I h;refine pW (wS I hg hm ?_ hdb);refine W.callWith_K (h₀:=X.base) I.ok.mod.kin hk (thn (ha pos pins s σ H _ I h) fun us s1 ⟨vs,H1,I1,r,q⟩=>⟨I1.kIn, ?_⟩) he hpl;exact zKa F hr hb hd hx I1 r q
theorem zSf(F:FnOk X.prog X.w X.K X.mg X.base CX k f fd ps sp)(hr:Room k X.A)(hg:Gl X x)(hm:X.mg x=some (.ref f))(hk:W.keepIn X.K (.ref f)=true)(hb:Binds X.K fd ps ds)(hd:Vals dvs ds)(hx:jX CX X E)
  (hdb:(x==("__debug__" :Str))=false:=by decide):PE X (.Call (.Name x p) [] [] pos) (jQ sp dvs E zJf):=by
 intro pins s σ H Q I h;refine pW (wS I hg hm ?_ hdb);exact W.callWith_K0 I.kIn hk (zKa (us:=[]) F hr hb hd hx I .nil h)
theorem zNe{pl:Sem Bool}(he:PE X o ta)(c:Cls X.K C)(hm:zIf X.K C m f)(F:FnOk X.prog X.w X.K X.mg X.base CX k f fd ps sp)(hr:Room k X.A)(hb:Binds X.K fd ps ds)(hd:Vals dvs ds)(hx:jX CX X E)(ha:PA X (e::es) t)
  (hst:starEach (e::es) X.env=(false,eval e X.env)::starEach es X.env:=by rfl) (hpl:(backTo pos (starEach es X.env)).any (·.1)=false:=by rfl)
  (ht:eval (.Call (.Attribute o m apos) (e::es) [] pos) X.env=(do
   let ov ←eval o X.env
   standAt apos.atName
   let (f,first) ←holding [ov] (getMethod ov m pl)
   callWith pos f first (backTo pos (starEach (e::es) X.env)) (backToKw pos (keywordEach [] X.env))):=by rfl):
  PE X (.Call (.Attribute o m apos) (e::es) [] pos) (zHt C m sp dvs E ta t):=by
 intro pins s σ H Q I h;refine W.methodCall_KW (pl:=pl) (thn (he pins s σ H _ I h) fun u s1 ⟨x,H1,I1,rx,a,dx,fs,ex,ea,l,q⟩=>?_) ht;subst ex;obtain rfl:u=Value.ref a:=rx;refine zKv I1 ea c hm l ?_;refine W.callWith_K (first:=[.ref a]) (h₀:=X.base) I.ok.mod.kin hm.kp (thn (ha pos pins s1 σ H1 _ I1 q) fun us s2 ⟨vs,H2,I2,r,q2⟩=>⟨I2.kIn, ?_⟩) hst hpl;exact zKa (us:=.ref a::us) (vs:=.ref a::vs) F hr hb hd hx I2 (.cons rfl r) q2
structure Mk(K:W.Frag)(C f:Addr):Prop where
 makes:W.makesIn K C=true
 init:W.findIn K (.ref C) "__init__" =some (some (.ref f))
 fn:W.isFn K (.ref f)=true
 kp:W.keepIn K (.ref C)=true
theorem zVf{pins:List (Addr×Obj)}{σ:St}{H:Hp}{s:Shared}{Q:VK}{us:List Value}{vs:List V}(M:Mk X.K C f)(F:FnOk X.prog X.w X.K X.mg X.base CX k f fd ps sp)(hr:Room (k+1) X.A)(hb:Binds X.K fd ps ds)(hd:Vals dvs ds)
  (hx:jX CX X E) (I:Inv X pins σ H s) (r:Vals vs us)
  (h:∀x dx,H x=none→H dx=none→dx≠x→sp (.ref x::(vs++dvs)) (upd (upd H dx (.own x)) x (.ins C dx [])) (fun v H2=>v= .non∧Q (.ref x) H2) E):
  wpAny (model X.prog X.w) X.A (call (.ref C) us) (EP X pins σ Q) X.xe s:=by
 have hq:=h (s.heap.objs.size+1) s.heap.objs.size (I.hok.fresh (tS _)) (I.hok.fresh (mL _)) (nQ (sN _));have I2:=Inv.made (C:=C) I;have r2:Vals (V.ref (s.heap.objs.size+1)::(vs++dvs)) (Value.ref (s.heap.objs.size+1)::(us++ds)):=.cons rfl (r.append hd);have hl:(Value.ref (s.heap.objs.size+1)::us++ds).length=ps.length:=by
  have e:=r2.length;rw[F.len _ _ _ _ hq] at e;exact e.symm
 refine sE (zRk (f:=f) I.kIn M.makes M.init (aT.mp M.fn) (rP (F.run _ X.stack _ _ ⟨Value.ref (s.heap.objs.size+1)::us,[]⟩ (Value.ref (s.heap.objs.size+1)::(us++ds)) _ _ E (hr.make C us [])
  (I2.env0.make C us []) (hb _ (Value.ref (s.heap.objs.size+1)::us) I2.kIn hl) r2 hq) fun r s' hq'=>?_))
 cases r with
 | error e=>exact hx pins σ _ _ e s' I2 hq'
 | ok fl=>
  cases fl with
  | ret u=>
   obtain⟨v,H',I3,rv,ev,q3⟩:=I2.after hq';subst ev;exact⟨rv,⟨V.ref (s.heap.objs.size+1),H',I3,rfl,q3⟩⟩
  | next=>exact False.elim hq'
  | brk=>exact False.elim hq'
  | cont=>exact False.elim hq'
theorem zWp(M:Mk X.K C f)(F:FnOk X.prog X.w X.K X.mg X.base CX k f fd ps sp)(hr:Room (k+1) X.A)(hg:Gl X x)(hm:X.mg x=some (.ref C))(hb:Binds X.K fd ps ds)(hd:Vals dvs ds)(hx:jX CX X E)
  (ha:PA X (e::es) t) (hdb:(x==("__debug__" :Str))=false:=by decide) (he:starEach (e::es) X.env=(false,eval e X.env)::starEach es X.env:=by rfl) (hpl:(backTo pos (starEach es X.env)).any (·.1)=false:=by rfl):
  PE X (.Call (.Name x p) (e::es) [] pos) (zLq C sp dvs E t):=by
 intro pins s σ H Q I h;refine pW (wS I hg hm ?_ hdb);refine W.callWith_K (h₀:=X.base) I.ok.mod.kin M.kp (thn (ha pos pins s σ H _ I h) fun us s1 ⟨vs,H1,I1,r,q⟩=>⟨I1.kIn, ?_⟩) he hpl;exact zVf M F hr hb hd hx I1 r q
end
section
variable{X:Cx}{CX:CXT}{k:Nat}{f C:Addr}{fd:FuncData}{ps ks:List Str}{sp:Sp}{E:XK}{x m:Str}{p pos apos kpos:Pos}{e o:Expr}{es:List Expr}{kws:List Keyword}{te ta:TE}{t tk:TA}{nm:Option Str}
structure KBinds(K:W.Frag)(fd:FuncData)(ps ks:List Str)(g:List Value→List Value→List Value)(gV:List V→List V→List V):Prop where
 to:∀(s:Shared)(us ws:List Value),K.In s.heap→(g us ws).length=ps.length→BindsTo s fd ⟨us,ks.zip ws⟩ (ps.zip (g us ws))
 rel:∀{vs:List V}{us:List Value}{zs:List V}{ws:List Value},Vals vs us→Vals zs ws→Vals (gV vs zs) (g us ws)
variable{g:List Value→List Value→List Value}{gV:List V→List V→List V}
end
structure zV(N P:List Str)(sc:Scope):Prop where
 kind:sc.kind= .function
 co:sc.isCoroutine=false
 gen:sc.isGenerator=false
 nd:N.Nodup
 pre:N.take P.length=P
 par:∀x∈P,sc.names.lookup x=some .local∨sc.names.lookup x=some .cell
 nofree:∀y∈sc.names,y.2≠ .free
theorem zEo{kindOf:Str→Option NameKind}{x:Str}:∀{binds:List (Str×Value)}{m:Str→Option Value},(∀v,(x,v)∉binds)→bindL kindOf binds m x=m x
 | [],_,_=>rfl
 |(n,v)::r,m,h=>by
  unfold bindL;rw[zEo fun w hw=>h w (mQ _ hw)];split
  ·have:x≠n:=by rintro rfl;exact h v mH
   simp[this]
  ·rfl
theorem zDw{kindOf:Str→Option NameKind}{x:Str}:∀{binds:List (Str×Value)}{m:Str→Option Value},(∀v,(x,v)∉binds)→bindC kindOf binds m x=m x
 | [],_,_=>rfl
 |(n,v)::r,m,h=>by
  unfold bindC;rw[zDw fun w hw=>h w (mQ _ hw)];split
  ·rfl
  ·have:x≠n:=by rintro rfl;exact h v mH
   simp[this]
theorem zDp{kindOf:Str→Option NameKind}{x:Str}{v:Value}:∀{P:List Str}{vs:List Value}{i:Nat}{m:Str→Option Value},P.Nodup→P[i]? =some x→vs[i]? =some v→kindOf x=some .local→
  bindL kindOf (P.zip vs) m x=some v
 | [],_,_,_,_,h,_,_=>by simp at h
 | _::_,[],_,_,_,_,h,_=>by simp at h
 | p::P,w::vs,0,m,nd,h1,h2,hk=>by
  simp at h1 h2;subst h1;subst h2;show bindL kindOf ((p,w)::P.zip vs) m p=_;unfold bindL;rw[zEo fun v hv=>(pJ.mp nd).1 (bO hv).1,mK hk];simp
 | p::P,w::vs,i+1,m,nd,h1,h2,hk=>by
  show bindL kindOf ((p,w)::P.zip vs) m x=_;unfold bindL;exact zDp (i:=i) (pJ.mp nd).2 (by simpa using h1) (by simpa using h2) hk
theorem zEv{kindOf:Str→Option NameKind}{x:Str}{v:Value}:∀{P:List Str}{vs:List Value}{i:Nat}{m:Str→Option Value},P.Nodup→P[i]? =some x→vs[i]? =some v→kindOf x≠some .local→
  bindC kindOf (P.zip vs) m x=some v
 | [],_,_,_,_,h,_,_=>by simp at h
 | _::_,[],_,_,_,_,h,_=>by simp at h
 | p::P,w::vs,0,m,nd,h1,h2,hk=>by
  simp at h1 h2;subst h1;subst h2;show bindC kindOf ((p,w)::P.zip vs) m p=_;unfold bindC;rw[zDw fun v hv=>(pJ.mp nd).1 (bO hv).1,mG hk];simp
 | p::P,w::vs,i+1,m,nd,h1,h2,hk=>by
  show bindC kindOf ((p,w)::P.zip vs) m x=_;unfold bindC;exact zEv (i:=i) (pJ.mp nd).2 (by simpa using h1) (by simpa using h2) hk
def qI(N:List Str)(vs:List V):St:=vs.map some++List.replicate (N.length - vs.length) none
def zBk(CX:CXT)(P:Program)(w:World)(K:W.Frag)(mg:Str→Option Value)(base:Heap)(N:List Str)(qual:Str)(scope:Scope)(f:Addr)(cd:Value)(A:Around)(outer:List Env)(s:Shared)(H:Hp)(E:XK):Cx where
 prog:=P
 w:=w
 K:=K
 mg:=mg
 base:=base
 A:=A.deeper (envOfC qual scope s.heap.objs.size f cd)
 N:=N
 s₀:=s
 H₀:=H
 env:=envOfC qual scope s.heap.objs.size f cd
 outer:=outer
 stack:=envOfC qual scope s.heap.objs.size f cd::outer
 ex:=[]
 calm:=true
 cool:=true
 fn:=fun _=>true
 pn:=[]
 xe:=fun e s'=>wpAny (model P w) (A.deeper (envOfC qual scope s.heap.objs.size f cd)) (leaving (envOfC qual scope s.heap.objs.size f cd) e) (fun _ s''=>CX outer H s E e s'') (fun e' s''=>CX outer H s E e' s'') s'
theorem zJm{sc:Scope}{n:Nat}{x:Str}(h:sc.names.lookup x=some .cell):∃c,(cellsFrom n sc.names []).lookup x=some c:=by
 have q:=W.cellsFrom_some sc.names n [] (.inl h);exact Option.isSome_iff_exists.mp q
theorem zEk{CX:CXT}{P:Program}{w:World}{K:W.Frag}{mg:Str→Option Value}{base:Heap}{N ps:List Str}{qual:Str}{scope:Scope}{f:Addr}{cd:Value}{A:Around}{outer:List Env}{s s1:Shared}{H:Hp}{E:XK}{us:List Value}{vs:List V}
  (S:zV N ps scope) (hd:A.handled=none) (e0:Env0 P w K mg base A outer s H) (hl:vs.length=ps.length) (r:Vals vs us)
  (x:InCallC s s.heap.objs.size (bindL (envOfC qual scope s.heap.objs.size f cd).kindOf (ps.zip us) fun _=>none) (cellsFrom (s.heap.objs.size+1) scope.names []) (bindC (envOfC qual scope s.heap.objs.size f cd).kindOf (ps.zip us) fun _=>none) s1):
  Inv (zBk CX P w K mg base N qual scope f cd A outer s H E) [] (qI N vs) H s1:=by
 have hpl:ps.length≤N.length:=by have:=congrArg List.length S.pre;rw[pT] at this;lia
 obtain⟨h1,tk,rfl,hk⟩:=x.done;have noA:∀b:Addr,b∉(zBk CX P w K mg base N qual scope f cd A outer s H E).ex:=fun b z=>absurd (show b∈([]:List Addr) from z) (by simp);refine⟨⟨e0.mod,S.kind,rfl,rfl,mL _,fun y z c h1 h2=>?_,fun y hy=>?_,fun y c _ h=>?_,⟨fun _=>hd,fun _=>HnAt.none hd⟩,Around.frames_deeper e0.frames, .inr ⟨rfl,rfl⟩,fun b z=>absurd z (noA b),e0.bs,e0.bsz,fun b _ _=>noA b,fun b z=>absurd z (noA b),e0.funs,e0.frf⟩,
  rfl,e0.bare,Un.kept hk,⟨_,x.toInCall.ns,fun i y v h1 h2 h3=>?_⟩,fun y c h=>⟨_,x.cell y c h⟩,e0.hok.fresh (mL _),fun y c h=>?_,fun p hp=>absurd (show p∈([]:List (Addr×Obj)) from hp) (by simp),e0.hok.kept hk, ?_⟩
 ·exact name_of_addr x.apart (rN h1) (rN h2)
 ·have hy:scope.names.lookup y=some .cell∨scope.names.lookup y=some .free:=hy
  rcases hy with hy | hy
  ·exact zJm hy
  ·exact absurd rfl (S.nofree _ (rN hy))
 ·exact Nat.le_of_lt (x.above y c (rN h))
 ·have hi:i<vs.length:=by
   unfold qI at h2
   by_cases hi:i<vs.length
   ·exact hi
   ·rw[nO (by simpa using hi)] at h2
    rw[List.getElem?_replicate] at h2;split at h2<;>cases h2
  have ha:vs[i]? =some v:=by
   unfold qI at h2;rw[nM (by simpa using hi),pP] at h2
   cases e:vs[i]? with
   | none=>rw[e] at h2;cases h2
   | some a=>rw[e] at h2;cases h2;rfl
  obtain⟨u,hu,rv⟩:=r.get ha;have hp:ps[i]? =some y:=by
   rw[←S.pre,tH (by lia)];exact h1
  have ndP:ps.Nodup:=by rw[←S.pre];exact S.nd.sublist (List.take_sublist _ _)
  refine⟨u,rv, ?_⟩;rcases S.par y (pB hp) with k | k
  ·exact .inl ⟨k,zDp ndP hp hu k⟩
  ·obtain⟨c,e⟩:=zJm (n:=s.heap.objs.size+1) k
   refine .inr ⟨.inl k,c,e, ?_⟩;have q:=x.cell y c e;rw[zEv ndP hp hu (by show scope.names.lookup y≠_;rw[k];decide)] at q;exact q
 ·exact e0.hok.fresh (Nat.le_of_lt (x.above y c (rN h)))
 ·unfold qI
  show _=N.length;rw[mC,mZ,mU]
  lia
theorem zTt{CX:CXT}{P:Program}{w:World}{K:W.Frag}{mg:Str→Option Value}{base:Heap}{k:Nat}{f:Addr}{name qual:Str}{params:Arguments}{body:List Stmt}{scope:Scope}{dV kV doc pm cdv ct oc:Value}{an od:Option Addr}
  {osl:Array (Option Value)} {N ps:List Str} {sp:Sp} (lk:K.lookup f=some ⟨oc,od, .func (W.fnOf name qual params body scope dV kV doc pm an cdv ct),osl⟩) (hcd:W.codeIn K cdv qual=true) (S:zV N ps scope)
  (len:∀vs H Q E,sp vs H Q E→vs.length=ps.length)
  (hbody:∀(A:Around)(outer:List Env)(s:Shared)(H:Hp)(vs:List V)(Q:VK)(E:XK),Room k (A.deeper (envOfC qual scope s.heap.objs.size f cdv))→sp vs H Q E→
   ∃t,PSs (zBk CX P w K mg base N qual scope f cdv A outer s H E) body t∧t {nx:=fun _ H'=>Q .non H',rt:=Q} (qI N vs) H):
  FnOk P w K mg base CX (k+1) f (W.fnOf name qual params body scope dV kV doc pm an cdv ct) ps sp:=by
 refine⟨len,fun A outer s H args us vs Q E hr e0 hb r hsp=>?_⟩;have hl:=len _ _ _ _ hsp;have KX:K.In s.heap:=e0.mod.kin.keeps fun b o e=>(e0.bs b o e).1;have lim:s.heap.NoLimit:=e0.mod.nolimit.keeps fun b o e=>(e0.bs b o e).1;have hkind:∀y∈ps.zip us,scope.names.lookup y.1=some .local∨(scope.names.lookup y.1=some .cell∧((cellsFrom (s.heap.objs.size+1) scope.names []).lookup y.1).isSome=true):=fun⟨n,v⟩ hy=>by
  rcases S.par n (bO hy).1 with q | q
  ·exact .inl q
  ·exact .inr ⟨q,W.cellsFrom_some _ _ _ (.inl q)⟩
 refine codeAny_call_function hr.depth (KX _ _ lk) rfl S.co S.gen rfl (W.codeRec_of KX hcd) (hb _ _ _ _ ?_);refine wpAny_newFunctionEnv_cells S.kind hkind fun env he s1 x=>?_;subst he;refine⟨lim.keeps x.toInCall.keep,codeAny_func ?_⟩;obtain⟨t,ht,hq⟩:=hbody A outer s H vs Q E (hr.deeper _) hsp;have I:Inv (zBk CX P w K mg base N qual scope f cdv A outer s H E) [] (qI N vs) H s1:=zEk S hr.hd e0 hl r x;refine pV (ht [] s1 (qI N vs) H _ I hq) (fun fl s' hs=>?_) fun e s' hs=>hs;have fin:∀{σ':St}{H':Hp}{v:V}{u:Value},Inv (zBk CX P w K mg base N qual scope f cdv A outer s H E) [] σ' H' s'→RelV v u→Q v H'→CE outer P w H s Q u s':=
  fun {σ' H' v u} J rv q=>⟨v,H',J.os,J.bare,J.base,J.hok,rv,q⟩
 cases fl with
 | ret u=>
  obtain⟨v,σ',H',J,rv,q⟩:=hs;exact fin J rv q
 | next=>
  obtain⟨σ',H',J,q⟩:=hs;exact fin (v:=V.non) (u:=Value.none) J rfl q
 | brk=>
  obtain⟨_,_,_,q⟩:=hs;exact False.elim q
 | cont=>
  obtain⟨_,_,_,q⟩:=hs;exact False.elim q
section
variable{X:Cx}{x:Str}{p pos:Pos}{e:Expr}{es:List Expr}{t:TA}{id T:String}{r:List V→Hp→VK→Prop}
def tCB(r:List V→Hp→VK→Prop)(t:TA):TE:=fun σ H Q=>t σ H fun vs H1=>r vs H1 Q
theorem zP(hc:wK X (.builtin id) r)(hg:Gl X x)(hm:X.mg x=none)(hv:bootBuiltins x=some (.builtin id))(ha:PA X (e::es) t)(hn:x≠ "__name__":=by decide)(hdb:(x==("__debug__" :Str))=false:=by decide)
  (he:starEach (e::es) X.env=(false,eval e X.env)::starEach es X.env:=by rfl) (hpl:(backTo pos (starEach es X.env)).any (·.1)=false:=by rfl):PE X (.Call (.Name x p) (e::es) [] pos) (tCB r t):=by
 intro pins s σ H Q I h;refine pW (zFt I hg hm hv ?_ hn hdb);exact bP (thn (ha pos pins s σ H _ I h) fun us s1 ⟨vs,H1,I1,r1,q1⟩=>hc pins s1 σ H1 vs us Q I1 r1 q1) he hpl
theorem yM(hc:wK X (.type T) r)(hg:Gl X x)(hm:X.mg x=none)(hv:bootBuiltins x=some (.type T))(ha:PA X (e::es) t)(hn:x≠ "__name__":=by decide)(hdb:(x==("__debug__" :Str))=false:=by decide)
  (he:starEach (e::es) X.env=(false,eval e X.env)::starEach es X.env:=by rfl) (hpl:(backTo pos (starEach es X.env)).any (·.1)=false:=by rfl):PE X (.Call (.Name x p) (e::es) [] pos) (tCB r t):=by
 intro pins s σ H Q I h;refine pW (zFt I hg hm hv ?_ hn hdb);exact cG (thn (ha pos pins s σ H _ I h) fun us s1 ⟨vs,H1,I1,r1,q1⟩=>hc pins s1 σ H1 vs us Q I1 r1 q1) he hpl
end
end L2
namespace HT
open PySem PyProof.Rows
section
open PySem.SeqAt
open PySem.AutoSeq1 (wpAny_loadPart')
open PySem.MeetsSeq PySem.MeetsSeq2 PySem.MeetsSeq3
end
section
variable{prog:Program}{w:World}{A:Around}{E:Value→Shared→Prop}{s:Shared}
def sIx(n d:Nat):Option Int→Nat
 | none=>d
 | some v=>if v<0 then(v+(n:Int)).toNat else min v.toNat n
theorem sIx_nat(n d k:Nat):sIx n d (some (k:Int))=min k n:=by
 show(if(k:Int)<0 then((k:Int)+(n:Int)).toNat else min (k:Int).toNat n)=min k n;rw[if_neg (by lia),Int.toNat_natCast]
end
end HT
namespace L2
open PySem PySem.Spec PyProof.Rows
abbrev TO:=St→Hp→(Option Int→Hp→Prop)→Prop
def PO(X:Cx)(e:Option Expr)(t:TO):Prop:=
 ∀(pins:List (Addr×Obj))(s:Shared)(σ:St)(H:Hp)(Q:Option Int→Hp→Prop),Inv X pins σ H s→t σ H Q→
  wpAny (model X.prog X.w) X.A (evalPart e X.env) (fun u s'=>∃o H',Inv X pins σ H' s'∧IsPart u o∧Q o H') X.xe s
def gX:TO:=fun _ H Q=>Q none H
def zHv(t:TE):TO:=fun σ H Q=>t σ H fun x H1=>∃i,x= .int i∧Q (some i) H1
section
variable{X:Cx}{e:Expr}{te:TE}{lo hi:Option Expr}{tl th:TO}{pos p2:Pos}
theorem kJ:PO X none gX:=by
 intro pins s σ H Q I h;rw[evalPart_none];exact mO ⟨none,H,I, .none,h⟩
theorem yU(h:PE X e te):PO X (some e) (zHv te):=by
 intro pins s σ H Q I hw;rw[evalPart_some];refine thn (h pins s σ H _ I hw) fun u s1 ⟨x,H1,I1,r1,q1⟩=>?_;obtain⟨i,rfl,q⟩:=q1;obtain⟨t,rfl⟩:=r1;exact⟨some i,H1,I1, .int i t,q⟩
def SlR(X:Cx)(r:V→Option Int→Option Int→Hp→VK→Prop):Prop:=
 ∀(pins:List (Addr×Obj))(s:Shared)(σ:St)(H:Hp)(x:V)(v vl vu:Value)(lo hi:Option Int)(sl:Addr)(Q:VK),Inv X pins σ H s→RelV x v→s.heap.IsSliceOf sl vl vu .none→IsPart vl lo→IsPart vu hi→r x lo hi H Q→
  ∃T id,typeLookup (.type T) "__getitem__" =pure (some (.builtin id))∧s.TypeIs v T∧wpAny (model X.prog X.w) X.A (getItem v (.ref sl)) (EP X pins σ Q) X.xe s
def tSl(r:V→Option Int→Option Int→Hp→VK→Prop)(te:TE)(tl th:TO):TE:=fun σ H Q=>te σ H fun x H1=>tl σ H1 fun l H2=>th σ H2 fun u H3=>r x l u H3 Q
theorem xI{r:V→Option Int→Option Int→Hp→VK→Prop}(hr:SlR X r)(he:PE X e te)(hl:PO X lo tl)(hu:PO X hi th):PE X (.Subscript e (.Slice lo hi none p2) pos) (tSl r te tl th):=by
 intro pins s σ H Q I h;refine Subscript_ (thn (he pins s σ H _ I h) fun v s1 ⟨x,H1,I1,r1,q1⟩=>?_);refine wpAny_Slice (thn (hl pins s1 σ H1 _ I1 q1) fun vl s2 ⟨l,H2,I2,pl,q2⟩=>thn (hu pins s2 σ H2 _ I2 q2) fun vu s3 ⟨u,H3,I3,pu,q3⟩=>?_);rw[evalPart_none];refine mO ?_;have I4:Inv X pins σ H3 {s3 with heap:=s3.heap.push {cls:=.type "slice",data:=.fields #[vl,vu, .none]}}:=I3.kept (t':=s3.toks) fun b ob q=>mI _ q;obtain⟨T,id,hT,ht,hg⟩:=hr pins {s3 with heap:=s3.heap.push {cls:=.type "slice",data:=.fields #[vl,vu, .none]}} σ H3 x v vl vu l u s3.heap.objs.size Q I4 r1 (Heap.IsSliceOf.new ..) pl pu q3;show wpAny (model X.prog X.w) X.A (subscriptTail e (.Slice lo hi none p2) v (.ref s3.heap.objs.size)) (EP X pins σ Q) X.xe {s3 with heap:=s3.heap.push {cls:=.type "slice",data:=.fields #[vl,vu, .none]}};exact tail_any (ops:=[.ref s3.heap.objs.size,v]) ht hT hg (by with_unfolding_all rfl)
def zDj(xs:List V)(lo hi:Option Int):List V:=(xs.drop (HT.sIx xs.length 0 lo)).take (HT.sIx xs.length xs.length hi - HT.sIx xs.length 0 lo)
theorem zHw(xs:List V)(lo hi:Option Int):(zDj xs lo hi).length≤xs.length:=by
 unfold zDj;rw[pT,nL]
 lia
end
def ixN(n:Nat)(i:Int):Option Nat:=if 0≤i then(if i<n then some i.toNat else none) else if -(n:Int)≤i then some (i+n).toNat else none
def atI{α:Type}(xs:List α)(i:Int):Option α:=(ixN xs.length i).bind fun j=>xs[j]?
theorem zLv{n:Nat}{i:Int}{j:Nat}(h:ixN n i=some j):seqIndex? i n=some j∧j<n∧-(n:Int)≤i∧i<n:=by
 unfold ixN at h
 by_cases h0:0≤i
 ·rw[mK h0] at h
  by_cases h1:i<n
  ·rw[mK h1] at h
   have e:i.toNat=j:=nV h;exact⟨by rw[seqIndex_of h0 h1,e],by lia,by lia,h1⟩
  ·rw[mG h1] at h;cases h
 ·rw[mG h0] at h
  by_cases h1: -(n:Int)≤i
  ·rw[mK h1] at h
   have e:(i+n).toNat=j:=nV h;exact⟨by rw[seqIndex_neg (by lia) h1,e],by lia,h1,by lia⟩
  ·rw[mG h1] at h;cases h
theorem zEy{α:Type}{xs:List α}{i:Int}{v:α}(h:atI xs i=some v):∃j,seqIndex? i xs.length=some j∧xs[j]? =some v∧j<xs.length∧-(xs.length:Int)≤i∧i<xs.length:=by
 unfold atI at h
 cases e:ixN xs.length i with
 | none=>rw[e] at h;cases h
 | some j=>
  rw[e] at h;obtain⟨h1,h2,h3,h4⟩:=zLv e;exact⟨j,h1,h,h2,h3,h4⟩
theorem yE{α:Type}{xs:List α}{j:Nat}{v:α}(h:xs[j]? =some v):atI xs (j:Int)=some v:=by
 have hj:j<xs.length:=(nG.mp h).1;have e:ixN xs.length (j:Int)=some j:=by
  unfold ixN;rw[mK (by lia),mK (by lia)];simp
 unfold atI;rw[e];exact h
theorem xE{α:Type}(xs:List α)(v:α):atI (xs++ [v]) (-1)=some v:=by
 have hl:(xs++ [v]).length=xs.length+1:=by simp
 have e:ixN (xs++ [v]).length (-1)=some xs.length:=by
  unfold ixN;rw[hl,mG (by decide),mK (by lia)]
  congr 1
  lia
 unfold atI;rw[e];show(xs++ [v])[xs.length]? =some v;simp
def zWb(b:Expr):Prop:=∀o i,subscripted b false o i=operate [o,i] (getItem o i)
def IxR(X:Cx)(r:R2):Prop:=
 ∀(value slice:Expr)(pins:List (Addr×Obj))(s:Shared)(σ:St)(H:Hp)(x y:V)(v u:Value)(Q:VK),Inv X pins σ H s→RelV x v→RelV y u→r x y H Q→
  subscripted slice false v u=operate [v,u] (getItem v u)→wpAny (model X.prog X.w) X.A (subscriptTail value slice v u) (EP X pins σ Q) X.xe s
def MtR(X:Cx)(id:String)(r:V→List V→Hp→VK→Prop):Prop:=
 ∀(pins:List (Addr×Obj))(s:Shared)(σ:St)(H:Hp)(x:V)(xs:List V)(v:Value)(us:List Value)(Q:VK),Inv X pins σ H s→RelV x v→Vals xs us→r x xs H Q→
  wpAny (model X.prog X.w) X.A (call (.builtin id) (v::us)) (EP X pins σ Q) X.xe s
section
variable{X:Cx}{a b:Expr}{ta tb:TE}{pos:Pos}
theorem zQ{r:R2}(hr:IxR X r)(ha:PE X a ta)(hb:PE X b tb)(hs:zWb b):PE X (.Subscript a b pos) (tOp r ta tb):=by
 intro pins s σ H Q I h;exact Subscript_ (zZg ha hb I h fun v u s2 x y H2 I2 rx ry q=>hr a b pins s2 σ H2 x y v u Q I2 rx ry q (hs _ _))
def zGb(K:W.Frag):R2:=fun x y H Q=>∃p xs i v,x= .ref p∧y= .int i∧SqL K H p xs∧atI xs i=some v∧Q v H
def zNu(K:W.Frag):R2:=fun x y H Q=>∃p xs i v,x= .ref p∧y= .int i∧SqT K H p xs∧atI xs i=some v∧Q v H
def rIxS:R2:=fun x y H Q=>∃z i c,x= .str z∧y= .int i∧z.length≤sizeLine∧atI z.cps.toList i=some c∧Q (.str ⟨#[c]⟩) H
theorem zX:IxR X (zGb X.K):=by
 intro value slice pins s σ H x y v u Q I rx ry h hs;obtain⟨p,xs,i,z,rfl,rfl,hq,he,q⟩:=h;cases rx;obtain⟨t,rfl⟩:=ry;obtain⟨its,r,pl,hz⟩:=I.list hq;obtain⟨j,h1,h2,h3,h4,h5⟩:=zEy he;obtain⟨w,ew,rw'⟩:=r.get h2;have hl:=r.length;have hn:=gL;have fin:EP X pins σ Q w s:=⟨z,H,I,rw',q⟩
 by_cases h0:0≤i
 ·have hj:i.toNat=j:=by
   rw[seqIndex_of h0 h5] at h1;exact nV h1
  exact item_listR pl.isList h0 (by lia) (by rw[hj];simpa using ew) fin hs
 ·have hj:(i+(its.toArray.size:Int)).toNat=j:=by
   rw[seqIndex_neg (by lia) h4] at h1;rw[nF,←hl];exact nV h1
  exact subscriptTail_builtinR (x:=w) pl.isList.typeIs slot_list_getitem.lookup
   (wpAny_getItem_list_neg (Q:=fun r s'=>r=w∧EP X pins σ Q r s') pl.isList (by lia) (by rw[nF]<;>lia) (by lia) (by rw[hj];simpa using ew) ⟨rfl,fin⟩) hs
theorem yB:IxR X (zNu X.K):=by
 intro value slice pins s σ H x y v u Q I rx ry h hs;obtain⟨p,xs,i,z,rfl,rfl,hq,he,q⟩:=h;cases rx;obtain⟨t,rfl⟩:=ry;obtain⟨its,r,pl,hz⟩:=I.tuple hq;obtain⟨j,h1,h2,h3,h4,h5⟩:=zEy he;obtain⟨w,ew,rw'⟩:=r.get h2;have hl:=r.length;have hn:=gL;have fin:EP X pins σ Q w s:=⟨z,H,I,rw',q⟩;exact subscriptTail_builtinR (x:=w) pl.typeIs slot_tuple_getitem.lookup
  (getItem_tuple (j:=j) (Q:=fun r s'=>r=w∧EP X pins σ Q r s') pl (by lia) (by lia) (by rw[nF,←hl];exact h1) (by simpa using ew) ⟨rfl,fin⟩) hs
theorem xK:IxR X rIxS:=by
 intro value slice pins s σ H x y v u Q I rx ry h hs;obtain⟨z,i,c,rfl,rfl,hz,he,q⟩:=h;obtain⟨t,rfl⟩:=rx;obtain⟨t',rfl⟩:=ry;obtain⟨j,h1,h2,h3,h4,h5⟩:=zEy he;have hl:z.cps.toList.length=z.length:=by simp[Str.length]
 rw[hl] at h1 h4 h5;have hn:=gL;exact tail_any (sZ s z t) slot_str_getitem.lookup (getItem_str (c:=c) (by
  have e1:decide (i< -(2 ^ 63:Int))=false:=mM (by lia);have e2:decide (i≥2 ^ 63)=false:=mM (by lia);rw[e1,e2,bE]) (by rw[h1];simpa using h2) ⟨.str ⟨#[c]⟩,H,I.tok _,⟨_,rfl⟩,q⟩) hs
theorem zLa(its:List Value)(n j:Nat)(u:Value):Obj.mapSeq (·.setIfInBounds j u) {cls:=.type "list",data:=.seq its.toArray n}={cls:=.type "list",data:=.seq (its.set j u).toArray n}:=by
 simp[Obj.mapSeq]
theorem Inv.lst{pins:List (Addr×Obj)}{σ:St}{H:Hp}{s:Shared}{p:Addr}{xs:List V}(I:Inv X pins σ H s)(h:H p=some (.lst xs)):
  ∃(its:List Value)(n:Nat),Vals xs its∧s.heap.get? p=some {cls:=.type "list",data:=.seq its.toArray n}∧xs.length≤sizeLine:=by
 obtain⟨z,its,n,r,e⟩:=I.hok p _ h;exact⟨its,n,r,e,z⟩
theorem Inv.lstUpd{pins:List (Addr×Obj)}{σ:St}{H:Hp}{s:Shared}{p:Addr}{xs ys:List V}{its its':List Value}{n n':Nat}{f:Obj→Obj}(I:Inv X pins σ H s)(h:H p=some (.lst xs))
  (ho:s.heap.get? p=some {cls:=.type "list",data:=.seq its.toArray n}) (hf:f {cls:=.type "list",data:=.seq its.toArray n}={cls:=.type "list",data:=.seq its'.toArray n'}) (r:Vals ys its') (hz:ys.length≤sizeLine) (t:Nat):
  Inv X pins σ (upd H p (.lst ys)) {s with heap:=s.heap.update p f,toks:=t}:=by
 have e:(s.heap.update p f).get? p=some {cls:=.type "list",data:=.seq its'.toArray n'}:=by
  rw[tU f ho (by rw[hf]<;>rfl),hf]
 refine I.write (x:=p) (e:=p) (by rw[h];trivial) (.inl rfl) (fun b u hb q=>(nD _ _ (Ne.symm hb)).trans q) ⟨_,e⟩ ?_;exact⟨hz,its',n',r,e⟩
def rSetL:V→V→V→Hp→(Hp→Prop)→Prop:=fun o i v H Q=>∃p xs k j,o= .ref p∧i= .int k∧H p=some (.lst xs)∧ixN xs.length k=some j∧Q (upd H p (.lst (xs.set j v)))
theorem zQu:PSet X rSetL:=by
 intro pins s σ H o i v ov iv u Q I ro ri rv h;obtain⟨p,xs,k,j,rfl,rfl,hp,hj,q⟩:=h;cases ro;obtain⟨t,rfl⟩:=ri;obtain⟨its,n,r,ho,hz⟩:=I.lst hp;obtain⟨h1,h2,h3,h4⟩:=zLv hj;have hl:=r.length;have hn:=gL;have I':Inv X pins σ (upd H p (.lst (xs.set j v))) {s with heap:=s.heap.update p (Obj.mapSeq (·.setIfInBounds j u))}:=
  I.lstUpd hp ho (zLa its n j u) (r.set rv j) (by rw[List.length_set];exact hz) s.toks
 by_cases h0:0≤k
 ·have hk:k.toNat=j:=by
   rw[seqIndex_of h0 h4] at h1;exact nV h1
  exact W.ki_setAt ho h0 (by lia) (by rw[nF,←hl];exact h4) (by rw[hk];exact⟨_,I',q⟩)
 ·have hk:(k+(its.toArray.size:Int)).toNat=j:=by
   rw[seqIndex_neg (by lia) h3] at h1;rw[nF,←hl];exact nV h1
  exact W.ki_setBack ho (by lia) (by rw[nF,←hl];exact h3) (by lia) (by rw[hk];exact⟨_,I',q⟩)
theorem zGj(lo hi:Option Int)(n:Nat):(sliceBounds lo hi none n).1=((HT.sIx n 0 lo:Nat):Int)∧(sliceBounds lo hi none n).2.1=((HT.sIx n n hi:Nat):Int)∧(sliceBounds lo hi none n).2.2=1:=by
 refine⟨?_, ?_,rfl⟩
 ·cases lo with
  | none=>simp[sliceBounds,HT.sIx]
  | some i=>
   simp only[sliceBounds,HT.sIx,Option.getD_none,show(1:Int)>0 by decide,tL]
   by_cases h:i<0
   ·simp only[h,tL]<;>lia
   ·simp only[h,sW]<;>lia
 ·cases hi with
  | none=>simp[sliceBounds,HT.sIx]
  | some i=>
   simp only[sliceBounds,HT.sIx,Option.getD_none,show(1:Int)>0 by decide,tL]
   by_cases h:i<0
   ·simp only[h,tL]<;>lia
   ·simp only[h,sW]<;>lia
theorem zDl(its:List Value)(lo hi:Option Int):slicePick its.toArray lo hi none=((its.drop (HT.sIx its.length 0 lo)).take (HT.sIx its.length its.length hi - HT.sIx its.length 0 lo)).toArray:=by
 obtain⟨h1,h2,h3⟩:=zGj lo hi its.toArray.size;unfold slicePick;rw[h1,h2,h3];simp only[sliceRange_one,pick_run,nF]<;>rfl
def rSlL(K:W.Frag):V→Option Int→Option Int→Hp→VK→Prop:=fun x lo hi H Q=>∃a xs,x= .ref a∧SqL K H a xs∧∀p,H p=none→Q (.ref p) (upd H p (.lst (zDj xs lo hi)))
theorem zGq:SlR X (rSlL X.K):=by
 intro pins s σ H x v vl vu lo hi sl Q I rx hs pl pu h;obtain⟨a,xs,rfl,hx,q⟩:=h;cases rx;obtain⟨its,r,ht,hz⟩:=I.list hx;have hlen:=r.length;refine⟨"list",_,slot_list_getitem.lookup,ht.isList.typeIs, ?_⟩;refine wpAny_getItem_list_slice ht.isList hs pl pu .none (by simp) ?_ (by rw[nF]<;>lia);rw[zDl,←hlen];refine⟨.ref s.heap.objs.size,_,I.laid (t':=s.toks) (o:=.lst (zDj xs lo hi)) (fun b ob q=>mI _ q) (mL _) ?_,rfl,q _ (I.hok.fresh (mL _))⟩;exact⟨nR (zHw xs lo hi) hz,_,0,(r.drop (HT.sIx xs.length 0 lo)).take (HT.sIx xs.length xs.length hi - HT.sIx xs.length 0 lo),nI _ rfl⟩
def wV:V→Bool
 | .non=>true
 | .bl _=>true
 | .int _=>true
 | .str _=>true
 | _=>false
def eqV:V→V→Bool
 | .non, .non=>true
 | .bl a, .bl b=>a==b
 | .bl a, .int b=>(if a then 1 else 0)==b
 | .int a, .bl b=>a==(if b then 1 else 0)
 | .int a, .int b=>a==b
 | .str a, .str b=>a==b
 | _,_=>false
theorem zVj{A:Around}{s:Shared}{y x:V}{u v:Value}(ry:RelV y u)(rx:RelV x v)(fy:wV y=true)(fx:wV x=true):SeqAt.EqAt A s u v (eqV y x):=by
 cases y with
 | non=>
  cases ry
  cases x with
  | non=>cases rx;exact SeqAt.EqAt.same _
  | bl b=>cases rx;exact SeqAt.EqAt.none_bool b
  | int b=>obtain⟨t,rfl⟩:=rx;exact SeqAt.EqAt.none_int b t
  | str b=>obtain⟨t,rfl⟩:=rx;exact SeqAt.EqAt.none_str b t
  | _=>exact absurd (show false=true from fx) mR
 | bl a=>
  cases ry
  cases x with
  | non=>cases rx;exact SeqAt.EqAt.bool_none a
  | bl b=>cases rx;exact SeqAt.EqAt.bool_bool a b
  | int b=>obtain⟨t,rfl⟩:=rx;exact SeqAt.EqAt.bool_int a b t
  | str b=>obtain⟨t,rfl⟩:=rx;exact SeqAt.EqAt.bool_str a b t
  | _=>exact absurd (show false=true from fx) mR
 | int a=>
  obtain⟨t',rfl⟩:=ry
  cases x with
  | non=>cases rx;exact SeqAt.EqAt.int_none a t'
  | bl b=>cases rx;exact SeqAt.EqAt.int_bool a t' b
  | int b=>obtain⟨t,rfl⟩:=rx;exact SeqAt.EqAt.int_int a t' b t
  | str b=>obtain⟨t,rfl⟩:=rx;exact SeqAt.EqAt.int_str a t' b t
  | _=>exact absurd (show false=true from fx) mR
 | str a=>
  obtain⟨t',rfl⟩:=ry
  cases x with
  | non=>cases rx;exact SeqAt.EqAt.str_none a t'
  | bl b=>cases rx;exact SeqAt.EqAt.str_bool a t' b
  | int b=>obtain⟨t,rfl⟩:=rx;exact SeqAt.EqAt.str_int a t' b t
  | str b=>obtain⟨t,rfl⟩:=rx;exact SeqAt.EqAt.str_str a t' b t
  | _=>exact absurd (show false=true from fx) mR
 | _=>exact absurd (show false=true from fy) mR
def eqU(x:V)(u:Value):Bool:=match u with
 | .none=>eqV .non x
 | .bool b=>eqV (.bl b) x
 | .int i _=>eqV (.int i) x
 | .str z _=>eqV (.str z) x
 | _=>false
theorem zUe{x y:V}{u:Value}(r:RelV y u)(f:wV y=true):eqU x u=eqV y x:=by
 cases y with
 | non=>cases r;rfl
 | bl b=>cases r;rfl
 | int i=>obtain⟨t,rfl⟩:=r;rfl
 | str z=>obtain⟨t,rfl⟩:=r;rfl
 | _=>exact absurd (show false=true from f) mR
theorem zFb{x:V}:∀{xs:List V}{us:List Value},Vals xs us→xs.all wV=true→us.any (eqU x)=xs.any fun y=>eqV y x
 | _,_, .nil,_=>rfl
 | y::xs,u::us, .cons r t,f=>by
  rw[cO,rC] at f;rw[bF,bF,zUe r f.1,zFb t f.2]
theorem zBh{A:Around}{s:Shared}{x:V}{v:Value}(rx:RelV x v)(fx:wV x=true):∀{xs:List V}{us:List Value},Vals xs us→xs.all wV=true→∀u∈us,SeqAt.EqAt A s u v (eqU x u)
 | _,_, .nil,_=>fun u hu=>by cases hu
 | y::xs,u::us, .cons r t,f=>fun u' hu=>by
  rw[cO,rC] at f;rcases mF.mp hu with rfl | hu
  ·rw[zUe r f.1];exact zVj r rx f.1 fx
  ·exact zBh rx fx t f.2 u' hu
def inV(x:V)(xs:List V):Bool:=xs.any fun y=>eqV y x
def rIn(K:W.Frag)(neg:Bool):R2:=fun x y H Q=>∃p xs,y= .ref p∧(SqL K H p xs∨SqT K H p xs)∧wV x=true∧xs.all wV=true∧Q (.bl (if neg then !inV x xs else inV x xs)) H
theorem zEg:OpR X (compareOp .In) (rIn X.K false):=by
 intro pins s σ H x y v u Q I rx ry h;obtain⟨p,xs,rfl,hq,fx,fs,q⟩:=h;cases ry;rcases hq with hq | hq
 ·obtain⟨its,r,pl,hz⟩:=I.list hq
  refine SeqAt.in_listAt (eqU x) pl.isList (fun w hw=>zBh rx fx r fs w (by simpa using hw)) ⟨.bl _,H,I,rfl, ?_⟩;rw[show its.toArray.any (eqU x)=its.any (eqU x) by simp,zFb r fs];exact q
 ·obtain⟨its,r,pl,hz⟩:=I.tuple hq
  refine SeqAt.in_tupleAt (eqU x) pl (fun w hw=>zBh rx fx r fs w (by simpa using hw)) ⟨.bl _,H,I,rfl, ?_⟩;rw[show its.toArray.any (eqU x)=its.any (eqU x) by simp,zFb r fs];exact q
theorem zFo:wK X (.builtin "len") (fun xs H Q=>∃p ys,xs= [.ref p]∧(SqL X.K H p ys∨SqT X.K H p ys)∧Q (.int ys.length) H):=by
 intro pins s σ H xs us Q I r h;obtain⟨p,ys,rfl,hq,q⟩:=h;obtain⟨u,rfl,rx⟩:=jW r;cases rx;have hn:=gL;rcases hq with hq | hq
 ·obtain⟨its,r',pl,hz⟩:=I.list hq
  have hlen:=r'.length;exact Calls.call_len_list pl.isList (by simp only[nF]<;>lia) ⟨.int ys.length,H,I.tok _,⟨s.toks+1,by rw[nF,hlen]⟩,q⟩
 ·obtain⟨its,r',pl,hz⟩:=I.tuple hq
  have hlen:=r'.length;exact len_tuple pl (by simp only[nF]<;>lia) ⟨.int ys.length,H,I.tok _,⟨s.toks+1,by rw[nF,hlen]⟩,q⟩
theorem yG:wK X (.builtin "len") (fun xs H Q=>∃z,xs= [.str z]∧z.length≤sizeLine∧Q (.int z.length) H):=by
 intro pins s σ H xs us Q I r h;obtain⟨z,rfl,hz,q⟩:=h;obtain⟨u,rfl,t,rfl⟩:=jW r;have hn:=gL;exact len_str (by lia) ⟨.int z.length,H,I.tok _,⟨_,rfl⟩,q⟩
def tyV(K:W.Frag)(T:String)(x:V)(H:Hp):Prop:=match x with
 | .str _=>T= "str"
 | .int _=>T= "int"
 | .ref p=>(T= "list"∧∃xs,SqL K H p xs)∨(T= "tuple"∧∃o,K.lookup p=some o∧o.cls= .type "tuple"∧o.dict=none)∨
   (T= "dict"∧((∃kvs,H p=some (.dK kvs))∨∃kvs,H p=some (.dT kvs)))∨(T= "set"∧∃S n,H p=some (.set S n))
 | _=>False
theorem zRt{pins:List (Addr×Obj)}{σ:St}{H:Hp}{s:Shared}{T:String}{x:V}{v:Value}(I:Inv X pins σ H s)(r:RelV x v)(ty:tyV X.K T x H):
  s.TypeIs v T∧∀a,v= .ref a→∃ob,s.heap.get? a=some ob∧ob.dict=none:=by
 cases x with
 | str z=>
  obtain⟨t,rfl⟩:=r;cases (show T= "str" from ty);exact⟨sZ s z t,fun _ e=>nomatch e⟩
 | int i=>
  obtain⟨t,rfl⟩:=r;cases (show T= "int" from ty);exact⟨typeIs_int s i t,fun _ e=>nomatch e⟩
 | ref p=>
  cases r;rcases ty with⟨rfl,xs,hq⟩|⟨rfl,o,hk,hc,hd⟩|⟨rfl,hk⟩|⟨rfl,S,n,hk⟩
  ·obtain⟨its,_,pl,_⟩:=I.list hq
   refine⟨pl.isList.typeIs,fun a e=>?_⟩;cases e;obtain⟨o,n,e,c,hd,_⟩:=pl;exact⟨o,e,hd⟩
  ·refine⟨⟨o,I.kIn p o hk,hc⟩,fun a e=>?_⟩
   cases e;exact⟨o,I.kIn _ o hk,hd⟩
  ·have z:∃o,s.heap.get? p=some o∧o.ExactDict:=by
    rcases hk with⟨kvs,hk⟩|⟨kvs,hk⟩
    ·obtain⟨_,_,_,_,o,_,_,e,ex,_⟩:=I.hok p _ hk
     exact⟨o,e,ex⟩
    ·obtain⟨_,_,_,_,o,_,_,e,ex,_⟩:=I.hok p _ hk
     exact⟨o,e,ex⟩
   obtain⟨o,e,ex⟩:=z;refine⟨⟨o,e,ex.1⟩,fun a e2=>?_⟩;cases e2;exact⟨o,e,ex.2.1⟩
  ·obtain⟨o,_,_,_,e,ex,_⟩:=I.hok p _ hk
   refine⟨⟨o,e,ex.1⟩,fun a e2=>?_⟩;cases e2;exact⟨o,e,ex.2.1⟩
 | _=>exact False.elim ty
def zQg(K:W.Frag)(T:String)(r:V→List V→Hp→VK→Prop)(to:TE):TE:=fun σ H Q=>to σ H fun x H1=>tyV K T x H1∧r x [] H1 Q
def tBM(K:W.Frag)(T:String)(r:V→List V→Hp→VK→Prop)(to:TE)(t:TA):TE:=fun σ H Q=>to σ H fun x H1=>tyV K T x H1∧t σ H1 fun xs H2=>r x xs H2 Q
variable{o e:Expr}{es:List Expr}{to:TE}{t:TA}{name:Str}{apos cpos:Pos}{T id:String}{r:V→List V→Hp→VK→Prop}
theorem zRn(pa:PlainAttrs T)(slot:Slot T name id)(hty:typeOf (.builtin id)=pure (.type "method_descriptor"))(hm:MtR X id r)(ho:PE X o to)
  (hbase:attributeBase o name X.env (eval o X.env)=eval o X.env:=by rfl) (hline:(apos.endLine==cpos.line)=true:=by rfl):PE X (.Call (.Attribute o name apos) [] [] cpos) (zQg X.K T r to):=by
 intro pins s σ H Q I h;refine wpAny_Call_method0_late hbase hline (thn (ho pins s σ H _ I h) fun v s1 ⟨x,H1,I1,r1,ty,q1⟩=>?_);obtain⟨h1,h2⟩:=zRt I1 r1 ty;exact⟨T,id,pa,slot,hty,h1,h2,bA rfl (PySem.evalArgs_none (hm pins s1 σ H1 x [] v [] Q I1 r1 .nil q1))⟩
theorem xQ(pa:PlainAttrs T)(slot:Slot T name id)(hty:typeOf (.builtin id)=pure (.type "method_descriptor"))(hm:MtR X id r)(ho:PE X o to)(ha:PA X (e::es) t)
  (hbase:attributeBase o name X.env (eval o X.env)=eval o X.env:=by rfl)
  (hfew:((backTo cpos (starEach (e::es) X.env)).all (fun x=>!x.1)&& (backToKw cpos (keywordEach [] X.env)).all (fun x=>x.1.isSome)
   && decide ((e::es).length+([]:List Keyword).length+(if([]:List Keyword).isEmpty then 0 else 1)<30))=true:=by rfl)
  (hline:(apos.endLine==cpos.line)=true:=by rfl) (hs:starEach (e::es) X.env=(false,eval e X.env)::starEach es X.env:=by rfl) (hplain:(backTo cpos (starEach es X.env)).any (·.1)=false:=by rfl):
  PE X (.Call (.Attribute o name apos) (e::es) [] cpos) (tBM X.K T r to t):=by
 intro pins s σ H Q I h;refine wpAny_Call_method_late hbase hfew hline rfl (thn (ho pins s σ H _ I h) fun v s1 ⟨x,H1,I1,r1,ty,q1⟩=>?_);obtain⟨h1,h2⟩:=zRt I1 r1 ty;refine⟨T,id,pa,slot,hty,h1,h2, ?_⟩;have hA:=ha cpos pins s1 σ H1 _ I1 q1;rw[hs] at hA⊢;refine bA (by show(false ||(backTo cpos (starEach es X.env)).any (·.1))=false;rw[hplain]<;>rfl) (Calls.evalArgs_plain ?_)
 exact thn hA fun us s2 ⟨vs,H2,I2,r2,q2⟩=>hm pins s2 σ H2 x vs v us Q I2 r1 r2 q2
/- xs.append(e),list.index on a module's tuple .. are MtR facts of 06m -/
end
def MtM(X:Cx)(id:String)(r:V→List V→Hp→VK→Prop):Prop:=
 ∀(pins:List (Addr×Obj))(s:Shared)(σ:St)(H:Hp)(x:V)(xs:List V)(v:Value)(us:List Value)(Q:VK),Inv X pins σ H s→RelV x v→Vals xs us→r x xs H Q→
  wpAny (model X.prog X.w) X.A (call (.builtin id) (v::us)) (EP X pins σ Q) X.xe s
theorem Vals.one:∀{x:V}{us:List Value},Vals [x] us→∃u,us= [u]∧RelV x u
 | _,_, .cons r .nil=>⟨_,rfl,r⟩
theorem Vals.two:∀{x y:V}{us:List Value},Vals [x,y] us→∃u v,us= [u,v]∧RelV x u∧RelV y v
 | _,_,_, .cons r (.cons q .nil)=>⟨_,_,rfl,r,q⟩
theorem Vals.zero:∀{us:List Value},Vals [] us→us= []
 | _, .nil=>rfl
theorem Vals.dropLast{xs:List V}{us:List Value}(h:Vals xs us):Vals xs.dropLast us.dropLast:=by
 induction h with
 | nil=>exact .nil
 | cons r t ih=>
  cases t with
  | nil=>exact .nil
  | cons q t'=>exact .cons r ih
theorem zKl{α:Type}(l:List α):l.eraseIdx (l.length - 1)=l.dropLast:=by
 induction l with
 | nil=>rfl
 | cons a r ih=>
  cases r with
  | nil=>rfl
  | cons b r=>
   have e:(a::b::r).length - 1=((b::r).length - 1)+1:=by
    have h1:(a::b::r).length=r.length+2:=rfl;have h2:(b::r).length=r.length+1:=rfl
    lia
   rw[e,List.eraseIdx_cons_succ,ih]
   all_goals rfl
section
variable{X:Cx}{pins:List (Addr×Obj)}{σ:St}{H:Hp}{s:Shared}{l b:Addr}{xs ys zs:List V}
theorem Inv.lset{its its':List Value}{n:Nat}{f:Array Value→Array Value}{t':Nat}(I:Inv X pins σ H s)(hH:H l=some (.lst xs))
  (e:s.heap.get? l=some {cls:=.type "list",data:=.seq its.toArray n}) (hf:f its.toArray=its'.toArray) (hv:Vals ys its') (hz:ys.length≤sizeLine):
  Inv X pins σ (upd H l (.lst ys)) {s with heap:=s.heap.update l (Obj.mapSeq f),toks:=t'}:=by
 have q:=PySem.IsL.update e f;rw[hf] at q;refine I.write (x:=l) (e:=l) (by rw[hH];exact trivial) (.inl rfl) (fun b' u hb hu=>(nD s.heap (Obj.mapSeq f) (Ne.symm hb)).trans hu) ⟨_,q⟩ ?_;exact⟨hz,its',_,hv,q⟩
theorem Inv.lnew{its:List Value}{t':Nat}(I:Inv X pins σ H s)(hv:Vals ys its)(hz:ys.length≤sizeLine):
  Inv X pins σ (upd H s.heap.objs.size (.lst ys)) {s with heap:=s.heap.push {cls:=.type "list",data:=.seq its.toArray},toks:=t'}:=
 I.laid (fun _ _ q=>mI _ q) (mL _) ⟨hz,its,0,hv,nI _ rfl⟩
theorem Inv.fresh(I:Inv X pins σ H s):H s.heap.objs.size=none:=I.hok.fresh (mL _)
theorem Inv.lstM(I:Inv X pins σ H s)(hH:H l=some (.lst xs)):xs.length≤sizeLine∧∃(its:List Value)(n:Nat),Vals xs its∧xs.length=its.length∧s.heap.get? l=some {cls:=.type "list",data:=.seq its.toArray n}:=by
 obtain⟨z,its,n,r,e⟩:=I.hok l _ hH;exact⟨z,its,n,r,r.length,e⟩
end
section
variable{X:Cx}
def zGw:V→List V→Hp→VK→Prop:=fun x vs H Q=>∃l xs y,x= .ref l∧vs= [y]∧H l=some (.lst xs)∧xs.length<sizeLine∧Q .non (upd H l (.lst (xs++ [y])))
theorem xH:MtM X "list.append" zGw:=by
 intro pins s σ H x vs v us Q I rx rv h;obtain⟨l,xs,y,rfl,rfl,hH,hz,q⟩:=h;cases rx;obtain⟨u,rfl,ru⟩:=rv.one;obtain⟨z,its,n,r,hl,e⟩:=I.lstM hH;refine aU F.slot_list_append ⟨_,e,rfl⟩ F.entry_list_append (F.args_list_append_2 _ _) (PySem.list_append l its.toArray n u (by rw[nF];lia)) ⟨e, ?_⟩;refine⟨.non,_,I.lset (its':=its++ [u]) hH e (by simp) (r.append (.cons ru .nil)) ?_,rfl,q⟩;rw[mC,pO]
 lia
def rPop:V→List V→Hp→VK→Prop:=fun x vs H Q=>∃l xs y,x= .ref l∧vs= []∧H l=some (.lst xs)∧xs[xs.length - 1]? =some y∧Q y (upd H l (.lst xs.dropLast))
theorem zTd:MtM X "list.pop" rPop:=by
 intro pins s σ H x vs v us Q I rx rv h;obtain⟨l,xs,y,rfl,rfl,hH,hy,q⟩:=h;cases rx;have hus:=rv.zero;subst hus;obtain⟨z,its,n,r,hl,e⟩:=I.lstM hH;obtain⟨u,hu,ru⟩:=r.get hy;have hy':its.toArray[its.toArray.size - 1]? =some u:=by
  show its.toArray[its.length - 1]? =some u;rw[←tW,←hl];exact hu
 refine aU F.slot_list_pop ⟨_,e,rfl⟩ F.entry_list_pop (F.args_list_pop_1 _) (MeetsSeq.list_pop_last l its.toArray n u hy' (by rw[nF];lia)) ⟨e, ?_⟩;refine⟨y,_,I.lset (its':=its.dropLast) hH e ?_ r.dropLast ?_,ru,q⟩
 ·show its.toArray.eraseIdxIfInBounds (its.toArray.size - 1)=its.dropLast.toArray
  rw[nF,List.eraseIdxIfInBounds_toArray,zKl]
 ·rw[List.length_dropLast]
  lia
def rCat:R2:=fun x y H Q=>∃l b xs zs,x= .ref l∧y= .ref b∧H l=some (.lst xs)∧H b=some (.lst zs)∧xs.length+zs.length≤sizeLine∧∀p,H p=none→Q (.ref p) (upd H p (.lst (xs++zs)))
theorem zCf:OpR X (binaryOp .Add) rCat:=by
 intro pins s σ H x y v u Q I rx ry h;obtain⟨l,b,xs,zs,rfl,rfl,hH,hB,hz,q⟩:=h;cases rx;cases ry;obtain⟨z,its,n,r,hl,e⟩:=I.lstM hH;obtain⟨z2,its2,n2,r2,hl2,e2⟩:=I.lstM hB;refine PySem.P.add_list e e2 ?_ (by rw[nF,nF];lia);have ea:its.toArray++its2.toArray=(its++its2).toArray:=by simp
 rw[ea];exact⟨.ref _,_,I.lnew (t':=s.toks) (r.append r2) (by rw[mC];lia),rfl,q _ I.fresh⟩
theorem zLz{α:Type}(xs:List α)(k:Nat):(List.replicate k xs).flatten.length=k*xs.length:=by
 induction k with
 | zero=>simp
 | succ k ih=>rw[pU,aY,mC,ih,Nat.succ_mul,Nat.add_comm]
end
section
variable{prog:Program}{w:World}{A:Around}{E:Value→Shared→Prop}{s:Shared}
set_option maxRecDepth 100000 in
end
section
variable{X:Cx}
end
section
variable{κ:Type} [DecidableEq κ]
def xT(kvs:List (κ×V))(k:κ):Option V:=(kvs.find? fun kv=>decide (kv.1=k)).map (·.2)
def vU(kvs:List (κ×V))(k:κ)(v:V):List (κ×V):=
 if(kvs.any fun kv=>decide (kv.1=k))=true then kvs.map (fun kv=>if kv.1=k then(kv.1,v) else kv) else kvs++ [(k,v)]
theorem kG{k:κ}:xT ([]:List (κ×V)) k=none:=rfl
theorem wM{p:κ×V}{r:List (κ×V)}{k:κ}(e:p.1=k):xT (p::r) k=some p.2:=by simp[xT,tQ,e]
theorem yL{p:κ×V}{r:List (κ×V)}{k:κ}(e:¬p.1=k):xT (p::r) k=xT r k:=by simp[xT,tQ,e]
theorem uA(k:κ):∀kvs:List (κ×V),(kvs.any fun kv=>decide (kv.1=k))=(xT kvs k).isSome
 | []=>rfl
 | p::r=>by
  rw[bF]
  by_cases e:p.1=k
  ·simp only[wM e,nB e,aO,Option.isSome_some]
  ·rw[yL e,mM e,tM];exact uA k r
theorem kD(kvs:List (κ×V))(k:κ)(v:V):(vU kvs k v).length≤kvs.length+1:=by
 unfold vU;split
 ·rw[mZ];lia
 ·rw[mC,mE,nA];lia
theorem vD{kvs:List (κ×V)}{k:κ}(v:V)(h:xT kvs k=none):vU kvs k v=kvs++ [(k,v)]:=by
 unfold vU;rw[uA,h];exact mG (by decide)
theorem RelO.isSome_eq{o:Option V}{u:Option Value}(r:RelO o u):o.isSome=u.isSome:=by
 cases o with
 | none=>cases u with
  | none=>rfl
  | some _=>exact(show False from r).elim
 | some _=>cases u with
  | none=>exact(show False from r).elim
  | some _=>rfl
theorem KV.val{kvs:List (κ×V)}{vs:List (κ×Value)}(r:KV kvs vs)(k:κ):RelO (xT kvs k) (valueAt vs k):=by
 unfold KV at r
 induction r with
 | nil=>exact nJ
 | @cons p q ps qs h t ih=>
  obtain⟨h1,h2⟩:=h
  by_cases e:p.1=k
  ·have e':q.1=k:=h1.symm.trans e
   have b:valueAt (q::qs) k=some q.2:=by simp[valueAt,tQ,e']
   rw[wM e,b];exact h2
  ·have e':¬q.1=k:=fun z=>e (h1.trans z)
   have b:valueAt (q::qs) k=valueAt qs k:=by simp[valueAt,tQ,e']
   rw[yL e,b];exact ih
theorem KV.any{kvs:List (κ×V)}{vs:List (κ×Value)}(r:KV kvs vs)(k:κ):(kvs.any fun kv=>decide (kv.1=k))=vs.any fun kv=>decide (kv.1=k):=by
 unfold KV at r
 induction r with
 | nil=>rfl
 | cons h t ih=>rw[bF,bF,ih,h.1]
theorem KV.repl{kvs:List (κ×V)}{vs:List (κ×Value)}(r:KV kvs vs)(k:κ){y:V}{u:Value}(ry:RelV y u):
  KV (kvs.map fun kv=>if kv.1=k then(kv.1,y) else kv) (vs.map fun kv=>if kv.1=k then(kv.1,u) else kv):=by
 unfold KV at r⊢
 induction r with
 | nil=>exact .nil
 | @cons p q ps qs h t ih=>
  rw[mY,mY];refine .cons ?_ ih;obtain⟨h1,h2⟩:=h
  by_cases e:p.1=k
  ·rw[mK e,mK (h1.symm.trans e)];exact⟨h1,ry⟩
  ·rw[mG e,mG (fun z=>e (h1.trans z))];exact⟨h1,h2⟩
theorem KV.put{kvs:List (κ×V)}{vs:List (κ×Value)}(r:KV kvs vs)(k:κ){y:V}{u:Value}(ry:RelV y u):KV (vU kvs k y) (stored vs k u):=by
 unfold vU stored;rw[r.any k]
 by_cases e:(vs.any fun kv=>decide (kv.1=k))=true
 ·rw[mK e,mK e];exact r.repl k ry
 ·rw[mG e,mG e];exact Paired.snoc r ⟨rfl,ry⟩
theorem KV.keys{kvs:List (κ×V)}{vs:List (κ×Value)}(r:KV kvs vs):kvs.map (·.1)=vs.map (·.1):=by
 unfold KV at r
 induction r with
 | nil=>rfl
 | cons h t ih=>rw[mY,mY,ih,h.1]
theorem KV.length{kvs:List (κ×V)}{vs:List (κ×Value)}(r:KV kvs vs):kvs.length=vs.length:=Paired.length r
end
theorem zBl{P:Program}{w:World}{k:Key}{u:Value}(r:RelV (kV k) u):(yQ P w).is k u=true:=by
 cases k with
 | inl i=>obtain⟨t,e⟩:=(show∃t,u=Value.int i t from r);subst e;exact zIb P w i t
 | inr x=>obtain⟨t,e⟩:=(show∃t,u=Value.str x t from r);subst e;exact zHi P w x t
theorem zEb{P:Program}{w:World}:∀{ks:List Key}{us:List Value},Vals (ks.map kV) us→ItemsAre (yQ P w) ks us
 | [],_,r=>by rw[pX] at r;cases r;exact .nil
 | k::ks,_,r=>by
  rw[mY] at r
  cases r with
  | cons h t=>exact .cons (zBl h) (zEb t)
abbrev KT(H:Hp):List (List Key×V)→List (List Key×Addr×Value)→Prop:=Paired fun p q=>p.1=q.1∧H q.2.1=some (.tup (p.1.map kV))∧RelV p.2 q.2.2
theorem KT.val{H:Hp}{kvs:List (List Key×V)}{xs:List (List Key×Addr×Value)}(r:KT H kvs xs)(k:List Key):RelO (xT kvs k) ((atKey xs k).map (·.2)):=by
 induction r with
 | nil=>exact nJ
 | @cons p q ps qs h t ih=>
  obtain⟨h1,_,h2⟩:=h
  by_cases e:p.1=k
  ·have e':q.1=k:=h1.symm.trans e
   have b:atKey (q::qs) k=some q.2:=by simp[atKey,tQ,e']
   rw[wM e,b];exact h2
  ·have e':¬q.1=k:=fun z=>e (h1.trans z)
   have b:atKey (q::qs) k=atKey qs k:=by simp[atKey,tQ,e']
   rw[yL e,b];exact ih
theorem KT.repl{H:Hp}{kvs:List (List Key×V)}{xs:List (List Key×Addr×Value)}(r:KT H kvs xs)(k:List Key){y:V}{u:Value}(ry:RelV y u):
  KT H (kvs.map fun kv=>if kv.1=k then(kv.1,y) else kv) (xs.map (putAt k u)):=by
 induction r with
 | nil=>exact .nil
 | @cons p q ps qs h t ih=>
  rw[mY,mY];refine .cons ?_ ih;obtain⟨h1,h2,h3⟩:=h;unfold putAt
  by_cases e:p.1=k
  ·rw[mK e,mK (h1.symm.trans e)];exact⟨h1,h2,ry⟩
  ·rw[mG e,mG (fun z=>e (h1.trans z))];exact⟨h1,h2,h3⟩
theorem KT.put{H:Hp}{kvs:List (List Key×V)}{xs:List (List Key×Addr×Value)}(r:KT H kvs xs)(k:List Key){b:Addr}{y:V}{u:Value}(hb:H b=some (.tup (k.map kV)))(ry:RelV y u):
  KT H (vU kvs k y) (storedH xs k b u):=by
 have e:(kvs.any fun kv=>decide (kv.1=k))=(atKey xs k).isSome:=by
  rw[uA,(r.val k).isSome_eq,Option.isSome_map]
 unfold vU storedH;rw[e]
 by_cases q:(atKey xs k).isSome=true
 ·rw[mK q,mK q];exact r.repl k ry
 ·rw[mG q,mG q];exact Paired.snoc r ⟨rfl,hb,ry⟩
theorem KT.keeps{H H':Hp}{kvs:List (List Key×V)}{xs:List (List Key×Addr×Value)}(r:KT H kvs xs)(ht:∀b ys,H b=some (.tup ys)→H' b=some (.tup ys)):KT H' kvs xs:=
 Paired.mapP r fun _ _ z=>⟨z.1,ht _ _ z.2.1,z.2.2⟩
section
variable{P:Program}{w:World}{H:Hp}{h:Heap}{a:Addr}
theorem zYb{u:HO}(ok:HOk P w H h)(e:Rd H a u):ObjOk P w H h a u:=e.ok ok
theorem zBc{kvs:List (Key×V)}(ok:HOk P w H h)(e:Rd H a (.dK kvs)):kvs.length≤sizeLine∧(a==sysModules)=false∧∃vs,KV kvs vs∧h.DictOf (yQ P w) a vs:=
 show ObjOk P w H h a (.dK kvs) from zYb ok e
theorem zYe{kvs:List (Key×V)}(ok:HOk P w H h)(e:H a=some (.dK kvs)):kvs.length≤sizeLine∧(a==sysModules)=false∧∃vs,KV kvs vs∧h.DictOf (yQ P w) a vs:=zBc ok (.inl e)
theorem zFy{ks:List Key}(ok:HOk P w H h)(e:H a=some (.tup (ks.map kV))):(tupleKind (yQ P w)).is h ks a:=by
 obtain⟨_,its,r,o,h1,h2,n,h3⟩:=(show ObjOk P w H h a (.tup (ks.map kV)) from ok a _ e);exact⟨o,its.toArray,n,h1,h2,h3,by simpa using zEb r⟩
theorem zMn{kvs:List (List Key×V)}(ok:HOk P w H h)(e:Rd H a (.dT kvs)):kvs.length≤sizeLine∧(a==sysModules)=false∧
  ∃xs,KT H kvs xs∧h.DictOfH (tupleKind (yQ P w)) a xs:=by
 obtain⟨z,y,xs,r,o,es,ep,h1,h2,h3,h4,h5⟩:=(show ObjOk P w H h a (.dT kvs) from zYb ok e);refine⟨z,y,xs,r,o,es,ep,h1,h2,h3,h4,fun x hx=>?_,h5⟩;have all:∀{l:List (List Key×V)}{m:List (List Key×Addr×Value)},KT H l m→∀x∈m,(tupleKind (yQ P w)).is h x.1 x.2.1:=by
  intro l m q
  induction q with
  | nil=>intro x hx;exact nomatch hx
  | @cons p q ps qs hq t ih=>
   intro x hx;rcases mF.mp hx with e | hx
   ·subst e
    exact zFy ok (by rw[←hq.1];exact hq.2.1)
   ·exact ih x hx
 exact all r x hx
theorem dt_of{kvs:List (List Key×V)}(ok:HOk P w H h)(e:H a=some (.dT kvs)):kvs.length≤sizeLine∧(a==sysModules)=false∧
  ∃xs,KT H kvs xs∧h.DictOfH (tupleKind (yQ P w)) a xs:=zMn ok (.inl e)
end
def DGet(H:Hp)(a:Addr)(y:V)(r:Option V):Prop:=
 (∃kvs k,Rd H a (.dK kvs)∧y=kV k∧r=xT kvs k)∨∃kvs k b,Rd H a (.dT kvs)∧y= .ref b∧H b=some (.tup (k.map kV))∧r=xT kvs k
def DPut(H:Hp)(a:Addr)(y v:V)(H':Hp):Prop:=
 (∃kvs k,H a=some (.dK kvs)∧y=kV k∧kvs.length<sizeLine∧H'=upd H a (.dK (vU kvs k v)))∨
 ∃kvs k b,H a=some (.dT kvs)∧y= .ref b∧H b=some (.tup (k.map kV))∧kvs.length<sizeLine∧H'=upd H a (.dT (vU kvs k v))
theorem DGet.k{H:Hp}{a:Addr}{kvs:List (Key×V)}{k:Key}(e:H a=some (.dK kvs)):DGet H a (kV k) (xT kvs k):=.inl ⟨kvs,k, .inl e,rfl,rfl⟩
theorem DPut.k{H:Hp}{a:Addr}{kvs:List (Key×V)}{k:Key}{v:V}(e:H a=some (.dK kvs))(hl:kvs.length<sizeLine):DPut H a (kV k) v (upd H a (.dK (vU kvs k v))):=.inl ⟨kvs,k,e,rfl,hl,rfl⟩
section
variable{X:Cx}{pins:List (Addr×Obj)}{σ:St}{H:Hp}{s:Shared}{a:Addr}{y v:V}{u r:Value}{o:Option V}{A:Around}{E:Value→Shared→Prop}
theorem Inv.big(I:Inv X pins σ H s):sysModules<s.heap.objs.size:=by
 have h:mainGlobals<s.heap.objs.size:=(I.mod.glob.keeps I.bk).lt;exact Nat.lt_trans (by decide) h
theorem zEi{Q:Value→Shared→Prop}(hu:A.units+1<cLine)(I:Inv X pins σ H s)(g:DGet H a y (some v))(ry:RelV y u)(h:∀w' s',Inv X pins σ H s'→RelV v w'→Q w' s'):
  wpAny (model X.prog X.w) A (getItem (.ref a) u) Q E s:=by
 rcases g with⟨kvs,k,e,ey,l⟩|⟨kvs,k,b,e,ey,eb,l⟩
 ·subst ey
  obtain⟨z,hd,vs,rel,dd⟩:=zBc I.hok e;obtain⟨w',hw,rw'⟩:=RelO.some_of (v:=v) (o:=valueAt vs k) (by rw[l];exact rel.val k);exact wpAny_getItem_of (zBl ry) dd.mapOf hw (h w' _ (I.tok _) rw')
 ·subst ey
  cases (show u=Value.ref b from ry);obtain⟨z,hd,xs,rel,dd⟩:=zMn I.hok e;obtain⟨w',hw,rw'⟩:=RelO.some_of (v:=v) (o:=(atKey xs k).map (·.2)) (by rw[l];exact rel.val k);obtain⟨p,hp,hp2⟩:=Option.map_eq_some_iff.mp hw;refine wpAny_getItem_heap (cH hu) (zFy I.hok eb) dd hp ?_;rw[hp2];exact h w' _ (I.tok _) rw'
theorem d_in{Q:Value→Shared→Prop}(hu:A.units+1<cLine)(I:Inv X pins σ H s)(g:DGet H a y o)(ry:RelV y u)(h:∀s',Inv X pins σ H s'→Q (.bool o.isSome) s'):
  wpAny (model X.prog X.w) A (compareOp .In u (.ref a)) Q E s:=by
 rcases g with⟨kvs,k,e,ey,l⟩|⟨kvs,k,b,e,ey,eb,l⟩
 ·subst ey
  obtain⟨z,hd,vs,rel,dd⟩:=zBc I.hok e;refine wpAny_in_of (zBl ry) hd dd.mapOf ?_;rw[←(rel.val k).isSome_eq,←l];exact h _ (I.tok _)
 ·subst ey
  cases (show u=Value.ref b from ry);obtain⟨z,hd,xs,rel,dd⟩:=zMn I.hok e;refine wpAny_in_heap (cH hu) (zFy I.hok eb) hd dd ?_;have q:=(rel.val k).isSome_eq;rw[Option.isSome_map] at q;rw[←q,←l];exact h _ (I.tok _)
theorem zGg{h':Heap}{t':Nat}{ob:HO}(I:Inv X pins σ H s)(mu:Mut (H a))(hs:Heap.SameBut a s.heap h')(he:∃q,h'.get? a=some q)(new:ObjOk X.prog X.w (upd H a ob) h' a ob):
  Inv X pins σ (upd H a ob) {s with heap:=h',toks:=t'}:=
 I.write (x:=a) (e:=a) mu (.inl rfl) (fun b q hb z=>(hs.2 b hb).trans z) he new
theorem zSs{P:Program}{w:World}{H':Hp}{h':Heap}{kvs:List (Key×V)}{vs:List (Key×Value)}(z:kvs.length≤sizeLine)(hd:(a==sysModules)=false)(rel:KV kvs vs)(dd:h'.DictOf (yQ P w) a vs):
  ObjOk P w H' h' a (.dK kvs):=⟨z,hd,vs,rel,dd⟩
theorem zEa{H':Hp}{Q:Unit→Shared→Prop}(hu:A.units+1<cLine)(I:Inv X pins σ H s)(g:DPut H a y v H')(ry:RelV y u)(rv:RelV v r)(h:∀s',Inv X pins σ H' s'→Q () s'):
  wpAny (model X.prog X.w) A (setItem (.ref a) u r) Q E s:=by
 rcases g with⟨kvs,k,e,ey,l,eH⟩|⟨kvs,k,b,e,ey,eb,l,eH⟩
 ·subst ey eH
  obtain⟨z,hd,vs,rel,dd⟩:=zYe I.hok e;have hz:vs.length≤sizeLine:=by rw[←rel.length];exact z
  have hl:(vU kvs k v).length≤sizeLine:=by have:=kD kvs k v;lia
  refine wpAny_setItem_pairs (hsz:=hz) (zBl ry) dd fun h' dd' hs=>h _ ?_;have he:∃q,h'.get? a=some q:=let ⟨q,_,_,hq,_⟩:=dd';⟨q,hq⟩;exact zGg I (by rw[e];exact nJ) hs he (zSs hl hd (rel.put k rv) dd')
 ·subst ey eH
  cases (show u=Value.ref b from ry);obtain⟨z,hd,xs,rel,dd⟩:=dt_of I.hok e;have hz:xs.length≤sizeLine:=by rw[←Paired.length rel];exact z
  have hl:(vU kvs k v).length≤sizeLine:=by have:=kD kvs k v;lia
  refine wpAny_setItem_heap (hsz:=hz) (cH hu) (zFy I.hok eb) dd fun h' dd' hs=>h _ ?_;obtain⟨q,es,ep,hq,h2,h3,h4,_,h5⟩:=dd';refine zGg I (by rw[e];exact nJ) hs ⟨q,hq⟩ ⟨hl,hd,_,(rel.put k eb rv).keeps fun c ys ec=>?_,q,es,ep,hq,h2,h3,h4,h5⟩;rw[zL (zAr ec e (fun z=>nomatch z))];exact ec
end
section
variable{X:Cx}{pins:List (Addr×Obj)}{σ:St}{H:Hp}{s:Shared}{a:Addr}{kvs:List (Key×V)}{k:Key}{u:Value}{A:Around}{E:Value→Shared→Prop}
theorem d_len{Q:Value→Shared→Prop}(I:Inv X pins σ H s)(e:Rd H a (.dK kvs))(h:∀t s',Inv X pins σ H s'→Q (.int kvs.length t) s'):wpAny (model X.prog X.w) A (call (.builtin "len") [.ref a]) Q E s:=by
 obtain⟨z,hd,vs,rel,dd⟩:=zBc I.hok e;refine call_len_dict hd dd (by rw[←rel.length];rw[mJ] at z;lia) ?_;rw[←rel.length];exact h _ _ (I.tok _)
end
def zYn(i:Expr):Prop:=∀ov iv,subscripted i false ov iv=operate [ov,iv] (getItem ov iv)
theorem zMo{prog:Program}{w:World}{A:Around}{E:Value→Shared→Prop}{s:Shared}{env:Env}{value slice:Expr}{pos:Pos}{T id:String}{Q:Value→Shared→Prop}
  (hl:typeLookup (.type T) "__getitem__" =pure (some (.builtin id))) (hs:zYn slice)
  (h:wpAny (model prog w) A (eval value env) (fun o s₁=>wpAny (model prog w) A (eval slice env) (fun i s₂=>s₂.TypeIs o T∧wpAny (model prog w) A (getItem o i) Q E s₂) E s₁) E s):
  wpAny (model prog w) A (eval (.Subscript value slice pos) env) Q E s:=by
 refine Subscript_ (pV h (fun o s₁ h₁=>pV h₁ (fun i s₂ h₂=>?_) fun _ _ x=>x) fun _ _ x=>x);obtain⟨hT,h₂⟩:=h₂;unfold subscriptTail;refine mD ?_;rw[getitemInPython_of_ne hT.not_modules];refine mD (wpAny_specialOf hT hl ?_);have fin:wpAny (model prog w) A (subscripted slice false o i) (fun r s₃=>wpAny (model prog w) A (letTemporaryGo value o r>>=fun _=>pure r) Q E s₃) E s₂:=by
  rw[hs o i];exact wpAny_operating (pV h₂ (fun r s₃ h₃=>mD (wpAny_letTemporaryGo (mO h₃))) fun _ _ x=>x)
 first
  | exact mO (mD fin)
  | exact mD (mO (mD fin))
  | exact mD fin
theorem zHf{X:Cx}{pins:List (Addr×Obj)}{σ:St}{H:Hp}{s:Shared}{a:Addr}{y:V}{o:Option V}(I:Inv X pins σ H s)(g:DGet H a y o):s.TypeIs (.ref a) "dict":=by
 rcases g with⟨kvs,k,e,_,_⟩|⟨kvs,k,b,e,_,_,_⟩
 ·obtain⟨_,_,vs,_,dd⟩:=zBc I.hok e
  exact dd.typeIs
 ·obtain⟨_,_,xs,_,dd⟩:=zMn I.hok e
  exact dd.typeIs
def zIs(td ty:TE):TE:=fun σ H Q=>td σ H fun x H1=>ty σ H1 fun y H2=>∃a v,x= .ref a∧DGet H2 a y (some v)∧Q v H2
def yAp(ty td:TE):TE:=fun σ H Q=>ty σ H fun y H1=>td σ H1 fun x H2=>∃a o,x= .ref a∧DGet H2 a y o∧Q (.bl o.isSome) H2
def zIv(td ty tv:TE):TS:=fun D σ H=>tv σ H fun v H1=>td σ H1 fun x H2=>ty σ H2 fun y H3=>∃a H4,x= .ref a∧DPut H3 a y v H4∧D.nx σ H4
def zXx(td ty tv:TE)(rd:V→V→Hp→VK→Prop):TS:=fun D σ H=>td σ H fun x H1=>ty σ H1 fun y H2=>∃a v,x= .ref a∧DGet H2 a y (some v)∧
 tv σ H2 fun y2 H3=>rd v y2 H3 fun z H4=>∃H5,DPut H4 a y z H5∧D.nx σ H5
section
variable{X:Cx}{o i e value:Expr}{pos pos' tpos:Pos}{td ty tv:TE}
theorem yR(hu:X.A.units+1<cLine)(ho:PE X o td)(hi:PE X i ty)(hs:zYn i):PE X (.Subscript o i pos) (zIs td ty):=by
 intro pins s σ H Q I h;refine zMo PySem.F.slot_dict_getitem.lookup hs (thn (ho pins s σ H _ I h) fun u s1 ⟨x,H1,I1,rx,q1⟩=>thn (hi pins s1 σ H1 _ I1 q1) fun iv s2 ⟨y,H2,I2,ry,a,v,ex,g,q2⟩=>?_);subst ex;obtain rfl:u=Value.ref a:=rx;exact⟨zHf I2 g,zEi hu I2 g ry fun w' s3 I3 rw'=>⟨v,H2,I3,rw',q2⟩⟩
theorem zQj(hu:X.A.units+1<cLine)(hi:PE X i ty)(ho:PE X o td):PC X .In i o (yAp ty td):=by
 intro pins s σ H Q I h;refine thn (hi pins s σ H _ I h) fun iv s1 ⟨y,H1,I1,ry,q1⟩=>thn (ho pins s1 σ H1 _ I1 q1) fun u s2 ⟨x,H2,I2,rx,a,ov,ex,g,q2⟩=>?_;subst ex;obtain rfl:u=Value.ref a:=rx;exact d_in hu I2 g ry fun s3 I3=>⟨.bl ov.isSome,H2,I3,rfl,q2⟩
theorem vM(hu:X.A.units+1<cLine)(ho:PE X o td)(hi:PE X i ty)(hv:PE X value tv)(hs:swapsWith value (some (.Subscript o i pos')) pos.line X.env=pure false):
  PS X (.Assign [.Subscript o i pos'] value pos) (zIv td ty tv):=by
 intro pins s σ H D I h;refine wpAny_Assign_Subscript (thn (hv pins s σ H _ I h) fun r s1 ⟨v,H1,I1,rv,q1⟩=>thn (ho pins s1 σ H1 _ I1 q1) fun u s2 ⟨x,H2,I2,rx,q2⟩=>thn (hi pins s2 σ H2 _ I2 q2) fun iv s3 ⟨y,H3,I3,ry,a,H4,ex,g,q3⟩=>?_) hs;subst ex;obtain rfl:u=Value.ref a:=rx;exact zEa hu I3 g ry rv fun s4 I4=>⟨σ,H4,I4,q3⟩
theorem zWx{op:Operator}{rd:V→V→Hp→VK→Prop}(hu:X.A.units+1<cLine)(ho:PE X o td)(hi:PE X i ty)(hv:PE X value tv)(hop:zZd X op rd)
  (ha:∀ov iv new,augStore i ov iv new=(do holding [new,ov,iv] (setItem ov iv new);release [new,ov,iv] [];pure .next)):PS X (.AugAssign (.Subscript o i tpos) op value pos) (zXx td ty tv rd):=by
 intro pins s σ H D I h;refine wpAny_AugAssign_SubscriptAny (thn (ho pins s σ H _ I h) fun u s1 ⟨x,H1,I1,rx,q1⟩=>thn (hi pins s1 σ H1 _ I1 q1) fun iv s2 ⟨y,H2,I2,ry,a,v,ex,g,q2⟩=>?_) ha;subst ex;obtain rfl:u=Value.ref a:=rx;refine zEi hu I2 g ry fun w' s3 I3 rw'=>thn (hv pins s3 σ H2 _ I3 q2) fun w2 s4 ⟨y2,H3,I4,ry2,q3⟩=>thn (hop pins s4 σ H3 v y2 w' w2 _ I4 rw' ry2 q3) fun w3 s5 ⟨z,H4,I5,rz,H5,g5,q4⟩=>?_;exact zEa hu I5 g5 ry rz fun s6 I6=>⟨σ,H5,I6,q4⟩
end
theorem zHk{P:Program}{w:World}{H:Hp}(h:Heap)(hb:sysModules<h.objs.size):ObjOk P w H (h.push {cls:=.type "dict",data:=.dict #[]}) h.objs.size (.dK []):=
 ⟨rK _,rV.mpr (Ne.symm (nQ hb)),[], .nil,Heap.DictOf.new h⟩
def zBi:TE:=fun _ H Q=>∀p,H p=none→Q (.ref p) (upd H p (.dK []))
section
variable{X:Cx}{pos:Pos}
theorem zJn:PE X (.Dict [] [] pos) zBi:=fun pins s σ H Q I h=>
 wpAny_Dict_empty ⟨.ref s.heap.objs.size,_,I.laid (a:=s.heap.objs.size) (o:=.dK []) (t':=s.toks) (fun _ _ q=>mI _ q) (mL _) (zHk s.heap I.big),rfl,h _ (I.hok.fresh (mL _))⟩
end
def gF:List (TE×TE)→St→Hp→(List (V×V)→Hp→Prop)→Prop
 | [],_,H,Q=>Q [] H
 |(tk,tv)::r,σ,H,Q=>tk σ H fun x H1=>tv σ H1 fun y H2=>gF r σ H2 fun ps H3=>Q ((x,y)::ps) H3
abbrev VV:List (V×V)→List (Value×Value)→Prop:=Paired fun p q=>RelV p.1 q.1∧RelV p.2 q.2
def PPs(X:Cx)(pos:Pos)(keys:List (Option Expr))(values:List Expr)(trs:List (TE×TE)):Prop:=
 ∀(pins:List (Addr×Obj))(s:Shared)(σ:St)(H:Hp)(Q:List (V×V)→Hp→Prop),Inv X pins σ H s→gF trs σ H Q→
  wpAny (model X.prog X.w) X.A (evalPairs (pairTrees keys values X.env pos)) (fun vs s'=>∃ps H',Inv X pins σ H' s'∧VV ps vs∧Q ps H') X.xe s
theorem zMd{X:Cx}{pos:Pos}:PPs X pos [] [] []:=fun pins s σ H Q I h=>pairTrees_nil_walk ⟨[],H,I, .nil,h⟩
theorem wB{X:Cx}{pos:Pos}{k v:Expr}{ks:List (Option Expr)}{vs:List Expr}{tk tv:TE}{trs:List (TE×TE)}(hk:PE X k tk)(hv:PE X v tv)(hr:PPs X pos ks vs trs):
  PPs X pos (some k::ks) (v::vs) ((tk,tv)::trs):=fun pins s σ H Q I h=>
 pairTrees_cons_walk (thn (hk pins s σ H _ I h) fun u s1 ⟨x,H1,I1,rx,q1⟩=>thn (hv pins s1 σ H1 _ I1 q1) fun w2 s2 ⟨y,H2,I2,ry,q2⟩=>
  thn (hr pins s2 σ H2 _ I2 q2) fun ws s3 ⟨ps,H3,I3,rel,q3⟩=>⟨(x,y)::ps,H3,I3, .cons ⟨rx,ry⟩ rel,q3⟩)
def gM(kvs more:List (Key×V)):List (Key×V):=more.foldl (fun acc kv=>vU acc kv.1 kv.2) kvs
theorem KV.merge:∀{more:List (Key×V)}{rs:List (Key×Value)}{kvs:List (Key×V)}{vs:List (Key×Value)},KV more rs→KV kvs vs→KV (gM kvs more) (merged vs rs):=by
 intro more rs kvs vs r;unfold KV at r
 induction r generalizing kvs vs with
 | nil=>intro q;exact q
 | @cons p q ps qs h t ih=>
  intro r0;have e:KV (vU kvs p.1 p.2) (stored vs q.1 q.2):=by
   have:=r0.put p.1 h.2;rw[←h.1];exact this
  exact ih e
theorem kZ:∀(more kvs:List (Key×V)),(gM kvs more).length≤kvs.length+more.length
 | [],kvs=>by show kvs.length≤kvs.length+0;lia
 | p::r,kvs=>by
  have h1:=kZ r (vU kvs p.1 p.2);have h2:=kD kvs p.1 p.2;show(gM (vU kvs p.1 p.2) r).length≤_;rw[mE];lia
theorem zBj{P:Program}{w:World}:∀{kvs:List (Key×V)}{ws:List (Value×Value)},VV (kvs.map fun kv=>(kV kv.1,kv.2)) ws→∃rs,Carries (yQ P w) ws rs∧KV kvs rs
 | [],_,r=>by rw[pX] at r;cases r;exact⟨[],nJ, .nil⟩
 | p::kvs,_,r=>by
  rw[mY] at r
  cases r with
  | @cons a b as bs h t=>
   obtain⟨rs,c,q⟩:=zBj (P:=P) (w:=w) t;obtain⟨b1,b2⟩:=b;exact⟨(p.1,b2)::rs,⟨zBl h.1,rfl,c⟩, .cons ⟨rfl,h.2⟩ q⟩
def zHq(trs:List (TE×TE)):TE:=fun σ H Q=>∀p,H p=none→gF trs σ (upd H p (.dK [])) fun ps H2=>H2 p=some (.dK [])∧∃kvs:List (Key×V),ps=kvs.map (fun kv=>(kV kv.1,kv.2))∧kvs.length≤15∧Q (.ref p) (upd H2 p (.dK (gM [] kvs)))
theorem zMf{X:Cx}{pos:Pos}{keys:List (Option Expr)}{values:List Expr}{trs:List (TE×TE)}(h:PPs X pos keys values trs)(hall:keys.all (·.isSome)=true)(hl:keys.length=values.length)(h0:keys≠ [])
  (h15:keys.length≤15):PE X (.Dict keys values pos) (zHq trs):=by
 intro pins s σ H Q I q;have hn:=I.hok.fresh (mL s.heap.objs.size);have I1:=I.laid (a:=s.heap.objs.size) (o:=.dK []) (h':=s.heap.push {cls:=.type "dict",data:=.dict #[]}) (t':=s.toks) (fun _ _ q=>mI _ q) (mL _) (zHk s.heap I.big);refine wpAny_Dict_walk (knd:=yQ X.prog X.w) hall hl h0 h15 (thn (h pins _ σ _ _ I1 (q _ hn)) fun ws s2 ⟨ps,H2,I2,rel,e,kvs,ep,lk,q2⟩=>?_);subst ep;obtain⟨rs,c,rk⟩:=zBj (P:=X.prog) (w:=X.w) rel;obtain⟨z,hd,vs0,r0,dd⟩:=zYe I2.hok e;cases r0;refine⟨rs,c,dd,fun h' dd' hs=>⟨.ref s.heap.objs.size,_, ?_,rfl,q2⟩⟩;have hz:(gM [] kvs).length≤sizeLine:=by
  have h1:=kZ kvs [];rw[nA] at h1;rw[mJ];lia
 have he:∃q,h'.get? s.heap.objs.size=some q:=let ⟨q,_,_,hq,_⟩:=dd';⟨q,hq⟩;exact zGg I2 (by rw[e];exact nJ) hs he (zSs hz hd (rk.merge .nil) dd')
structure M1(X:Cx)(o:Expr)(m:Str)(apos:Pos)(e:Expr)(cpos:Pos):Prop where
 base:attributeBase o m X.env (eval o X.env)=eval o X.env
 few:((backTo cpos (starEach [e] X.env)).all (fun x=>!x.1)&& (backToKw cpos (keywordEach [] X.env)).all (fun x=>x.1.isSome)
  && decide (([e]:List Expr).length+([]:List Keyword).length+(if([]:List Keyword).isEmpty then 0 else 1)<30))=true
 line:(apos.endLine==cpos.line)=true
 trees:backTo cpos (starEach [e] X.env)= [(false,eval e X.env)]
structure M2(X:Cx)(o:Expr)(m:Str)(apos:Pos)(e f:Expr)(cpos:Pos):Prop where
 base:attributeBase o m X.env (eval o X.env)=eval o X.env
 few:((backTo cpos (starEach [e,f] X.env)).all (fun x=>!x.1)&& (backToKw cpos (keywordEach [] X.env)).all (fun x=>x.1.isSome)
  && decide (([e,f]:List Expr).length+([]:List Keyword).length+(if([]:List Keyword).isEmpty then 0 else 1)<30))=true
 line:(apos.endLine==cpos.line)=true
 trees:backTo cpos (starEach [e,f] X.env)= [(false,eval e X.env),(false,eval f X.env)]
section
variable{X:Cx}{pins:List (Addr×Obj)}{σ:St}{H:Hp}{s:Shared}{a:Addr}{y d:V}{u r:Value}{o:Option V}{A:Around}{E:Value→Shared→Prop}
end
section
variable{X:Cx}{o e f:Expr}{apos cpos:Pos}{td ty tx:TE}
end
section
variable{X:Cx}{pins:List (Addr×Obj)}{σ:St}{H:Hp}{s:Shared}{a:Addr}{kvs:List (Key×V)}{A:Around}{E:Value→Shared→Prop}
end
section
variable{X:Cx}{pins:List (Addr×Obj)}{σ:St}{H:Hp}{s:Shared}{a:Addr}{y:V}{u:Value}{A:Around}{E:Value→Shared→Prop}
end
end L2
namespace Att
open PySem PySem.W PySem.Calls PyProof.Rows
theorem zAs{P:Params}{h:Heap}:∀(ns:List Int)(vs:List Value),WellAll P h vs (ns.map WData.int)→IntsAre vs ns:=by
 intro ns
 induction ns with
 | nil=>
  intro vs w;rw[List.map_nil] at w;cases w;exact .nil
 | cons n ns ih=>
  intro vs w;rw[List.map_cons] at w
  cases w with
  | cons a b=>
   cases a;exact .cons _ _ (ih _ b)
theorem zNs{l:OpenLaw}{n:Nat}(hn:l.most=some n){P:Params}{h:Heap}{args:List WData}{vals:List Value}
  (hpre:l.row.toRowW.claim.pre args=true) (hwl:WellAll P h vals args):
  ∃a vs ns,vals= [Value.ref a]∧args= [WData.list (ns.map WData.int)]∧h.get? a=some {cls:=.type "list",data:=.seq vs.toArray}∧IntsAre vs ns∧ns.length≤n:=by
 have hsh:WShape.hasAll [] args [.list .int]=true:=(pre_splitW hpre).1;have hc:l.pre.holds [] {args:=args}=true:=(pre_splitW hpre).2;obtain⟨d,r,rfl,h1,h2⟩:=hasAllW_cons hsh;obtain rfl:=hasAllW_nil h2;obtain⟨xs,rfl,h3⟩:=hasW_list h1;obtain⟨ns,rfl⟩:=items_int h3;have hlen:ns.length≤n:=by
  unfold OpenLaw.pre at hc;have h4:(WTm.not (.lt (.lit (.int (n:Int))) (.len (.arg 0)))).holds [] {args:=[.list (ns.map .int)]}=true:=by
   have h4:=(holds_andW hc).1;rw[hn] at h4;exact h4
  have h5:=condW_of h4 (w_not (w_lt w_lit (w_len_list (w_arg rfl))));rw[List.length_map] at h5;refine Nat.le_of_not_lt fun q=>?_;have q':(n:Int)<((ns.length:Nat):Int):=by lia
  first
   |(rw[decide_eq_true q'] at h5;exact absurd h5 (by decide))
   |(simp at h5;lia)
 cases hwl with
 | cons w1 w2=>
  cases w2
  cases w1 with
  | list ho hall=>exact⟨_,_,ns,rfl,rfl,ho,zAs ns _ hall,hlen⟩
theorem zOh(l:OpenLaw)(args:List WData):l.row.toRowW.claim.post args (.bool true) args=true:=
 postW_of (r:=l.row.toRowW) (X:=(true==true))
  (show WShape.has [] (.bool true) .bool=true by first | rfl | decide | simp[WShape.has,WShape.arms,WShape.armsAll])
  (show(WTm.eq .res (.lit (.bool true))).value [] {args:=args,res:=some (.bool true),after:=args}=some (.bool (true==true)) from w_eq_bool (w_res rfl) w_lit) rfl
theorem attach_call{l:OpenLaw}{n:Nat}{q:Program}{loose:List Str}{XP:(Str→Option Value)→Heap→Prop}{YP:World→Heap→Prop}{d:DefRec}
  (hn:l.most=some n) (hdf:d.params.defaults= [])
  (call:∀(w:World)(s₀ s₁:Shared)(mg mb:Str→Option Value)(fa:Addr)(o:Obj)(pm cd doc:Value)(a:Addr)(vs:List Value)(ns:List Int),
   Ground q loose [] XP w s₀ mg mb s₁.heap→YP w s₁.heap→
   s₁.heap.get? fa=some o→o.data= .func (docDef d.name d.params d.body d.scope pm cd doc)→s₁.heap.CodeRec cd d.name→mg d.name=some (.ref fa)→
   s₁.heap.get? a=some {cls:=.type "list",data:=.seq vs.toArray}→IntsAre vs ns→ns.length≤n→s₁.gens= #[]→
   codeAny (model l.prog w) callerA (.call (.ref fa) ⟨[.ref a],[]⟩) (fun r s'=>r= .ok (.ret (.bool true))∧OldK s₁.heap s'.heap∧s'.os=s₁.os∧AllBare s'.gens) s₁):
  WalkO q loose XP YP l.row.toRowW d [] (fun f vs=>PySem.call f vs):=by
 intro w s₀ s₁ mg mb G Y fa o pm cd doc dV kV ho hd hcd hD hmg hg args vals as hpre hlay hrd hwl hlo;obtain rfl:dV= .none:=Dflts.none hD hdf;obtain rfl:kV= .none:=Dflts.noKw hD;obtain⟨a,vs,ns,rfl,rfl,hobj,hints,hlen⟩:=zNs hn hpre hwl;refine enter_call (codeAny_mono (call w s₀ s₁ mg mb fa o pm cd doc a vs ns G Y ho (fd_plain hd) hcd hmg hobj hints hlen hg) fun r s' hq=>?_);obtain⟨rfl,h2,h3,h4⟩:=hq;exact⟨.inl ⟨.bool true, .bool true,[],rfl,fun _=>rfl, .bool true,zOh l _,fun _=>⟨List.Pairwise.nil,fun _ hm=>(nomatch hm)⟩⟩,h2,h3,h4⟩
section
variable{prog:Program}{w:World}{A:Around}{E:Value→Shared→Prop}{s:Shared}{K:Frag}
end
end Att
namespace L2
open PySem PySem.Spec PyProof.Rows
theorem zEc:∀{vs:List Value}{ns:List Int},IntsAre vs ns→Vals (ns.map V.int) vs
 | _,_, .nil=>.nil
 | _,_, .cons n t h=>.cons ⟨t,rfl⟩ (zEc h)
def zZp(H:Hp):Prop:=∀b,H b=none∨∃o xs,H b=some (.frz o (.lst xs))
theorem zVa{P:Program}{w:World}{K:W.Frag}{mg mb:Str→Option Value}{CX:CXT}{k:Nat}{fa a:Addr}{fd:FuncData}{x:Str}{sp:Sp}{s₁:Shared}{vs:List Value}{ns:List Int}
  (KX:K.In s₁.heap) (hns:s₁.heap.Ns mainGlobals mg) (hb:s₁.heap.Ns builtinsNs mb) (hbb:∀x:Str,x≠ "__name__"→mb x=bootBuiltins x) (hlim:s₁.heap.NoLimit) (hg:s₁.gens= #[])
  (ha:s₁.heap.get? a=some {cls:=.type "list",data:=.seq vs.toArray}) (hi:IntsAre vs ns) (hl:ns.length≤sizeLine) (hr:Room k callerA)
  (F:∀base:Heap,K.In base→base.Ns mainGlobals mg→FnOk P w K mg base CX k fa fd [x] sp) (hbind:∀(s:Shared)(u:Value),BindsTo s fd ⟨[u],[]⟩ [(x,u)])
  (hsp:∀H:Hp,zZp H→SqL K H a (ns.map V.int)→sp [.ref a] H (fun v _=>v= .bl true) fun _ _ _=>False)
  (hCX:∀H e s',CX [] H s₁ (fun _ _ _=>False) e s'→False):
  codeAny (model P w) callerA (.call (.ref fa) ⟨[.ref a],[]⟩) (fun r s'=>r= .ok (.ret (.bool true))∧OldK s₁.heap s'.heap∧s'.os=s₁.os∧AllBare s'.gens) s₁:=by
 have rv:=zEc hi;have lenV:=hi.length
 -- from an abstract heap in which nothing but the script may be tracked
 have core:∀H:Hp,zZp H→SqL K H a (ns.map V.int)→HOk P w H s₁.heap→(∀b,H b≠none→b=a)→(H a≠none→K.lookup a=none)→
   codeAny (model P w) callerA (.call (.ref fa) ⟨[.ref a],[]⟩) (fun r s'=>r= .ok (.ret (.bool true))∧OldK s₁.heap s'.heap∧s'.os=s₁.os∧AllBare s'.gens) s₁:=by
  intro H hO hS hok hA hK;have base_of:∀{b:Addr}{o:Obj},s₁.heap.get? b=some o→H b=none→(zFf s₁.heap H).get? b=some o:=fun e n=>zQa e n;have noA:∀{b:Addr}{o:Obj}{es:Array DictEntry}{ep:Nat},s₁.heap.get? b=some o→o.data= .dict es ep→H b=none:=fun {b o es ep} e d=>by
   cases q:H b with
   | none=>rfl
   | some u=>
    have e':b=a:=hA b (by rw[q];simp);subst e';rw[ha] at e;cases e;have d':Data.seq vs.toArray _=Data.dict es ep:=d;cases d'
  have nsK:∀{b:Addr}{m:Str→Option Value},s₁.heap.Ns b m→(zFf s₁.heap H).Ns b m:=fun {b m} ⟨o,es,ep,e,d,r⟩=>⟨o,es,ep,base_of e (noA e d),d,r⟩;have hKb:K.In (zFf s₁.heap H):=fun b o e=>base_of (KX b o e) (by
   cases q:H b with
   | none=>rfl
   | some u=>
    have e':b=a:=hA b (by rw[q];simp);subst e';rw[hK (by rw[q];simp)] at e;cases e)
  have hM:Mod K mg (zFf s₁.heap H):=⟨hKb,nsK hns,⟨mb,nsK hb,hbb⟩,let ⟨mc,h1,h2⟩:=hlim;⟨mc,nsK h1,h2⟩⟩;have e0:Env0 P w K mg (zFf s₁.heap H) callerA [] s₁ H:=⟨rfl,hM,fun b o e=>zVu e,Nat.le_of_eq (zOc _ _),trivial,fun b hb=>absurd (show b∈([]:List Addr) from hb) (by simp),hok, .of_eq hg⟩;refine rP ((F _ hKb (nsK hns)).run callerA [] s₁ H ⟨[.ref a],[]⟩ [.ref a] [.ref a] _ _ hr e0 (hbind s₁ (.ref a)) (.cons rfl .nil) (hsp H hO hS)) fun r s' h=>?_
  cases r with
  | error e=>exact(hCX H e s' h).elim
  | ok fl=>
   cases fl with
   | next=>exact False.elim h
   | brk=>exact False.elim h
   | cont=>exact False.elim h
   | ret u=>
    obtain⟨v,H',os,bare,un,hok',r',q⟩:=h;have q':v= .bl true:=q;subst q';obtain rfl:u=Value.bool true:=r';refine⟨rfl,OldK.of_keep fun b o e=>?_,os,bare⟩
    cases q:H b with
    | none=>exact un.keep b o e q (by intro z;exact absurd (show b∈([]:List Addr) from z) (by simp)) (by simp)
    | some u=>
     rcases hO b with z |⟨ob,xs,z⟩
     ·rw[q] at z;cases z
     ·have z2:=un.frzs b ob _ z
      obtain⟨e1,_⟩:=hok b _ z;obtain⟨e2,_⟩:=hok' b _ z2;rw[e] at e1;cases e1;exact e2
 cases hk:K.lookup a with
 | some o=>
  -- the script is one of the module's own objects
  have e:=KX a o hk;rw[ha] at e;cases e;refine core (fun _=>none) (fun _=>.inl rfl) (.inr ⟨_,vs.toArray,_,hk,rfl,rfl,rfl,by rw[nF,lenV];exact hl,by simpa using rv⟩) (fun b u z=>by have z':(none:Option HO)=some u:=z;cases z') (fun b z=>absurd rfl z) fun z=>absurd rfl z
 | none=>
  refine core (fun b=>if b=a then some (.frz {cls:=.type "list",data:=.seq vs.toArray} (.lst (ns.map V.int))) else none) (fun b=>?_) (.inl (.inr ⟨{cls:=.type "list",data:=.seq vs.toArray},mK rfl⟩)) (fun b u z=>?_) (fun b z=>?_) fun _=>hk
  ·by_cases hb:b=a
   ·exact .inr ⟨_,_,mK hb⟩
   ·exact .inl (mG hb)
  ·by_cases hb:b=a
   ·have z':=(mK hb).symm.trans z
    cases z';subst hb;exact⟨ha,by rw[mZ];exact hl,vs,_,rv,ha⟩
   ·have z':=(mG hb).symm.trans z
    cases z'
  ·by_cases hb:b=a
   ·exact hb
   ·exact absurd (mG hb) z
abbrev KOf{K:W.Frag}{h:Heap}(_:K.In h):W.Frag:=K
theorem zNk{l:W.OpenLaw}{n k:Nat}{q:Program}{loose:List Str}{XP:(Str→Option Value)→Heap→Prop}{YP:World→Heap→Prop}{d:DefRec}{K:Params→W.Frag}{CX:World→CXT}{sp:World→Sp}{x:Str}
  (hn:l.most=some n) (hn2:n≤sizeLine) (hdf:d.params.defaults= []) (hr:Room k callerA)
  (hY:∀(w:World)(h:Heap),YP w h→(K w.params).In h)
  (F:∀(w:World)(mg:Str→Option Value)(fa:Addr)(h:Heap),(K w.params).In h→h.Ns mainGlobals mg→mg d.name=some (.ref fa)→
   ∃fd:FuncData,(∀(s:Shared)(u:Value),BindsTo s fd ⟨[u],[]⟩ [(x,u)])∧
    ∀base:Heap,(K w.params).In base→base.Ns mainGlobals mg→FnOk l.prog w (K w.params) mg base (CX w) k fa fd [x] (sp w))
  (hsp:∀(w:World)(H:Hp)(a:Addr)(ns:List Int),ns.length≤n→zZp H→SqL (K w.params) H a (ns.map V.int)→sp w [.ref a] H (fun v _=>v= .bl true) fun _ _ _=>False)
  (hCX:∀(w:World)(H:Hp)(s:Shared)(e:Value)(s':Shared),CX w [] H s (fun _ _ _=>False) e s'→False):
  W.WalkO q loose XP YP l.row.toRowW d [] (fun f vs=>PySem.call f vs):=by
 refine Att.attach_call hn hdf fun w s₀ s₁ mg mb fa o pm cd doc a vs ns G Y ho hd hcd hmg hobj hints hlen hg=>?_;have KX:=hY w _ Y;obtain⟨fd,hb,hF⟩:=F w mg fa _ KX G.T.g hmg;exact zVa KX G.T.g G.T.b G.T.builtins G.T.nolimit hg hobj hints (nR hlen hn2) hr hF hb (fun H hO hS=>hsp w H a ns hlen hO hS) fun H e s'=>hCX w H s₁ e s'
end L2
/- THE LAST THEOREM (shape;LID,My.*are yours):
   My.Adr:a structure of the addresses that your layer names (classes,functions);My.Txt K t:a structure (Prop) of the equations over K;
   My.txt_mk:{K} {implicit addresses ..} (e1:nsIn K mainGlobals "law" =some (some (.ref f))) (e2:K.lookup f=some ⟨oc,od, .func (fnOf "law" "law" params body scope dV kV doc pm an cdv ct),sl⟩) (e3:codeIn K cdv "law" =true) .. :∃t,My.Txt K t
set_option maxRecDepth 100000 in
set_option maxHeartbeats 0 in
theorem PySem.Challenge.cw_LID_holds : PySem.Challenge.rw_LID.Holds := by
  w_on;o_law;k_head;(case hw=>w_witness2)
  k_fill
  refine L2.zNk (l:=PySem.Challenge.rw_LID) (n:=63) (k:=40) (x:="script") (CX:=fun w=>..) (sp:=fun _=>My.sp_law) rfl (by decide) rfl ⟨rfl,by decide,by decide⟩ (fun w h Y=>PySem.W.kIn_of Y) ?F ?S ?C
  case F=>
    intro w mg fa h KX G hmg;have T:∃t,My.Txt (L2.KOf KX) t:=by
      dsimp only[L2.KOf]                          -- K must stand as «<heap const>w.params» for k_is;refine' My.txt_mk ?e1 ?e2 ?e3 ..
      (case e1=>PySem.W.k_is)                    -- in the order:a name ->its address ->its object ->its parts
      (case e2=>PySem.W.k_is)
      ..
    obtain⟨t,T⟩:=T;have e0:=hmg.symm.trans (PySem.W.mg_of KX G T.law);cases e0                                       -- fa is the law's own address;exact⟨_,fun s u=>.of_eq rfl,fun base kb nb=>My.law_fn T kb nb⟩     -- if «.of_eq rfl» comes too early:refine' ⟨_, ?b,fun base kb nb=>My.law_fn T kb nb⟩;exact fun s u=>.of_eq rfl
  case S=>exact fun w H a ns hl hO hS=>..
  case C=>exact ..
(the tactic k_is has no namespace:write k_is)-/
namespace L2
open PySem PySem.Spec PyProof.Rows
def xC(s:Stmt):Arguments:=match s with
 | .FunctionDef _ a _ _ _ _ _ _ _ _=>a
 | _=>{posonlyargs:=[],args:=[],vararg:=none,kwonlyargs:=[],kw_defaults:=[],kwarg:=none,defaults:=[]}
def yV(s:Stmt):List Stmt:=match s with
 | .FunctionDef _ _ b _ _ _ _ _ _ _=>b
 | _=>[]
def zO(s:Stmt):Scope:=match s with
 | .FunctionDef _ _ _ _ _ _ sc _ _ _=>sc
 | _=>{kind:=.function,names:=[],isGenerator:=false,isCoroutine:=false}
abbrev CX0:CXT:=fun _ _ _ _ _ _=>False
abbrev E0:XK:=fun _ _ _=>False
theorem zMk{X:Cx}:jX CX0 X E0:=fun _ _ _ _ _ _ _ h=>h.elim
structure Fun(K:W.Frag)(x qual:Str)(st:Stmt)(f:Addr)(fd:FuncData):Prop where
 ex:∃(oc:Value)(od:Option Addr)(kV doc pm:Value)(an:Option Addr)(cdv ct:Value)(osl:Array (Option Value)),
  fd=W.fnOf x qual (xC st) (yV st) (zO st) .none kV doc pm an cdv ct∧K.lookup f=some ⟨oc,od, .func fd,osl⟩∧W.codeIn K cdv qual=true
 kp:W.keepIn K (.ref f)=true
section
variable{P:Program}{w:World}{K:W.Frag}{mg:Str→Option Value}{base:Heap}
theorem Fun.ok{x qual:Str}{st:Stmt}{f:Addr}{fd:FuncData}{N ps:List Str}{k:Nat}{sp:Sp}(F:Fun K x qual st f fd)(S:zV N ps (zO st))(len:∀vs H Q E,sp vs H Q E→vs.length=ps.length)
  (hbody:∀(cdv:Value)(A:Around)(outer:List Env)(s:Shared)(H:Hp)(vs:List V)(Q:VK)(E:XK),Room k (A.deeper (envOfC qual (zO st) s.heap.objs.size f cdv))→sp vs H Q E→
   ∃t,PSs (zBk CX0 P w K mg base N qual (zO st) f cdv A outer s H E).nox (yV st) t∧t {nx:=fun _ H'=>Q .non H',rt:=Q} (qI N vs) H):FnOk P w K mg base CX0 (k+1) f fd ps sp:=by
 obtain⟨oc,od,kV,doc,pm,an,cdv,ct,osl,rfl,lk,hcd⟩:=F.ex;refine zTt lk hcd S len fun A outer s H vs Q E hr hsp=>?_;obtain⟨t,h,q⟩:=hbody cdv A outer s H vs Q E hr hsp;exact⟨t,h.nox,q⟩
theorem Fun.binds{x qual:Str}{st:Stmt}{f:Addr}{fd:FuncData}{ps:List Str}(F:Fun K x qual st f fd)
  (h:∀(kV doc pm:Value)(an:Option Addr)(cdv ct:Value)(us:List Value),us.length=ps.length→bindArgs (W.fnOf x qual (xC st) (yV st) (zO st) .none kV doc pm an cdv ct) ⟨us,[]⟩=pure (ps.zip us)):Binds K fd ps []:=by
 obtain⟨oc,od,kV,doc,pm,an,cdv,ct,osl,rfl,lk,hcd⟩:=F.ex;exact .all (h kV doc pm an cdv ct)
theorem qN{x qual:Str}{st:Stmt}{f:Addr}{oc:Value}{od an:Option Addr}{osl:Array (Option Value)}{kV doc pm cdv ct:Value}(l:K.lookup f=some ⟨oc,od, .func (W.fnOf x qual (xC st) (yV st) (zO st) .none kV doc pm an cdv ct),osl⟩)
  (c:W.codeIn K cdv qual=true) (k:W.keepIn K (.ref f)=true):Fun K x qual st f (W.fnOf x qual (xC st) (yV st) (zO st) .none kV doc pm an cdv ct):=⟨⟨oc,od,kV,doc,pm,an,cdv,ct,osl,rfl,l,c⟩,k⟩
end
theorem kF{A:Around}{k:Nat}(hr:Room k A):A.units+1<cLine:=cI (Nat.add_le_add_left (by decide:1≤64) _) hr.units
section
variable{X:Cx}
theorem pv(i:Nat){x:Str}{pos:Pos}(hN:X.N[i]? =some x:=by rfl)(hv:Vis X.env.scope x:=by first | exact pR rfl | exact bB (pR rfl)| exact bB (bB rfl))(hd:(x==("__debug__" :Str))=false:=by decide)
  (hcd:(x==("__classdict__" :Str))=false:=by decide):PE X (.Name x pos) (zKx i):=zRf hN hv hd hcd
theorem jR{A B:Prop}(h:B):if false=true then A else B:=by
 rw[mG mR];exact h
theorem gK{A B:Prop}(h:A):if true=true then A else B:=by
 rw[mK rfl];exact h
def Same(H H':Hp):Prop:=∀b o,H b=some o→H' b=some o
theorem Same.refl(H:Hp):Same H H:=fun _ _ h=>h
theorem Same.trans{H H1 H2:Hp}(a:Same H H1)(b:Same H1 H2):Same H H2:=fun c o h=>b c o (a c o h)
theorem Same.seq{K:W.Frag}{H H':Hp}{a:Addr}{xs:List V}(e:Same H H')(h:SqL K H a xs):SqL K H' a xs:=by
 rcases h with(h |⟨o,h⟩)| h
 ·exact .inl (.inl (e _ _ h))
 ·exact .inl (.inr ⟨o,e _ _ h⟩)
 ·exact .inr h
end
section
variable{κ:Type} [DecidableEq κ]
end
abbrev ts(x:Str):List Nat:=x.cps.toList
abbrev tx(l:List Nat):Str:=⟨l.toArray⟩
theorem yJ(l:List Nat):ts (tx l)=l:=rfl
theorem vH(x:Str):tx (ts x)=x:=by cases x;simp[tx,ts]
theorem zCg(x:Str):x.length=(ts x).length:=by simp[Str.length,ts]
theorem zU(l:List Nat):(tx l).length=l.length:=by simp[Str.length,tx]
theorem qZ{x y:Str}(h:ts x=ts y):x=y:=by rw[←vH x,←vH y,h]
theorem xX(a b:List Nat):tx a++tx b=tx (a++b):=by
 apply qZ;show(a.toArray++b.toArray).toList=a++b;simp
theorem zEu(xs:Array Nat):∀(k:Nat)(acc:Array Nat),((List.replicate k xs).foldl (· ++ ·) acc).toList=acc.toList++(List.replicate k xs.toList).flatten
 | 0,acc=>by simp
 | k+1,acc=>by
  rw[pU,bQ,zEu xs k (acc++xs)];simp[pU]
theorem yBg(x:Str)(n:Int):Txt.mul x n=tx (List.replicate n.toNat (ts x)).flatten:=by
 apply qZ;rw[yJ];unfold Txt.mul
 by_cases h1:n<1
 ·rw[mK h1]
  have e:n.toNat=0:=by lia
  rw[e];rfl
 ·rw[mG h1]
  by_cases h2:(n==1 || x.length==0)=true
  ·rw[mK h2]
   rcases(bR _ _).mp h2 with h3 | h3
   ·have e:n=1:=by simpa using h3
    subst e;simp
   ·have e:x.length=0:=by simpa using h3
    rw[zCg] at e;have e2:ts x= []:=nY e;show ts x=_;rw[e2];simp
  ·rw[mG h2]
   show((List.replicate n.toNat x.cps).foldl (· ++ ·) #[]).toList=_;rw[zEu];simp
section
variable{X:Cx}
def zIm:R2:=fun x y H Q=>∃z n,x= .str z∧y= .int n∧z.length≤1000∧-1000≤n∧n≤1000∧Q (.str (tx (List.replicate n.toNat (ts z)).flatten)) H
theorem xJ:OpR X (binaryOp .Mult) zIm:=by
 intro pins s σ H x y v u Q I rx ry h;obtain⟨z,n,rfl,rfl,hz,h0,h1,q⟩:=h;obtain⟨t,rfl⟩:=rx;obtain⟨t',rfl⟩:=ry;refine SB.mul ⟨by rw[mM (by lia),mM (by lia)];rfl,fun a _ b=>?_,fun a _=>?_⟩ fun t' k=>⟨.str (Txt.mul z n),H,I.tok _,⟨_,rfl⟩,by rw[yBg];exact q⟩
 ·have h2:(9223372036854775:Int)≤(2 ^ 63 - 1:Int)/ n:=Int.le_ediv_of_mul_le (by lia) (by lia)
  lia
 ·unfold PySem.Builtin.Str.tooLong
  have e:z.length*n.toNat≤1000*1000:=Nat.mul_le_mul hz (by lia);exact mM (by rw[mJ];lia)
theorem zBf{ys:List Str}:∀{us:List Value},Vals (ys.map V.str) us→StrsAre us ys:=by
 induction ys with
 | nil=>intro us r;rw[pX] at r;cases r;exact .nil
 | cons n ns ih=>
  intro us r;rw[mY] at r
  cases r with
  | cons r1 r2=>
   obtain⟨t,e⟩:=r1;subst e;exact .cons n t (ih r2)
theorem zDf(g:Str):∀(ps:List Str)(acc:Array Nat),(ps.foldl (fun a p=>a++g.cps++p.cps) acc).toList=acc.toList++(ps.map fun p=>ts g++ts p).flatten
 | [],acc=>by simp
 | p::ps,acc=>by
  rw[bQ,zDf g ps];simp
theorem zQr(ys:List Str):Txt.join (tx []) ys=tx (ys.map ts).flatten:=by
 apply qZ;show((ys.drop 1).foldl (fun acc p=>acc++(tx []).cps++p.cps) (ys.headD Str.empty).cps).toList=_;rw[zDf]
 cases ys with
 | nil=>rfl
 | cons y r=>
  show ts y++(List.map (fun p=>ts (tx [])++ts p) r).flatten=ts y++(List.map ts r).flatten;simp only[yJ,nH]
def rJoin(K:W.Frag):V→List V→Hp→VK→Prop:=fun x vs H Q=>∃(p:Addr)(ys:List Str),x= .str (tx [])∧vs= [.ref p]∧SqL K H p (ys.map V.str)∧((ys.map ts).flatten).length≤100000∧Q (.str (tx (ys.map ts).flatten)) H
theorem zXa(ys:List Str):(ys.map (·.length)).sum=((ys.map ts).flatten).length:=by
 induction ys with
 | nil=>rfl
 | cons y r ih=>rw[mY,List.sum_cons,ih,mY,aY,mC,zCg]
theorem zGs:MtR X "str.join" (rJoin X.K):=by
 intro pins s σ H x vs v us Q I rx rv h;obtain⟨p,ys,rfl,rfl,hq,hz,q⟩:=h;obtain⟨t,rfl⟩:=rx;obtain⟨u,rfl,ru⟩:=rv.one;cases ru;obtain⟨its,r,pl,_⟩:=I.list hq;refine join_list (ys:=ys) pl.isList (by simpa using zBf r) ?_ fun t' k=>⟨.str (Txt.join (tx []) ys),H,I.tok _,⟨_,rfl⟩,by rw[zQr];exact q⟩;rw[zXa,show(tx []).length=0 from rfl,Nat.mul_zero]
 lia
theorem zJd(a b n:Nat):PySem.Builtin.Str.strSliceIndices (some (a:Int)) (some (b:Int)) 1 n=PySem.Builtin.Str.strSliceIndices (some ((min a n:Nat):Int)) (some ((min b n:Nat):Int)) 1 n:=by
 have h1:¬((a:Int)<0):=by lia
 have h2:¬((b:Int)<0):=by lia
 have h3:¬(((min a n:Nat):Int)<0):=by lia
 have h4:¬(((min b n:Nat):Int)<0):=by lia
 have e1:max (0:Int) (min (a:Int) (n:Int))=max (0:Int) (min ((min a n:Nat):Int) (n:Int)):=by lia
 have e2:max (0:Int) (min (b:Int) (n:Int))=max (0:Int) (min ((min b n:Nat):Int) (n:Int)):=by lia
 unfold PySem.Builtin.Str.strSliceIndices;simp only[h1,h2,h3,h4,sW,show((1:Int)>0)=True from by simp,tL];rw[e1,e2]
theorem zUy{a b n:Nat}(h:b<a)(hb:a≤n):PySem.Builtin.Str.strSliceIndices (some (a:Int)) (some (b:Int)) 1 n= []:=by
 have h1:¬((a:Int)<0):=by lia
 have h2:¬((b:Int)<0):=by lia
 have e1:max (0:Int) (min (a:Int) (n:Int))=a:=by lia
 have e2:max (0:Int) (min (b:Int) (n:Int))=b:=by lia
 have h3:¬((a:Int)<(b:Int)):=by lia
 simp only[PySem.Builtin.Str.strSliceIndices,PySem.sliceRange,h1,h2,sW,e1,e2,show((1:Int)>0)=True from by simp,tL,h3]
 rfl
theorem zWn{α:Type}(l:List α)(a b:Nat):(l.drop (min a l.length)).take (min b l.length - min a l.length)=(l.take b).drop a:=by
 rw[sO]
 by_cases ha:a≤l.length
 ·rw[bS ha]
  by_cases hb:b≤l.length
  ·rw[bS hb]
  ·rw[bH (by lia),rJ (by rw[nL];lia),rJ (by rw[nL];lia)]
 ·have e1:min a l.length=l.length:=bH (by lia)
  rw[e1,bC (mL _),bC (as:=l) (i:=a) (by lia),cP,cP]
theorem xS(x:Str)(a b:Nat):Txt.slice x (some (a:Int)) (some (b:Int))=tx (((ts x).take b).drop a):=by
 have hl:x.length=(ts x).length:=zCg x
 by_cases h:min a x.length≤min b x.length
 ·have e:=StrLaws.sliceText_nat x h (Nat.min_le_right _ _)
  have e2:Txt.slice x (some (a:Int)) (some (b:Int))=StrLaws.sliceText x (some ((min a x.length:Nat):Int)) (some ((min b x.length:Nat):Int)):=by
   unfold Txt.slice StrLaws.sliceText;rw[zJd a b]
  rw[e2,e,hl,zWn]
 ·have h1:min b x.length=b:=by lia
  have h2:b<a:=by lia
  have e:PySem.Builtin.Str.strSliceIndices (some (a:Int)) (some (b:Int)) 1 x.length= []:=by
   rw[zJd a b,h1];exact zUy (by lia) (Nat.min_le_right _ _)
  unfold Txt.slice;rw[e,mG (by simp;lia)];apply qZ;rw[yJ,bC (by rw[pT];lia)]
  rfl
theorem zIe(x:Str)(j:Nat):Txt.slice x none (some (j:Int))=tx ((ts x).take j):=by
 have e:Txt.slice x none (some (j:Int))=Txt.slice x (some ((0:Nat):Int)) (some (j:Int)):=by
  unfold Txt.slice;rw[StrLaws.sliceIdx_none_lo];rfl
 rw[e,xS,rY]
theorem zLk(x:Str)(i:Nat):Txt.slice x (some (i:Int)) none=tx ((ts x).drop i):=by
 have e:Txt.slice x (some (i:Int)) none=Txt.slice x (some (i:Int)) (some (x.length:Int)):=by
  unfold Txt.slice;rw[StrLaws.sliceIdx_none_hi]
 rw[e,xS,rJ (by rw[←zCg];exact mL _)]
def rSlS:V→Option Int→Option Int→Hp→VK→Prop:=fun x lo hi H Q=>∃z,x= .str z∧z.length≤sizeLine∧Q (.str (Txt.slice z lo hi)) H
theorem vY:SlR X rSlS:=by
 intro pins s σ H x v vl vu lo hi sl Q I rx hs pl pu h;obtain⟨z,rfl,hz,q⟩:=h;obtain⟨t,rfl⟩:=rx;refine⟨"str",_,F.slot_str_getitem.lookup,sZ _ _ _, ?_⟩;have fin:∀t' k,EP X pins σ Q (.str (Txt.slice z lo hi) t') {s with toks:=k}:=fun t' k=>⟨.str (Txt.slice z lo hi),H,I.tok _,⟨_,rfl⟩,q⟩;obtain⟨o,ho,hc,hd⟩:=hs
 cases pl with
 | none=>
  cases pu with
  | none=>exact sI (l:=none) (u:=none) (st:=none) ⟨o,ho,hc,hd⟩ rfl (bT ⟨nR (aP z _ _) hz,fin⟩)
  | int j uj=>exact sI (l:=none) (u:=some (j,uj)) (st:=none) ⟨o,ho,hc,hd⟩ rfl (bT ⟨nR (aP z _ _) hz,fin⟩)
 | int i ui=>
  cases pu with
  | none=>exact sI (l:=some (i,ui)) (u:=none) (st:=none) ⟨o,ho,hc,hd⟩ rfl (bT ⟨nR (aP z _ _) hz,fin⟩)
  | int j uj=>exact sI (l:=some (i,ui)) (u:=some (j,uj)) (st:=none) ⟨o,ho,hc,hd⟩ rfl (bT ⟨nR (aP z _ _) hz,fin⟩)
def zRw(neg:Bool):R2:=fun x y H Q=>∃c j,x= .str (tx [c])∧y= .str j∧Q (.bl (if neg then !decide (c∈ts j) else decide (c∈ts j))) H
theorem vC:OpR X (compareOp .In) (zRw false):=by
 intro pins s σ H x y v u Q I rx ry h;obtain⟨c,j,rfl,rfl,q⟩:=h;refine zNy pins s σ H _ _ v u Q I rx ry ⟨_,_,rfl,rfl, ?_⟩;have e:=StrLaws.found_one j c;rw[show(tx [c]:Str)=⟨#[c]⟩ from rfl,e];exact q
def Its(x:Str):It:=⟨fun i _=>i<(ts x).length,fun i H y H'=>H'=H∧∃c,(ts x)[i]? =some c∧y= .str (tx [c]),fun i _=>(ts x).length≤i⟩
theorem zTs{P:Program}{w:World}{K:W.Frag}{tg:Expr}(x:Str)(t:Tok)(it:Addr)(ty:String)(hty:ty= "str_ascii_iterator"∨ty= "str_iterator"):zHp true P w K tg (Its x) [it] it (fun i h=>h.IsStrIter it ty x t i) where
 mem:=by simp
 obj:=fun i h st b hb=>by
  have e:b=it:=by simpa using hb
  subst e;obtain⟨o,e,c,d⟩:=st;exact⟨o,e,fun v z=>by rw[d] at z;cases z⟩
 keep:=fun i h h' st k=>by
  obtain⟨o,e,c,d⟩:=st;exact⟨o,k it (by simp) o e,c,d⟩
 item:=by
  intro X hP hw hK hc i pins s σ H E I hf st hg;subst hP hw hK;obtain⟨f0,f1,f2,f3,f4,f5⟩:=hf it (by simp);have hi:i<(ts x).length:=hg;have hx:x.cps[i]? =some (ts x)[i]:=by
   rw[←tW];simp[hi]
  have fin:∀h',h'.IsStrIter it ty x t (i+1)→Heap.SameBut it s.heap h'→∃u,some (Value.str ⟨#[(ts x)[i]]⟩ s.toks)=some u∧
    wpAny (model X.prog X.w) X.A (letOwnedTupleGo tg (.ref it) u) (fun _ s2=>∃x' H',Inv X pins σ H' s2∧RelV x' u∧(Its x).yld i H x' H'∧s2.heap.IsStrIter it ty x t (i+1)∧∀b∈ [it],H' b=none) E {s with heap:=h',toks:=s.toks+1}:=fun h' st' sb=>by
   have I1:Inv X pins σ H {s with heap:=h',toks:=s.toks+1}:=I.turned (t':=s.toks+1) (fun b o hb e=>(sb.2 b hb).trans e) f0 f1 f3 f4 f5;obtain⟨o,e,c,d⟩:=id st';refine⟨_,rfl,zLy (s:={s with heap:=h',toks:=s.toks+1}) e c d ?_ ⟨.str (tx [(ts x)[i]]),H,I1,⟨_,rfl⟩,⟨rfl,_,by simp[hi],rfl⟩,st',fun b hb=>(hf b hb).1⟩⟩;rcases hty with z | z<;>(rw[z];decide)
  rcases hty with z | z
  ·subst z;exact wpAny_pyNext_ascii_item st hx fun h' st' sb=>fin h' st' sb
  ·subst z;exact wpAny_pyNext_wide_item st hx fun h' st' sb=>fin h' st' sb
 done:=by
  intro X hP hw hK hc i pins s σ H E I hf st hg;subst hP hw hK;obtain⟨f0,f1,f2,f3,f4,f5⟩:=hf it (by simp);have hi:(ts x).length≤i:=hg;have hx:x.cps[i]? =none:=by
   rw[←tW];exact List.getElem?_eq_none hi
  rcases hty with z | z
  ·subst z;exact zHy (I.hn hc) st hx fun h' eb=>⟨rfl,I.turned (t':=s.toks) (fun b o hb e=>eb b o hb e) f0 f1 f3 f4 f5⟩
  ·subst z;exact zKg (I.hn hc) st hx fun h' eb=>⟨rfl,I.turned (t':=s.toks) (fun b o hb e=>eb b o hb e) f0 f1 f3 f4 f5⟩
 self:=fun _ _ _ _ _ st h=>by
  rcases hty with z | z
  ·subst z;exact wpAny_pyIter_striter_ascii st h
  ·subst z;exact wpAny_pyIter_striter_wide st h
def zPs(tl:TE):TI:=fun σ H R=>tl σ H fun x H1=>∃z,x= .str z∧R (Its z) H1
theorem zBw{tg l:Expr}{tl:TE}(hl:PE X l tl)(hcl:X.cool=true:=by rfl):PI X tg l (zPs tl):=by
 intro pins s σ H R I h;refine thn (hl pins s σ H _ I h) fun v s1 ⟨x,H1,I1,r1,q1⟩=>?_;obtain⟨z,rfl,q⟩:=q1;obtain⟨t,rfl⟩:=r1;have fin:∀ty,(ty= "str_ascii_iterator"∨ty= "str_iterator")→PIE X pins σ tg R (.ref s1.heap.objs.size) {s1 with heap:=s1.heap.push {cls:=.type ty,data:=.fields #[.str z t, .int 0 0]}}:=fun ty hty=>by
  refine⟨s1.heap.objs.size,[s1.heap.objs.size],_,_,H1,rfl,I1.kept (t':=s1.toks) fun b o e=>mI _ e,⟨true,hcl,zTs z t _ ty hty⟩,⟨_,nI _ rfl,rfl,rfl⟩,fun b hb=>?_,q⟩;have e:b=s1.heap.objs.size:=by simpa using hb
  subst e;exact I1.fpOk (mL _) (I1.hok.fresh (mL _))
 cases ha:z.cps.all (· <128) with
 | true=>exact wpAny_pyIter_ascii ha (fin _ (.inl rfl))
 | false=>exact wpAny_pyIter_wide ha (fin _ (.inr rfl))
theorem zHx{bs:List Bool}:∀{us:List Value},Vals (bs.map V.bl) us→PyProof.Rows.LSm.BoolsAre us bs:=by
 induction bs with
 | nil=>intro us r;rw[pX] at r;cases r;exact .nil
 | cons n ns ih=>
  intro us r;rw[mY] at r
  cases r with
  | cons r1 r2=>
   cases (show _=Value.bool n from r1);exact .cons n (ih r2)
theorem zXd{A:Around}{h:Heap}(hn:Hn A h):∃x:Option Addr,(∀v,A.handled=some v→∃a,x=some a∧v= .ref a)∧∀a∈x.toList,a<h.objs.size:=by
 cases e:A.handled with
 | none=>exact⟨none,fun v z=>(nomatch z),fun a ha=>by simp at ha⟩
 | some v=>
  obtain⟨x,o,C,vs,rfl,a1,a2,a3⟩:=hn v e;refine⟨some x,fun v z=>⟨x,rfl,(nV z).symm⟩,fun a ha=>?_⟩;have ha:a=x:=by simpa using ha
  subst ha;exact mW a1
theorem wR(hc:X.cool=true):wK X (.builtin "all") (fun xs H Q=>∃(p:Addr)(bs:List Bool),xs= [.ref p]∧SqL X.K H p (bs.map V.bl)∧Q (.bl (bs.all id)) H):=by
 intro pins s σ H xs us Q I r h;obtain⟨p,bs,rfl,hq,q⟩:=h;obtain⟨u,rfl,rx⟩:=jW r;cases rx;obtain⟨its,rv,pl,hz⟩:=I.list hq;have hl:=pl.isList;have hb:=zHx rv;have hlt:p<s.heap.objs.size:=by obtain⟨_,e,_⟩:=hl;exact mW e
 refine call_all_walk (wpAny_pyIter_list hl ?_);obtain⟨x,hx,_⟩:=zXd (I.hn hc);refine⟨s.heap.objs.size,[s.heap.objs.size,p]++x.toList,[s.heap.objs.size],its.toArray.size,_,_,fun i=>(bs[i]?).getD true,rfl,zFr (A:=X.A.in1) hx _ p (nQ hlt) its.toArray,
  ⟨⟨_,nI _ rfl,rfl,rfl⟩,hl.push _,(I.hn hc).keeps fun b o e=>mI _ e⟩,fun i v s' Q' E' hP hQ=>?_,fun h' tk hk=>?_⟩
 ·obtain⟨b,e,rfl⟩:=hb.get i v (by simpa using hP)
  simp only[e,Option.getD_some] at hQ;exact rL hQ
 ·have e:((List.range its.toArray.size).all fun i=>(bs[i]?).getD true)=bs.all id:=by
   rw[nF,hb.length];exact PyProof.Rows.LSm.range_all bs
  rw[e];exact⟨.bl _,H,I.kept (PyProof.Rows.LSm.kept_iter hk),rfl,q⟩
def zAu:List V→List V→Bool
 | [],[]=>true
 | x::xs,y::ys=>eqV x y && zAu xs ys
 | _,_=>false
theorem zBo:∀(xs ys:List V),xs.length=ys.length→(List.range xs.length).all (fun j=>match xs[j]?,ys[j]? with | some a,some b=>eqV a b | _,_=>true)=zAu xs ys
 | [],[],_=>rfl
 | x::xs,y::ys,h=>by
  have ih:=zBo xs ys (by simpa using h);rw[mE,List.range_succ_eq_map,cO,aQ];show(eqV x y && _)=(eqV x y && zAu xs ys);rw[←ih]
  congr 1
theorem zHd:∀{xs ys:List V},xs.length≠ys.length→zAu xs ys=false
 | [],[],h=>absurd rfl h
 | [],_::_,_=>rfl
 | _::_,[],_=>rfl
 | x::xs,y::ys,h=>by
  have ih:=zHd (xs:=xs) (ys:=ys) (by simpa using h);show(eqV x y && zAu xs ys)=false;rw[ih,aV]
def rEqL(K:W.Frag)(neg:Bool):R2:=fun x y H Q=>∃a b xs ys,x= .ref a∧y= .ref b∧SqL K H a xs∧SqL K H b ys∧xs.all wV=true∧ys.all wV=true∧Q (.bl (if neg then !zAu xs ys else zAu xs ys)) H
theorem Vals.some_at{xs:List V}{us:List Value}(r:Vals xs us){j:Nat}(h:j<us.length):∃x,xs[j]? =some x∧RelV x us[j]:=by
 have hl:=r.length;obtain⟨x,e⟩:∃x,xs[j]? =some x:=⟨xs[j],by simp[hl,h]⟩;obtain⟨u,hu,ru⟩:=r.get e;have e2:us[j]? =some us[j]:=by simp[h]
 rw[e2] at hu;cases hu;exact⟨x,e,ru⟩
theorem zSv{A:Around}{s:Shared}{xs ys:List V}{us ws:List Value}(r:Vals xs us)(q:Vals ys ws)(fx:xs.all wV=true)(fy:ys.all wV=true):
  ∀j(h1:j<us.toArray.size)(h2:j<ws.toArray.size),SeqAt.EqAt A s us.toArray[j] ws.toArray[j] ((fun j=>match xs[j]?,ys[j]? with | some a,some b=>eqV a b | _,_=>true) j):=fun j h1 h2=>by
 obtain⟨x,e1,r1⟩:=r.some_at (j:=j) (by simpa using h1);obtain⟨y,e2,r2⟩:=q.some_at (j:=j) (by simpa using h2);have f1:wV x=true:=pH.mp fx x (pB e1);have f2:wV y=true:=pH.mp fy y (pB e2);have z:=zVj (A:=A) (s:=s) r1 r2 f1 f2;simp only[e1,e2]
 simpa using z
theorem zNn(hu:X.A.units<cLine):OpR X (compareOp .NotEq) (rEqL X.K true):=by
 intro pins s σ H x y v u Q I rx ry h;obtain⟨a,b,xs,ys,rfl,rfl,ha,hb,fx,fy,q⟩:=h;cases rx;cases ry;obtain⟨its,r1,pl1,_⟩:=I.list ha;obtain⟨its2,r2,pl2,_⟩:=I.list hb;have l1:=r1.length;have l2:=r2.length
 by_cases e:xs.length=ys.length
 ·refine SeqAt.RcNeAt.lists pl1.isList pl2.isList (by simp only[nF];lia) hu (zSv r1 r2 fx fy) X.prog X.w X.xe _ ⟨.bl _,H,I,rfl, ?_⟩
  rw[nF,←l1,zBo xs ys e];exact q
 ·refine SeqAt.RcNeAt.lists_lengths pl1.isList pl2.isList (by simp only[nF];simpa [←l1,←l2] using e) hu X.prog X.w X.xe _ ⟨.bl _,H,I,rfl, ?_⟩
  have z:=zHd e
  simpa [z] using q
def tyS(H:Hp):V→Option String
 | .non=>some "NoneType"
 | .bl _=>some "bool"
 | .int _=>some "int"
 | .str _=>some "str"
 | .ref a=>match H a with
  | some (.lst _)=>some "list"
  | some (.tup _)=>some "tuple"
  | some (.dK _)=>some "dict"
  | _=>none
 | _=>none
def wD(t T:String):Bool:=t==T ||(t== "bool" && T== "int")
theorem zZx{K:W.Frag}{H:Hp}{x:V}{t:String}(h:tyS H x=some t):zAd K H x (.type t):=by
 cases x with
 | non=>cases h;exact .non
 | bl b=>cases h;exact .bl b
 | int i=>cases h;exact .int i
 | str z=>cases h;exact .str z
 | ref a=>
  have h':(match H a with | some (.lst _)=>some "list" | some (.tup _)=>some "tuple" | some (.dK _)=>some "dict" | _=>none)=some t:=h
  cases e:H a with
  | none=>rw[e] at h';cases h'
  | some o=>
   rw[e] at h'
   cases o with
   | lst xs=>cases h';exact .lst e
   | tup xs=>cases h';exact .tup e
   | dK kvs=>cases h';exact .dK e
   | _=>cases h'
 | byt b=>cases h
 | flt b=>cases h
 | ty n=>cases h
def tyL:List String:=["NoneType","bool","int","str","list","tuple","dict"]
def kitB(t T:String):Option Bool:=if(Value.type t==Value.type T)=true then some true else if W.kitMeta T=true then(fastBuiltinMro t).map (·.contains (.type T)) else none
theorem zXp:(tyL.all fun t=>tyL.all fun T=>kitB t T==some (wD t T))=true:=by decide+kernel
theorem zRj{K:W.Frag}{t T:String}(h1:t∈tyL)(h2:T∈tyL):W.kitOne K (.type t) (.type T)=some (wD t T):=by
 have a:=pH.mp (pH.mp zXp t h1) T h2;have b:kitB t T=some (wD t T):=by simpa using a
 exact b
theorem zFl{H:Hp}{x:V}{t:String}(h:tyS H x=some t):t∈tyL:=by
 cases x<;>first |(cases h;simp[tyL];done)|(cases h;done)| skip
 rename_i a;have h':(match H a with | some (.lst _)=>some "list" | some (.tup _)=>some "tuple" | some (.dK _)=>some "dict" | _=>none)=some t:=h
 split at h'<;>first |(cases h';simp[tyL];done)|(cases h';done)
theorem zCp{T:String}(hT:T∈tyL):wK X (.builtin "isinstance") (fun xs H Q=>∃x t,xs= [x, .ty T]∧tyS H x=some t∧Q (.bl (wD t T)) H):=by
 intro pins s σ H xs us Q I r h;obtain⟨x,t,rfl,ht,q⟩:=h;obtain⟨u,w',rfl,ru,rw'⟩:=zHb r;cases (show w'=Value.type T from rw');exact zNq I ru (zZx ht) (zRj (zFl ht) hT) fun tk=>⟨.bl _,H,I.tok _,rfl,q⟩
end
theorem yK:bootBuiltins "len" =some (.builtin "len"):=by decide+kernel
theorem zT:bootBuiltins "isinstance" =some (.builtin "isinstance"):=by decide+kernel
theorem jE:bootBuiltins "all" =some (.builtin "all"):=by decide+kernel
theorem zTw:bootBuiltins "abs" =some (.builtin "abs"):=by decide+kernel
theorem yAh:bootBuiltins "ord" =some (.builtin "ord"):=by decide+kernel
theorem zZq:bootBuiltins "max" =some (.builtin "max"):=by decide+kernel
theorem zEs:bootBuiltins "sorted" =some (.builtin "sorted"):=by decide+kernel
theorem xO:bootBuiltins "int" =some (.type "int"):=by decide+kernel
theorem uV:bootBuiltins "str" =some (.type "str"):=by decide+kernel
theorem zEw:bootBuiltins "bool" =some (.type "bool"):=by decide+kernel
theorem qG:bootBuiltins "list" =some (.type "list"):=by decide+kernel
theorem gU:bootBuiltins "dict" =some (.type "dict"):=by decide+kernel
structure Bl(mg:Str→Option Value):Prop where
 len:mg "len" =none
 range:mg "range" =none
 isinstance:mg "isinstance" =none
 all:mg "all" =none
 sum:mg "sum" =none
 int:mg "int" =none
 str:mg "str" =none
 bool:mg "bool" =none
 list:mg "list" =none
 dict:mg "dict" =none
 tuple:mg "tuple" =none
structure Dn(P:Program)(w:World)(K:W.Frag)(mg:Str→Option Value)(base:Heap)(k:Nat)(x:Str)(ps:List Str)(sp:Sp):Prop where
 ex:∃(f:Addr)(fd:FuncData),FnOk P w K mg base CX0 k f fd ps sp∧Binds K fd ps []∧W.keepIn K (.ref f)=true∧mg x=some (.ref f)
section
variable{X:Cx}{k j:Nat}{x:Str}{ps:List Str}{sp:Sp}{e:Expr}{es:List Expr}{t:TA}{p pos:Pos}
theorem pe_cd(D:Dn X.prog X.w X.K X.mg X.base k x ps sp)(hr:Room j X.A)(hj:k≤j)(hg:Gl X x)(ha:PA X (e::es) t)(hdb:(x==("__debug__" :Str))=false:=by decide)
  (he:starEach (e::es) X.env=(false,eval e X.env)::starEach es X.env:=by rfl) (hpl:(backTo pos (starEach es X.env)).any (·.1)=false:=by rfl):PE X (.Call (.Name x p) (e::es) [] pos) (jQ sp [] E0 t):=by
 obtain⟨f,fd,h1,h2,h3,h4⟩:=D.ex;exact zMw h1 (hr.mono hj) hg h4 h3 h2 .nil zMk ha hdb he hpl
theorem zYh(D:Dn X.prog X.w X.K X.mg X.base k x ps sp)(hr:Room j X.A)(hj:k≤j)(hg:Gl X x)(hdb:(x==("__debug__" :Str))=false:=by decide):PE X (.Call (.Name x p) [] [] pos) (jQ sp [] E0 zJf):=by
 obtain⟨f,fd,h1,h2,h3,h4⟩:=D.ex;exact zSf h1 (hr.mono hj) hg h4 h3 h2 .nil zMk hdb
end
theorem zLc{α β:Type}{l:List α}{f:α→β→Sem (ForInStep β)}(g:β→α→β)(h:∀x∈l,∀c,f x c=pure (.yield (g c x))):∀b:β,forIn l b f=pure (l.foldl g b):=by
 induction l with
 | nil=>intro b;rfl
 | cons a r ih=>
  intro b;rw[List.forIn_cons,h a mH];show forIn r (g b a) f=_;rw[ih (fun x hx=>h x (mQ _ hx)) (g b a)]
  rfl
def wG(env:Env)(cs:List (Str×Addr))(x:Str×NameKind):List (Str×Addr):=
 if(x.2==NameKind.free)=true then(match env.cells.lookup x.1 with | some a=>(x.1,a)::cs | none=>cs) else cs
def clo(env:Env)(names:List (Str×NameKind)):List (Str×Addr):=names.foldl (wG env) []
theorem jV{scope:Scope}{env:Env}(h:∀x∈scope.names,x.2= .free→∃c,env.cells.lookup x.1=some c):closureFor scope env=pure (clo env scope.names):=by
 simp only[closureFor];rw[zLc (wG env) (fun x hx c=>by
  obtain⟨n,k⟩:=x
  by_cases hk:k= .free
  ·subst hk
   obtain⟨a,e⟩:=h _ hx rfl;have e':env.cells.lookup n=some a:=e;simp[wG,cellOf,e']
  ·have e:(k==NameKind.free)=false:=by simpa using hk
   simp[wG,e])]
 rfl
theorem zLx{env:Env}:∀(names:List (Str×NameKind))(cs:List (Str×Addr)),(∀p∈cs,env.cells.lookup p.1=some p.2)→∀p∈names.foldl (wG env) cs,env.cells.lookup p.1=some p.2
 | [],_,h=>h
 | x::r,cs,h=>by
  refine zLx r (wG env cs x) fun p hp=>?_;unfold wG at hp;split at hp
  ·split at hp
   ·rename_i a e
    rcases mF.mp hp with z | z
    ·rw[z];exact e
    ·exact h p z
   ·exact h p hp
  ·exact h p hp
theorem zIg{env:Env}{p:Str×Addr}:∀(names:List (Str×NameKind))(cs:List (Str×Addr)),p∈cs→p∈names.foldl (wG env) cs
 | [],_,h=>h
 | x::r,cs,h=>by
  refine zIg r (wG env cs x) ?_;unfold wG;split
  ·split
   ·exact mQ _ h
   ·exact h
  ·exact h
theorem zLp{env:Env}{n:Str}{c:Addr}(e:env.cells.lookup n=some c):∀(names:List (Str×NameKind))(cs:List (Str×Addr)),(n,NameKind.free)∈names→(n,c)∈names.foldl (wG env) cs
 | [],_,h=>nomatch h
 | x::r,cs,h=>by
  rcases mF.mp h with z | z
  ·subst z
   refine zIg r _ ?_;unfold wG;rw[mK (by rfl)];show(n,c)∈(match env.cells.lookup n with | some a=>(n,a)::cs | none=>cs)
   rw[e];exact mH
  ·exact zLp e r _ z
theorem vW{α:Type}{n:Str}{c:α}:∀{l:List (Str×α)},(n,c)∈l→∃c',l.lookup n=some c'
 | [],h=>nomatch h
 |(m,d)::r,h=>by
  by_cases e:n=m
  ·subst e;exact⟨d,by simp[pE]⟩
  ·rcases mF.mp h with z | z
   ·cases z;exact absurd rfl e
   ·obtain⟨c',q⟩:=vW z
    have e2:(n==m)=false:=by simpa using e
    exact⟨c',by rw[pE,e2];exact q⟩
theorem zRp{env:Env}{names:List (Str×NameKind)}{n:Str}{c:Addr}(h:(clo env names).lookup n=some c):env.cells.lookup n=some c:=
 zLx names [] (fun _ z=>nomatch z) (n,c) (rN h)
theorem zCj{env:Env}{names:List (Str×NameKind)}{n:Str}{c:Addr}(e:env.cells.lookup n=some c)(h:(n,NameKind.free)∈names):(clo env names).lookup n=some c:=by
 obtain⟨c',q⟩:=vW (zLp e names [] h);have q':(clo env names).lookup n=some c':=q;have z:=zRp q';rw[e] at z;rw[q',←z]
inductive FreeOk (X:Cx) (scope:Scope):List (Str×Nat)→Prop where
 | nil:FreeOk X scope []
 | cons {x:Str} {i:Nat} {r:List (Str×Nat)} (h1:X.N[i]? =some x) (h2:X.env.kindOf x=some .cell) (h3:scope.names.lookup x=some .free) (h:FreeOk X scope r):FreeOk X scope ((x,i)::r)
theorem FreeOk.mem{X:Cx}{scope:Scope}:∀{F:List (Str×Nat)},FreeOk X scope F→∀p∈F,X.N[p.2]? =some p.1∧X.env.kindOf p.1=some .cell∧scope.names.lookup p.1=some .free
 | _, .nil,_,h=>nomatch h
 | _, .cons h1 h2 h3 h,p,hp=>by
  rcases mF.mp hp with z | z
  ·subst z;exact⟨h1,h2,h3⟩
  ·exact h.mem p z
structure CompSc(X:Cx)(scope:Scope)(own:List Str)(F:List (Str×Nat)):Prop where
 kind:scope.kind= .function
 nocell:(scope.names.all fun y=>!(y.2==NameKind.cell))=true
 loc:(scope.names.all fun y=>!(y.2==NameKind.local)||(scope.names.lookup y.1==some NameKind.local))=true
 fr:(scope.names.all fun y=>!(y.2==NameKind.free)||(X.env.scope.names.lookup y.1==some NameKind.cell))=true
 free:FreeOk X scope F
def vP(own:List Str)(F:List (Str×Nat)):List Str:=own++F.map (·.1)
def kW(own:List Str)(F:List (Str×Nat))(σ:St):St:=own.map (fun _=>Option.none)++F.map (fun p=>(σ[p.2]?).join)
def xM(X:Cx)(own:List Str)(F:List (Str×Nat))(scope:Scope)(C:Addr)(s₃:Shared)(H₃:Hp)(ex:List Addr):Cx where
 prog:=X.prog
 w:=X.w
 K:=X.K
 mg:=X.mg
 base:=X.base
 A:=X.A
 N:=vP own F
 s₀:=s₃
 H₀:=H₃
 env:=compEnvC scope (clo X.env scope.names) C X.env
 outer:=X.stack
 stack:=X.stack
 ex:=ex
 fn:=fun _=>false
 calm:=X.calm
 cool:=X.cool
 pn:=[]
 xe:=fun _ _=>False
theorem CompSc.nc{X:Cx}{scope:Scope}{own:List Str}{F:List (Str×Nat)}(S:CompSc X scope own F):∀y∈scope.names,y.2≠ .cell:=fun y hy e=>by
 have q:=pH.mp S.nocell y hy;rw[e] at q;exact absurd q (by decide)
theorem CompSc.lc{X:Cx}{scope:Scope}{own:List Str}{F:List (Str×Nat)}(S:CompSc X scope own F):∀y∈scope.names,y.2= .local→scope.names.lookup y.1=some .local:=fun y hy e=>by
 have q:=pH.mp S.loc y hy;rw[e] at q
 simpa using q
theorem CompSc.fc{X:Cx}{scope:Scope}{own:List Str}{F:List (Str×Nat)}(S:CompSc X scope own F):∀y∈scope.names,y.2= .free→X.env.kindOf y.1=some .cell:=fun y hy e=>by
 have q:=pH.mp S.fr y hy;rw[e] at q;have q':X.env.scope.names.lookup y.1=some NameKind.cell:=by simpa using q
 exact q'
theorem zFa{scope:Scope}{env:Env}(hc:∀y∈scope.names,y.2≠ .cell){x:Str}(h:(relabel scope env).names.lookup x=some .cell∨(relabel scope env).names.lookup x=some .free):(x,NameKind.free)∈scope.names:=by
 have go:∀k,(relabel scope env).names.lookup x=some k→k= .cell∨k= .free→(x,NameKind.free)∈scope.names:=fun k e hk=>by
  have m:=rN e;unfold relabel at m;obtain⟨⟨n,k0⟩,hm,e2⟩:=sF.mp m
  by_cases hf:k0= .free
  ·subst hf
   dsimp only at e2;split at e2<;>(cases e2;exact hm)
  ·have e3:(k0==NameKind.free)=false:=by simpa using hf
   simp only[e3,tV,sR,sW] at e2;cases e2;rcases hk with z | z
   ·exact absurd z (hc _ hm)
   ·exact absurd z hf
 rcases h with h | h
 ·exact go _ h (.inl rfl)
 ·exact go _ h (.inr rfl)
theorem vG{env:Env}(hf:env.scope.kind= .function):∀{names:List (Str×NameKind)}{x:Str},names.lookup x=some .free→env.kindOf x=some .cell→
  (names.map fun(n,k)=>if(k==NameKind.free && env.scope.kind== .function && env.kindOf n==some .cell) then(n,NameKind.cell) else(n,k)).lookup x=some .cell
 | [],_,h,_=>by simp at h
 |(n,k)::r,x,h,hx=>by
  have ih:=@vG env hf r x;rw[mY]
  by_cases e:x=n
  ·subst e
   have hk:k= .free:=by simpa [pE] using h
   subst hk;have c:(NameKind.free==NameKind.free && env.scope.kind== .function && env.kindOf x==some .cell)=true:=by rw[hf,hx];rfl
   show List.lookup x ((if(NameKind.free==NameKind.free && env.scope.kind== .function && env.kindOf x==some .cell)=true then(x,NameKind.cell) else(x,NameKind.free))::_)=_;rw[mK c];simp[pE]
  ·have e2:(x==n)=false:=by simpa using e
   have h':r.lookup x=some .free:=by rw[pE,e2] at h;exact h
   have q:=ih h' hx;dsimp only;split
   ·rw[pE,e2];exact q
   ·rw[pE,e2];exact q
section
variable{X:Cx}{pins:List (Addr×Obj)}{σ:St}{H:Hp}{s:Shared}
theorem Inv.freeCells{scope:Scope}{own:List Str}{F:List (Str×Nat)}(I:Inv X pins σ H s)(S:CompSc X scope own F):∀x∈scope.names,x.2= .free→∃c,X.env.cells.lookup x.1=some c:=fun x hx e=>
 I.ok.has x.1 (.inl (S.fc x hx e))
theorem Inv.notStk(I:Inv X pins σ H s){b:Addr}(h1:b≠X.env.locals)(h2:b∉X.fs):b∉frs X.stack:=fun z=>(mF.mp (I.stkSub b z)).elim h1 h2
theorem zKo{scope:Scope}{own:List Str}{F:List (Str×Nat)}{fp:List Addr}{h1:Heap}{tk:Nat}(I:Inv X pins σ H s)(S:CompSc X scope own F)(hf:∀b∈fp,zDk X pins H b)(hlt:∀b∈fp,b<s.heap.objs.size){s3:Shared}
  (e3:s3={s with heap:=s.heap.push {cls:=.type "list",data:=.seq ([]:List Value).toArray}})
  (hns:h1.Ns s3.heap.objs.size (fun _=>none)) (hk:∀b o,s3.heap.get? b=some o→h1.get? b=some o):
  Inv (xM X own F scope s3.heap.objs.size s3 H (s.heap.objs.size::fp)) [] (kW own F σ) H {s3 with heap:=h1,toks:=tk}:=by
 have sz3:s3.heap.objs.size=s.heap.objs.size+1:=by rw[e3];exact tE ..
 have k3:∀b o,s.heap.get? b=some o→s3.heap.get? b=some o:=fun b o e=>by rw[e3];exact mI _ e
 have I3:Inv X pins σ H s3:=by rw[e3];exact I.kept (t':=s.toks) fun b o e=>mI _ e
 have lkup:∀x c,(clo X.env scope.names).lookup x=some c→X.env.cells.lookup x=some c:=fun x c e=>zRp e;have base_lt:∀b o,X.base.get? b=some o→b<X.s₀.heap.objs.size:=fun b o e=>mX (mW e) I.ok.bsz;have kf:X.env.scope.kind= .function:=I.ok.kind;refine⟨⟨I.ok.mod,S.kind,I.ok.glob,I.ok.blt,mL _,fun x y c h1 h2=>I.ok.inj x y c (lkup x c h1) (lkup y c h2),fun x hx=>?_,fun x c hx _=>(nomatch hx),⟨I.ok.hd.1,fun z v e=>?hnd⟩,I.ok.frames, .inl rfl,fun b hb=>?_,fun b o e=>?_, ?_,fun b o e hb=>?_,fun b hb=>?_,I3.stack,fun b hb=>I.stkFree b hb⟩,
  rfl,I3.bare,Un.kept hk,⟨_,hns,fun i x v e1 e2 e3'=>?_⟩,fun x c e=>?_, ?_,fun x c e=>I.freeC x c (lkup x c e),fun p hp=>absurd (show p∈([]:List (Addr×Obj)) from hp) (by simp),I3.hok.kept hk, ?_⟩
 case hnd=>
  obtain⟨x,o,C,vs,a,h1,h2,h3,h4,h5⟩:=I.hnAt z v e;refine⟨x,o,C,vs,a,k3 x o h1,h2,h3,h4, ?_⟩;rcases h5 with⟨h5,h6,h7⟩| h5
  ·obtain⟨x',o',C',vs',a',g1,g2,g3,g4,g5⟩:=I.ok.hd.2 z v e
   rw[a] at a';cases a';have lx:x<X.s₀.heap.objs.size:=mW g1;refine .inl ⟨h5,I.notStk (nQ (mX lx I.ok.above)) h6,fun hb=>?_⟩;rcases mF.mp hb with q | q
   ·exact absurd (mW h1) (by rw[q];exact rR _)
   ·rcases(hf x q).2.2.2.1 with q | q
    ·exact h7 q
    ·exact absurd lx (Nat.not_lt.mpr q)
  ·exact .inr h5
 ·have hm:=zFa S.nc hx
  obtain⟨c,e⟩:=I.freeCells S _ hm rfl;exact⟨c,zCj e hm⟩
 ·rcases mF.mp hb with z | z
  ·subst z
   refine⟨fun q=>?_,fun x c e q=>?_⟩
   ·have q':s.heap.objs.size=s3.heap.objs.size:=q
    lia
   ·obtain⟨v,u⟩:=I.cell x c (lkup x c e)
    exact absurd u.lt (by rw[q];exact rR _)
  ·refine⟨fun q=>?_,fun x c e=>(hf b z).2.2.2.2.1 x c (lkup x c e)⟩
   exact nQ (mX (hlt b z) (show s.heap.objs.size≤s3.heap.objs.size by lia)) q
 ·obtain⟨a1,a2⟩:=I.bs b o e
  exact⟨k3 b o a1,a2⟩
 ·exact nR (nR I.ok.bsz I.sz) (by show s.heap.objs.size≤s3.heap.objs.size;lia)
 ·have l1:=base_lt b o e
  rcases mF.mp hb with z | z
  ·exact absurd (mX l1 I.sz) (by rw[z];exact rR _)
  ·rcases(hf b z).2.2.2.1 with q | q
   ·exact I.ok.noex b o e q
   ·exact absurd l1 (Nat.not_lt.mpr q)
 ·rcases mF.mp hb with z | z
  ·subst z
   exact I.notStk (aM I.lt) (I.nofs (mL _))
  ·exact I.notStk (hf b z).2.1 (hf b z).2.2.1
 ·-- a name that is seen
  have hi:own.length≤i:=by
   by_cases z:i<own.length
   ·rw[kW,nM (by simpa using z),pP] at e2
    cases q:own[i]? with
    | none=>rw[q] at e2;cases e2
    | some y=>rw[q] at e2;cases e2
   ·lia
  rw[kW,nO (by simpa using hi),pP] at e2;have e1':(own++F.map (·.1))[i]? =some x:=e1;rw[nO hi,pP] at e1';simp only[mZ] at e2
  cases q:F[i - own.length]? with
  | none=>rw[q] at e2;cases e2
  | some p=>
   rw[q] at e1' e2;simp only[Option.map_some,Option.some.injEq] at e1' e2;obtain⟨f1,f2,f3⟩:=S.free.mem p (pB q);subst e1';obtain⟨m,hn,hl⟩:=I.loc;have e4:σ[p.2]? =some (some v):=by
    cases r:σ[p.2]? with
    | none=>rw[r] at e2;cases e2
    | some o=>rw[r] at e2;exact congrArg some e2
   obtain⟨u,ru,l⟩:=hl p.2 p.1 v f1 e4 (.inr (.inl f2));refine⟨u,ru, .inr ⟨.inl (vG kf f3 f2), ?_⟩⟩;rcases l with⟨l,_⟩|⟨_,c,ec,z⟩
   ·rw[f2] at l;cases l
   ·refine⟨c,zCj ec (rN f3), ?_⟩
    obtain⟨oc,ho,hd⟩:=z;exact⟨oc,hk _ _ (k3 _ _ ho),hd⟩
 ·obtain⟨v,oc,ho,hd⟩:=I.cell x c (lkup x c e)
  exact⟨v,oc,hk _ _ (k3 _ _ ho),hd⟩
 ·exact I.hok.fresh (by show s.heap.objs.size≤s3.heap.objs.size;lia)
 ·show(kW own F σ).length=(vP own F).length
  simp[kW,vP]
theorem zOj{scope:Scope}{own:List Str}{F:List (Str×Nat)}{fp:List Addr}{s3 s4:Shared}{σ':St}{H':Hp}{ys:List V}{its:List Value}{n:Nat}(I:Inv X pins σ H s)(hf:∀b∈fp,zDk X pins H b)
  (e3:s3={s with heap:=s.heap.push {cls:=.type "list",data:=.seq ([]:List Value).toArray}})
  (J:Inv (xM X own F scope s3.heap.objs.size s3 H (s.heap.objs.size::fp)) [] σ' H' s4) (hz:ys.length≤sizeLine) (hv:Vals ys its)
  (ha:s4.heap.get? s.heap.objs.size=some {cls:=.type "list",data:=.seq its.toArray n}) (hn:H' s.heap.objs.size=none):Inv X pins σ (upd H' s.heap.objs.size (.lst ys)) s4:=by
 have sz3:s3.heap.objs.size=s.heap.objs.size+1:=by rw[e3];exact tE ..
 have k3:∀b o,s.heap.get? b=some o→s3.heap.get? b=some o:=fun b o e=>by rw[e3];exact mI _ e
 have U:Un (frs X.stack) (s.heap.objs.size::fp) H H' s3.heap s4.heap:=J.base;have ne:∀b o,s.heap.get? b=some o→b≠s.heap.objs.size:=fun b o e=>nQ (mW e);have nx:∀b o,s.heap.get? b=some o→b∉fp→b∉s.heap.objs.size::fp:=fun b o e h z=>(mF.mp z).elim (ne b o e) h;have os4:s4.os=s.os:=by
  have q:s4.os=s3.os:=J.os;rw[q,e3]
 refine I.call' (ch:=fp) os4 ⟨fun b o e z hb hx=>U.keep b o (k3 b o e) z hb (nx b o e hx),fun b o e z hb hx=>U.slot b o (k3 b o e) z hb (nx b o e hx),fun b o e z hx=>?_,fun b o e hx=>U.there b o (k3 b o e) (nx b o e hx),fun b xs e=>?_,fun b o u e=>?_,fun b ps e=>?_⟩ (fun b u e=>?_) J.bare fun b hb=>?_
 ·rw[zL (ne b o e)]
  exact U.free b o (k3 b o e) z (nx b o e hx)
 ·have q:=U.tups b xs e
  rw[zL (yI q hn)];exact q
 ·have q:=U.frzs b o u e
  rw[zL (yI q hn)];exact q
 ·obtain⟨more,q⟩:=U.tbls b ps e
  exact⟨more,by rw[zL (yI q hn)];exact q⟩
 ·by_cases hb:b=s.heap.objs.size
  ·subst hb
   rw[zF] at e;cases e;exact⟨hz,its,n,hv,ha⟩
  ·rw[zL hb] at e
   exact(J.hok b u e).stay (fun _ _ _ q=>q) (fun c q=>by rw[zL (yI q hn)];exact q) fun c xs q=>by rw[zL (yI q hn)];exact q
 ·obtain⟨_,f1,_,f3,f4,f5⟩:=hf b hb
  exact⟨f3,f1,f4,f5⟩
theorem zCt{H':Hp}{s4:Shared}{C:Addr}{h':Heap}{σ4:St}(I:Inv X pins σ H s)(hC:s.heap.objs.size≤C)(I4:Inv X pins σ4 H' s4)(hn:H' C=none)(hs:Heap.SameBut C s4.heap h'):Inv X pins σ4 H' {s4 with heap:=h'}:=by
 have q:=I4.turned (it:=C) (t':=s4.toks) (h':=h') (fun b o hb e=>(hs.2 b hb).trans e) hn (aM (mX I.lt hC)) (.inr (nR I.sz hC)) (fun x c e z=>?_) (fun p hp z=>?_)
 ·exact q
 ·obtain⟨v,u⟩:=I.cell x c e
  exact absurd (mX u.lt (by rw[z];exact hC)) (rR _)
 ·exact absurd (mX (mW (I.pin p hp).1) (by rw[z];exact hC)) (rR _)
end
def PTs(X:Cx)(ifs:List Expr)(t:TT):Prop:=
 ∀(pins:List (Addr×Obj))(s:Shared)(σ:St)(H:Hp)(Q:Bool→Hp→Prop),Inv X pins σ H s→t σ H Q→
  wpAny (model X.prog X.w) X.A (forIn ifs true fun c r=>if r=true then do let ok ←isTrue c X.env (eval c X.env);pure (ForInStep.yield ok) else pure (ForInStep.yield r)) (TP X pins σ Q) X.xe s
def zDv:TT:=fun _ H Q=>Q true H
theorem wF{X:Cx}:PTs X [] zDv:=fun _ _ _ H _ I h=>wpAny_tests_nil ⟨H,I,h⟩
theorem zIh{prog:Program}{w:World}{A:Around}{R:Result→Shared→Prop}{s:Shared}{elt target iter:Expr}{ifs:List Expr}{scope:Scope}{pos:Pos}{it acc:Value}{env:Env}(I:Nat→Shared→Prop)
  (turn:∀n s,I n s→wpAny (model prog w) A (pyNext it) (fun r s₁=>match r with
   | none=>R (.ok .next) s₁
   | some v=>wpAny (model prog w) A (letOwnedTupleGo target it v) (fun _ s₂=>wpAny (model prog w) A (assign target env v) (fun _ s₃=>
     wpAny (model prog w) A (forIn ifs true fun c r=>if r=true then do let ok ←isTrue c env (eval c env);pure (ForInStep.yield ok) else pure (ForInStep.yield r)) (fun ok s₄=>
      if ok=true then wpAny (model prog w) A (eval elt env) (fun x s₅=>
       wpAny (model prog w) A (call (.builtin "list.append") [acc,x]) (fun _ s₆=>∃m,m<n∧I m s₆) (fun _ _=>False) s₅) (fun _ _=>False) s₄
      else∃m,m<n∧I m s₄) (fun _ _=>False) s₃) (fun _ _=>False) s₂) (fun _ _=>False) s₁) (fun _ _=>False) s)
  (n:Nat) (h:I n s):codeAny (model prog w) A (.compLoop (.ListComp elt [⟨target,iter,ifs,0⟩] scope pos) 0 it acc env) R s:=by
 refine codeAny_loop rfl I (fun n s hI=>?_) n h;show wpAny _ A ((compTurn (.ListComp elt [⟨target,iter,ifs,0⟩] scope pos) 0 it acc env).onRaise (fun x=>do noteFrame x env;theTreesLotGoes x)) _ _ s;refine wpAny_noted ?_;rw[compTurn_list];refine mD (sX (mD (pV (turn n s hI) (fun r s₁ h₁=>?_) fun _ _ f=>f.elim)))
 cases r with
 | none=>exact mO h₁
 | some v=>
  refine mD (pV h₁ (fun _ s₂ h₂=>mD (pV h₂ (fun _ s₃ h₃=>mD (pV h₃ (fun ok s₄ h₄=>?_) fun _ _ f=>f.elim)) fun _ _ f=>f.elim)) fun _ _ f=>f.elim)
  cases ok with
  | false=>exact mO ⟨rfl,h₄⟩
  | true=>exact mD (mD (pV h₄ (fun x s₅ h₅=>mD (pV h₅ (fun _ s₆ h₆=>mO (mO ⟨rfl,h₆⟩)) fun _ _ f=>f.elim)) fun _ _ f=>f.elim))
def Weak(σ σ':St):Prop:=σ'.length=σ.length∧∀(i:Nat) v,σ'[i]? =some (some v)→σ[i]? =some (some v)
theorem zUw{σ:St}{i:Nat}{v:Option V}(h:σ[i]? =some none):Weak (σ.set i v) σ:=by
 refine⟨by simp,fun j u e=>?_⟩
 by_cases hj:i=j
 ·subst hj;rw[h] at e;cases e
 ·rw[bN hj];exact e
def qR(own:List Str)(F:List (Str×Nat))(g:TG)(tt:TT)(te:TE)(σ:St)(Q:VK)(J:It)(H1:Hp):Prop:=∃W:Nat→Nat→List V→Hp→Prop,(∃m,W 0 m [] H1)∧∀i m ys H',W i m ys H'→ys.length≤i→
 (J.stop i H'∧i≤sizeLine∧∀p,H' p=none→Q (.ref p) (upd H' p (.lst ys)))∨
 (J.go i H'∧i<sizeLine∧∃N:List V→Hp→Prop,(∀ys' H'',N ys' H''→∃m',m'<m∧W (i+1) m' ys' H'')∧
  ∀x H2,J.yld i H' x H2→g x (kW own F σ) H2 fun σ3 H3=>Weak σ3 (kW own F σ)∧tt σ3 H3 fun b H4=>if b=true then te σ3 H4 fun y H5=>N (ys++ [y]) H5 else N ys H4)
def kX(own:List Str)(F:List (Str×Nat))(wi:TI)(g:TG)(tt:TT)(te:TE):TE:=fun σ H Q=>wi σ H fun J H1=>qR own F g tt te σ Q J H1
section
variable{X:Cx}{scope:Scope}{own:List Str}{F:List (Str×Nat)}{elt tg iter:Expr}{ifs:List Expr}{pos:Pos}{wi:TI}{g:TG}{tt:TT}{te:TE}
abbrev yS(s:Shared):Shared:={s with heap:=s.heap.push {cls:=.type "list",data:=.seq ([]:List Value).toArray}}
theorem zJg{pins:List (Addr×Obj)}{σ:St}{H:Hp}{s:Shared}{Q:VK}{RR:Addr→Result→Shared→Prop}{it:Addr}{fp:List Addr}{tn:Nat→Heap→Prop}{J:It}(S:CompSc X scope own F){fl:Bool}(hfl:X.heat fl=true)
  (hg:∀C s₃ H₃ ex,PG (xM X own F scope C s₃ H₃ ex) tg g) (ht:∀C s₃ H₃ ex,PTs (xM X own F scope C s₃ H₃ ex) ifs tt) (he:∀C s₃ H₃ ex,PE (xM X own F scope C s₃ H₃ ex) elt te)
  (I:Inv X pins σ H s) (T:zHp fl X.prog X.w X.K tg J fp it tn) (st:tn 0 s.heap) (hf:∀b∈fp,zDk X pins H b)
  (h:qR own F g tt te σ Q J H)
  (hR:∀C s4 H4,s.heap.objs.size≤C→C≠s.heap.objs.size→Inv X pins σ H4 s4→Q (.ref s.heap.objs.size) H4→H4 C=none→(∃m,s4.heap.Ns C m)→RR C (.ok .next) s4):
  wpAny (model X.prog X.w) X.A (newList []) (fun acc s₃=>wpAny (model X.prog X.w) X.A (newFunctionEnv scope X.env.globals (clo X.env scope.names) [] X.env.qual none .none (some X.env)) (fun cenv s₄=>
   codeAny (model X.prog X.w) X.A (.compStart (.ListComp elt [⟨tg,iter,ifs,0⟩] scope pos) 0 (.ref it) acc {cenv with scope:=relabel scope X.env}) (fun r s'=>acc= .ref s.heap.objs.size∧RR cenv.locals r s') s₄) X.xe s₃) X.xe s:=by
 obtain⟨W,⟨m0,w0⟩,turn⟩:=h;have hlt:∀b∈fp,b<s.heap.objs.size:=fun b hb=>by
  obtain⟨o,e,_⟩:=T.obj _ _ st b hb;exact mW e
 refine aX (wpAny_newFunctionEnv S.nc (by intro y hy;simp at hy) (fun h₁ hns₁ hsb₁=>?_) S.kind);dsimp only at hns₁ hsb₁⊢;have e3':yS s={s with heap:=s.heap.push {cls:=.type "list",data:=.seq ([]:List Value).toArray}}:=rfl;have sz3:(yS s).heap.objs.size=s.heap.objs.size+1:=tE ..;have k3:∀b o,(yS s).heap.get? b=some o→h₁.get? b=some o:=fun b o e=>hsb₁.extBut b o (nQ (mW e)) (mI _ e);have k2:∀b o,s.heap.get? b=some o→(yS s).heap.get? b=some o:=fun b o e=>mI _ e;have hns:h₁.Ns (yS s).heap.objs.size (fun _=>none):=by simpa using hns₁
 have I0:Inv (xM X own F scope (yS s).heap.objs.size (yS s) H (s.heap.objs.size::fp)) [] (kW own F σ) H {yS s with heap:=h₁,toks:=(yS s).toks+([]:List (Str×Value)).length}:=zKo I S hf hlt e3' hns k3;have acc0:h₁.get? s.heap.objs.size=some {cls:=.type "list",data:=.seq ([]:List Value).toArray 0}:=k3 _ _ (nI _ rfl);have ht0:tn 0 h₁:=T.keep _ _ _ st fun b _ o e=>k3 b o (k2 b o e);have loop:codeAny (model X.prog X.w) X.A (.compLoop (.ListComp elt [⟨tg,iter,ifs,0⟩] scope pos) 0 (.ref it) (.ref s.heap.objs.size) (compEnvC scope (clo X.env scope.names) (yS s).heap.objs.size X.env)) (RR (yS s).heap.objs.size) {yS s with heap:=h₁,toks:=(yS s).toks+([]:List (Str×Value)).length}:=by
  refine zIh (fun n s'=>∃i ys H' its k,Inv (xM X own F scope (yS s).heap.objs.size (yS s) H (s.heap.objs.size::fp)) [] (kW own F σ) H' s'∧tn i s'.heap∧(∀b∈fp,H' b=none)∧H' s.heap.objs.size=none∧
   Vals ys its∧s'.heap.get? s.heap.objs.size=some {cls:=.type "list",data:=.seq its.toArray k}∧ys.length≤i∧W i n ys H') ?_ m0 ⟨0,[],H,[],0,I0,ht0,fun b hb=>(hf b hb).1,I.hok.fresh (mL _), .nil,acc0,mL _,w0⟩
  rintro n s5 ⟨i,ys,H5,its,k,I5,t5,fr5,ha5,v5,o5,l5,w5⟩;have pn5:Inv (xM X own F scope (yS s).heap.objs.size (yS s) H (s.heap.objs.size::fp)) [(s.heap.objs.size,{cls:=.type "list",data:=.seq its.toArray k})] (kW own F σ) H5 s5:=I5.pins_of fun p hp=>by
   have z:p=(s.heap.objs.size,{cls:=.type "list",data:=.seq its.toArray k}):=by simpa using hp
   subst z;obtain⟨x1,x2⟩:=I0.ok.exf s.heap.objs.size mH;exact⟨o5,ha5,x1,I0.ok.exfs _ mH,fun v z=>by cases z⟩
  have fp5:∀{H':Hp},(∀b∈fp,H' b=none)→∀b∈fp,zDk (xM X own F scope (yS s).heap.objs.size (yS s) H (s.heap.objs.size::fp)) [(s.heap.objs.size,{cls:=.type "list",data:=.seq its.toArray k})] H' b:=fun {H'} hn b hb=>by
   obtain⟨x1,x2⟩:=I0.ok.exf b (mQ _ hb);refine⟨hn b hb,x1,I0.ok.exfs b (mQ _ hb), .inl (mQ _ hb),x2,fun p hp=>?_⟩;have z:p=(s.heap.objs.size,{cls:=.type "list",data:=.seq its.toArray k}):=by
    have hp':p∈([]:List (Addr×Obj))++ [(s.heap.objs.size,{cls:=.type "list",data:=.seq its.toArray k})]:=hp
    simpa using hp'
   subst z;exact aM (hlt b hb)
  rcases turn i n ys H5 w5 l5 with⟨stop,hz,q⟩|⟨go,hz,N,hN,step⟩
  ·refine thn (T.done (xM X own F scope (yS s).heap.objs.size (yS s) H (s.heap.objs.size::fp)) rfl rfl rfl (by cases fl<;>exact hfl) i _ s5 _ H5 (fun _ _=>False) pn5 (fp5 fr5) t5 stop) fun r s6 ⟨hr,I6⟩=>?_
   subst hr;obtain⟨a6,b6,_⟩:=I6.pin (s.heap.objs.size,{cls:=.type "list",data:=.seq its.toArray k}) (nX _ (mS.mpr rfl));have J6:=I6.pins_of (pins':=[]) (fun p hp=>nomatch hp);have I7:=zOj I hf e3' J6 (nR l5 hz) v5 a6 b6;have hC:H5 (yS s).heap.objs.size=none:=J6.free;refine hR _ s6 _ (show s.heap.objs.size≤(yS s).heap.objs.size by lia) (fun z=>by have z':(yS s).heap.objs.size=s.heap.objs.size:=z;lia) I7 (q _ b6) (by rw[zL (fun z=>by have z':(yS s).heap.objs.size=s.heap.objs.size:=z;lia)];exact hC) ?_;obtain⟨m,hn,_⟩:=J6.loc;exact⟨m,hn⟩
  ·refine thn (T.item (xM X own F scope (yS s).heap.objs.size (yS s) H (s.heap.objs.size::fp)) rfl rfl rfl (by cases fl<;>exact hfl) i _ s5 _ H5 (fun _ _=>False) pn5 (fp5 fr5) t5 go) fun r s6 ⟨u,hr,h6⟩=>?_
   subst hr;refine thn h6 fun _ s7 ⟨x,H7,I7,r7,y7,t7,fr7⟩=>?_;have J7:=I7.pinned (fp5 fr7) (T.obj _ _ t7);refine thn (hg _ _ _ _ _ s7 _ H7 x u _ J7 r7 (step x H7 y7)) fun _ s8 ⟨σ8,H8,I8,wk,q8⟩=>?_;refine thn (ht _ _ _ _ _ s8 σ8 H8 _ I8 q8) fun ok s9 ⟨H9,I9,q9⟩=>?_;have keep:∀{σ':St}{H':Hp}{s':Shared},Inv (xM X own F scope (yS s).heap.objs.size (yS s) H (s.heap.objs.size::fp)) ([(s.heap.objs.size,{cls:=.type "list",data:=.seq its.toArray k})]++zCw fp s7.heap) σ' H' s'→
     tn (i+1) s'.heap∧(∀b∈fp,H' b=none)∧H' s.heap.objs.size=none∧s'.heap.get? s.heap.objs.size=some {cls:=.type "list",data:=.seq its.toArray k}:=fun {σ' H' s'} J=>by
    have pa:=J.pin (s.heap.objs.size,{cls:=.type "list",data:=.seq its.toArray k}) (nX _ (sD _ (mS.mpr rfl)));refine⟨T.keep _ _ _ t7 fun b hb o e=>(J.pin (b,o) (nX _ (nX _ (jN hb e)))).1,fun b hb=>?_,pa.2.1,pa.1⟩;obtain⟨o,e,d⟩:=T.obj _ _ t7 b hb;exact(J.pin (b,o) (nX _ (nX _ (jN hb e)))).2.1
   cases ok with
   | false=>
    rw[mG mR] at q9⊢;obtain⟨m',hm,w9⟩:=hN _ _ q9;obtain⟨a1,a2,a3,a4⟩:=keep I9;exact⟨m',hm,i+1,ys,H9,its,k,(I9.pins_of (pins':=[]) (fun p hp=>nomatch hp)).weak wk.1 wk.2,a1,a2,a3,v5,a4,aZ l5,w9⟩
   | true=>
    rw[mK rfl] at q9⊢;refine thn (he _ _ _ _ _ s9 σ8 H9 _ I9 q9) fun u' s10 ⟨y,H10,I10,r10,q10⟩=>?_;obtain⟨m',hm,w10⟩:=hN _ _ q10;obtain⟨a1,a2,a3,a4⟩:=keep I10;have hl:=v5.length;refine aU nW ⟨_,a4,rfl⟩ PySem.F.entry_list_append (PySem.F.args_list_append_2 _ _) (PySem.list_append s.heap.objs.size its.toArray k u' (by rw[nF];lia)) ⟨a4, ?_⟩;have q:=PySem.IsL.update a4 (fun xs:Array Value=>xs.push u');have eq:its.toArray.push u'=(its++ [u']).toArray:=by simp
    rw[eq] at q;obtain⟨x1,x2⟩:=I0.ok.exf s.heap.objs.size mH;have I11:=(I10.pins_of (pins':=[]) (fun p hp=>nomatch hp)).turned (it:=s.heap.objs.size) (t':=s10.toks) (h':=s10.heap.update s.heap.objs.size (Obj.mapSeq (fun xs:Array Value=>xs.push u'))) (fun b o hb e=>(nD s10.heap _ (Ne.symm hb)).trans e) a3 x1 (.inl mH) x2 (fun p hp=>absurd (show p∈([]:List (Addr×Obj)) from hp) (by simp));refine⟨m',hm,i+1,ys++ [y],H10,its++ [u'],_,I11.weak wk.1 wk.2, ?_,a2,a3,v5.append (.cons r10 .nil),q,by rw[mC,pO];lia,w10⟩;exact T.keep _ _ _ a1 fun b hb o e=>(nD s10.heap _ (aM (hlt b hb))).trans e
 have loop':=rP loop (R':=fun r s'=>Value.ref s.heap.objs.size= .ref s.heap.objs.size∧RR (yS s).heap.objs.size r s') fun r s' z=>⟨rfl,z⟩;exact codeAny_compStart_list loop' (T.self X.A 0 _ _ _ ht0 loop')
theorem wT(S:CompSc X scope own F)(hc:X.cool=true)(hi:PI X tg iter wi)
  (hg:∀C s₃ H₃ ex,PG (xM X own F scope C s₃ H₃ ex) tg g) (ht:∀C s₃ H₃ ex,PTs (xM X own F scope C s₃ H₃ ex) ifs tt) (he:∀C s₃ H₃ ex,PE (xM X own F scope C s₃ H₃ ex) elt te)
  (hs:∀x,foldedSetIterable iter X.env x=pure x:=by intro _;rfl):PE X (.ListComp elt [⟨tg,iter,ifs,0⟩] scope pos) (kX own F wi g tt te):=by
 intro pins s σ H Q I h;rw[eval_ListComp];refine wpAny_comprehension_free (use:=none) rfl hs (jV (I.freeCells S)) S.kind S.lc ?_;refine thn (hi pins s σ H _ I h) fun v s1 h1=>thn h1 fun itv s2 ⟨it,fp,tn,J,H2,e,I2,⟨fl,hfl,T⟩,st2,f2,q2⟩=>?_;subst e;refine thn (zJg (Q:=Q) (RR:=fun C r s'=>compPost (model X.prog X.w) X.A X.xe none (EP X pins σ Q) (.ref s2.heap.objs.size) C r s') S hfl hg ht he I2 T st2 f2 q2 fun C s4 H4 c1 c2 I4 q4 n4 hm=>?_) fun acc s3 h3=>thn h3 fun cenv s4 h4=>rP h4 fun r s' ⟨ea,hr⟩=>?_
 ·obtain⟨m,hn⟩:=hm
  exact⟨m,hn,fun h' hs'=>⟨.ref s2.heap.objs.size,H4,zCt I2 c1 I4 n4 hs',rfl,q4⟩⟩
 ·rw[ea];exact hr
theorem zVq{i:Nat}{x:Str}{pos' spos:Pos}(hN:X.N.Nodup)(hi':X.N[i]? =some x)(hx:Loc X.env.scope x)(S:CompSc X scope own F)(hc:X.cool=true)(hi:PI X tg iter wi)
  (hg:∀C s₃ H₃ ex,PG (xM X own F scope C s₃ H₃ ex) tg g) (ht:∀C s₃ H₃ ex,PTs (xM X own F scope C s₃ H₃ ex) ifs tt) (he:∀C s₃ H₃ ex,PE (xM X own F scope C s₃ H₃ ex) elt te)
  (hsw:swapsWith (.ListComp elt [⟨tg,iter,ifs,0⟩] scope pos) (some (.Name x pos')) spos.line X.env=pure true:=by rfl)
  (hs:∀x,foldedSetIterable iter X.env x=pure x:=by intro _;rfl) (hf:X.fn x=true∨X.env.scope.names.lookup x=some .local:=by first | exact .inl rfl | exact .inr rfl | assumption):
  PS X (.Assign [.Name x pos'] (.ListComp elt [⟨tg,iter,ifs,0⟩] scope pos) spos) (zGy (kX own F wi g tt te) (qC i)):=by
 intro pins s σ H D I h;rw[exec_Assign_Name_used x pos' _ _ hsw];refine mD (sX (mD ?_));refine mD ?_;refine pV (Q:=fun _ s'=>SP X pins D .next s') ?_ (fun _ s' q=>mO (mO q)) fun _ _ z=>z;refine wpAny_comprehension_free (use:=some (assign (.Name x pos') X.env)) rfl hs (jV (I.freeCells S)) S.kind S.lc ?_;refine thn (hi pins s σ H _ I h) fun v s1 h1=>thn h1 fun itv s2 ⟨it,fp,tn,J,H2,e,I2,⟨fl,hfl,T⟩,st2,f2,q2⟩=>?_;subst e;refine thn (zJg (Q:=fun x H1=>qC i x σ H1 D.nx) (RR:=fun C r s'=>compPost (model X.prog X.w) X.A X.xe (some (assign (.Name x pos') X.env)) (fun _ s'=>SP X pins D .next s') (.ref s2.heap.objs.size) C r s') S hfl hg ht he I2 T st2 f2 q2 fun C s4 H4 c1 c2 I4 q4 n4 hm=>?_) fun acc s3 h3=>thn h3 fun cenv s4 h4=>rP h4 fun r s' ⟨ea,hr⟩=>?_
 ·obtain⟨m,hn⟩:=hm
  refine wpAny_assign_Name (zDx I4 hN hi' hx (v:=.ref s2.heap.objs.size) rfl (fun s5 I5 ⟨a,sb,ha⟩=>?_) hf);have aC:a≠C:=by
   rcases ha with z | z
   ·rw[z];exact nQ (mX I2.lt c1)
   ·obtain⟨v,u⟩:=I2.cell _ _ z
    exact nQ (mX u.lt c1)
  exact⟨m,hn.sameBut sb (Ne.symm aC),fun h' hs'=>⟨_,H4,zCt I2 c1 I5 n4 hs',q4⟩⟩
 ·rw[ea];exact hr
end
inductive T where
 | non | bl (b:Bool)| int (i:Int)| str (x:List Nat)| lst (ts:List T)| dic (ks:List (List Nat)) (ts:List T)| tup (ts:List T)
mutual
def Rep(H:Hp):V→T→Prop
 | v, .non=>v= .non
 | v, .bl b=>v= .bl b
 | v, .int i=>v= .int i
 | v, .str x=>v= .str (tx x)
 | v, .lst ts=>∃a vs,v= .ref a∧H a=some (.lst vs)∧Reps H vs ts
 | v, .dic ks ts=>∃a ps,v= .ref a∧H a=some (.dK ps)∧ps.map (·.1)=ks.map (fun k=>(Sum.inr (tx k):Key))∧Reps H (ps.map (·.2)) ts
 | v, .tup ts=>∃a vs,v= .ref a∧H a=some (.tup vs)∧Reps H vs ts
def Reps(H:Hp):List V→List T→Prop
 | vs,[]=>vs= []
 | vs,t::ts=>∃v r,vs=v::r∧Rep H v t∧Reps H r ts
end
mutual
theorem Rep.same{H H':Hp}(e:Same H H'):∀(v:V)(t:T),Rep H v t→Rep H' v t
 | _, .non,h=>h
 | _, .bl _,h=>h
 | _, .int _,h=>h
 | _, .str _,h=>h
 | _, .lst ts,⟨a,vs,h1,h2,h3⟩=>⟨a,vs,h1,e _ _ h2,Reps.same e vs ts h3⟩
 | _, .dic ks ts,⟨a,ps,h1,h2,h3,h4⟩=>⟨a,ps,h1,e _ _ h2,h3,Reps.same e _ ts h4⟩
 | _, .tup ts,⟨a,vs,h1,h2,h3⟩=>⟨a,vs,h1,e _ _ h2,Reps.same e vs ts h3⟩
theorem Reps.same{H H':Hp}(e:Same H H'):∀(vs:List V)(ts:List T),Reps H vs ts→Reps H' vs ts
 | _,[],h=>h
 | _,t::ts,⟨v,r,h1,h2,h3⟩=>⟨v,r,h1,Rep.same e v t h2,Reps.same e r ts h3⟩
end
theorem Reps.snoc{H:Hp}{v:V}{t:T}(h:Rep H v t):∀{vs:List V}{ts:List T},Reps H vs ts→Reps H (vs++ [v]) (ts++ [t])
 | _,[],e=>by
  have e':_= []:=e;subst e';exact⟨v,[],rfl,h,rfl⟩
 | _,t'::ts,⟨v',r,h1,h2,h3⟩=>by
  subst h1;exact⟨v',r++ [v],rfl,h2,Reps.snoc h h3⟩
theorem Reps.length{H:Hp}:∀{vs:List V}{ts:List T},Reps H vs ts→vs.length=ts.length
 | _,[],e=>by
  have e':_= []:=e;subst e';rfl
 | _,t'::ts,⟨v',r,h1,h2,h3⟩=>by
  subst h1;simp[Reps.length h3]
theorem Reps.get{H:Hp}:∀{vs:List V}{ts:List T}{i:Nat}{v:V},Reps H vs ts→vs[i]? =some v→∃t,ts[i]? =some t∧Rep H v t
 | _,[],i,v,e,h=>by
  have e':_= []:=e;subst e';simp at h
 | _,t'::ts,0,v,⟨v',r,h1,h2,h3⟩,h=>by
  subst h1;simp at h;subst h;exact⟨t',rfl,h2⟩
 | _,t'::ts,i+1,v,⟨v',r,h1,h2,h3⟩,h=>by
  subst h1;obtain⟨t,e,q⟩:=Reps.get (i:=i) (v:=v) h3 (by simpa using h);exact⟨t,by simpa using e,q⟩
def tyT:T→String
 | .non=>"NoneType"
 | .bl _=>"bool"
 | .int _=>"int"
 | .str _=>"str"
 | .lst _=>"list"
 | .dic _ _=>"dict"
 | .tup _=>"tuple"
theorem Rep.ty{H:Hp}{v:V}:∀{t:T},Rep H v t→tyS H v=some (tyT t)
 | .non,h=>by cases (show v= .non from h);rfl
 | .bl b,h=>by cases (show v= .bl b from h);rfl
 | .int i,h=>by cases (show v= .int i from h);rfl
 | .str x,h=>by cases (show v= .str (tx x) from h);rfl
 | .lst ts,h=>by obtain⟨a,vs,e,h2,_⟩:=h;subst e;show(match H a with | some (.lst _)=>some "list" | some (.tup _)=>some "tuple" | some (.dK _)=>some "dict" | _=>none)=_;rw[h2];rfl
 | .dic ks ts,h=>by obtain⟨a,vs,e,h2,_⟩:=h;subst e;show(match H a with | some (.lst _)=>some "list" | some (.tup _)=>some "tuple" | some (.dK _)=>some "dict" | _=>none)=_;rw[h2];rfl
 | .tup ts,h=>by obtain⟨a,vs,e,h2,_⟩:=h;subst e;show(match H a with | some (.lst _)=>some "list" | some (.tup _)=>some "tuple" | some (.dK _)=>some "dict" | _=>none)=_;rw[h2];rfl
def letL:List Nat:=(List.range 26).map (· +97)
def yX:List Nat:=(List.range 10).map (· +48)
def wJ:List Nat:=((List.range 95).map (· +32)).filter (· !=37)
def gG(w:List Nat):Bool:=decide (1≤w.length)&& decide (w.length≤12)&& (match w with | []=>false | c::_=>decide (c∈letL))&& w.all (fun c=>decide (c∈letL++yX))
def zCx(w:List Nat):Bool:=decide (w.length≤30)&& w.all (fun c=>decide (c∈wJ))
theorem zH{H:Hp}{p:Addr}(h:H p=none)(o:HO):Same H (upd H p o):=fun b u q=>by rw[zL (yI q h)];exact q
section
variable{K:W.Frag}{H:Hp}{Q:VK}{a b:Addr}{xs ys:List V}
theorem zSo{neg:Bool}(h1:SqL K H a xs)(h2:SqL K H b ys)(f1:xs.all wV=true)(f2:ys.all wV=true)(q:Q (.bl (if neg then !zAu xs ys else zAu xs ys)) H):rEqL K neg (.ref a) (.ref b) H Q:=
 ⟨a,b,xs,ys,rfl,rfl,h1,h2,f1,f2,q⟩
theorem zW{i:Int}{v:V}(h1:SqL K H a xs)(h2:atI xs i=some v)(q:Q v H):zGb K (.ref a) (.int i) H Q:=⟨a,xs,i,v,rfl,rfl,h1,h2,q⟩
theorem yC{i:Int}{v:V}(h1:SqT K H a xs)(h2:atI xs i=some v)(q:Q v H):zNu K (.ref a) (.int i) H Q:=⟨a,xs,i,v,rfl,rfl,h1,h2,q⟩
theorem xA{z:Str}{i:Int}{c:Nat}(h1:z.length≤sizeLine)(h2:atI (ts z) i=some c)(q:Q (.str (tx [c])) H):rIxS (.str z) (.int i) H Q:=⟨z,i,c,rfl,rfl,h1,h2,q⟩
end
theorem wZ{α:Type}{xs:List α}{i:Int}(h0:0≤i)(h1:i<xs.length):∃v,atI xs i=some v∧v∈xs:=by
 obtain⟨j,rfl⟩:=rT h0;have hj:j<xs.length:=by lia
 exact⟨xs[j],yE (by simp[hj]),aD hj⟩
theorem uK{α:Type}{xs:List α}{i:Int}{d:α}(h0:0≤i)(h1:i<xs.length):atI xs i=some (xs.getD i.toNat d):=by
 obtain⟨j,rfl⟩:=rT h0;have hj:j<xs.length:=by lia
 refine yE ?_;simp[List.getD,hj]
theorem zFg{x:Str}{F:List (Str×Nat)}{J:It}{n:Nat}{tt:TT}{te:TE}{σ:St}{Q:VK}{H1:Hp}(Pv:Nat→List V→Hp→Prop)(hn:n≤sizeLine)(h0:Pv 0 [] H1)(hgo:∀i ys H,i<n→Pv i ys H→J.go i H)
  (hst:∀ys H,Pv n ys H→J.stop n H)
  (hs:∀i ys H y H2,i<n→ys.length≤i→Pv i ys H→J.yld i H y H2→tt (some y::F.map (fun p=>(σ[p.2]?).join)) H2 fun b H3=>if b=true then te (some y::F.map (fun p=>(σ[p.2]?).join)) H3 fun z H4=>Pv (i+1) (ys++ [z]) H4 else Pv (i+1) ys H3)
  (hd:∀ys H,ys.length≤n→Pv n ys H→∀p,H p=none→Q (.ref p) (upd H p (.lst ys))):qR [x] F (qC 0) tt te σ Q J H1:=by
 refine⟨fun i m ys H=>m=n - i∧i≤n∧Pv i ys H,⟨n,by simp,rK _,h0⟩, ?_⟩;rintro i m ys H ⟨rfl,hi,p⟩ hl
 by_cases hlt:i<n
 ·refine .inr ⟨hgo i ys H hlt p,by lia,Pv (i+1),fun ys' H'' q=>⟨n - (i+1),by lia,rfl,hlt,q⟩,fun y H2 hy=>?_⟩
  exact⟨zUw (i:=0) rfl,hs i ys H y H2 hlt hl p hy⟩
 ·have e:i=n:=by lia
  subst e;exact .inl ⟨hst ys H p,hn,hd ys H hl p⟩
theorem uG{x:Str}{F:List (Str×Nat)}{lo:Int}{n:Nat}{te:TE}{σ:St}{Q:VK}{H1:Hp}(Pv:Nat→List V→Hp→Prop)(hn:n≤sizeLine)(h0:Pv 0 [] H1)
  (hs:∀(i:Nat) ys H,i<n→ys.length≤i→Pv i ys H→te (some (.int (lo+i))::F.map (fun p=>(σ[p.2]?).join)) H fun z H4=>Pv (i+1) (ys++ [z]) H4)
  (hd:∀ys H,ys.length≤n→Pv n ys H→∀p,H p=none→Q (.ref p) (upd H p (.lst ys))):qR [x] F (qC 0) zDv te σ Q (Itr lo n) H1:=
 zFg Pv hn h0 (fun i _ _ h _=>h) (fun _ _ _=>mL _) (fun i ys H y H2 h1 h2 h3 h4=>by
  obtain⟨rfl,rfl⟩:=h4;exact hs i ys _ h1 h2 h3) hd
theorem zDh{x:Str}{F:List (Str×Nat)}{w:Str}{tt:TT}{te:TE}{σ:St}{Q:VK}{H1:Hp}(Pv:Nat→List V→Hp→Prop)(hn:(ts w).length≤sizeLine)(h0:Pv 0 [] H1)
  (hs:∀i c ys H,(ts w)[i]? =some c→ys.length≤i→Pv i ys H→tt (some (.str (tx [c]))::F.map (fun p=>(σ[p.2]?).join)) H fun b H3=>if b=true then te (some (.str (tx [c]))::F.map (fun p=>(σ[p.2]?).join)) H3 fun z H4=>Pv (i+1) (ys++ [z]) H4 else Pv (i+1) ys H3)
  (hd:∀ys H,ys.length≤(ts w).length→Pv (ts w).length ys H→∀p,H p=none→Q (.ref p) (upd H p (.lst ys))):qR [x] F (qC 0) tt te σ Q (Its w) H1:=
 zFg Pv hn h0 (fun i _ _ h _=>h) (fun _ _ _=>mL _) (fun i ys H y H2 h1 h2 h3 h4=>by
  obtain⟨rfl,c,hc,rfl⟩:=h4;exact hs i c ys _ hc h2 h3) hd
section
variable{X:Cx}{x:Str}{pos:Pos}
theorem kY{z:Str}(hg:Gl X x)(h:∃t,X.mg x=some (.str z t))(hd:(x==("__debug__" :Str))=false:=by decide):PE X (.Name x pos) (tC (.str z)):=by
 obtain⟨t,h⟩:=h;exact jL hg h ⟨t,rfl⟩ hd
theorem qX{z:Int}(hg:Gl X x)(h:∃t,X.mg x=some (.int z t))(hd:(x==("__debug__" :Str))=false:=by decide):PE X (.Name x pos) (tC (.int z)):=by
 obtain⟨t,h⟩:=h;exact jL hg h ⟨t,rfl⟩ hd
end
theorem zRz{CX:CXT}{P:Program}{w:World}{K:W.Frag}{mg:Str→Option Value}{base:Heap}{N:List Str}{qual:Str}{scope:Scope}{f:Addr}{cd:Value}{A:Around}{outer:List Env}{s:Shared}{H:Hp}{E:XK}:(zBk CX P w K mg base N qual scope f cd A outer s H E).K=K:=rfl
theorem zXu{X:Cx}:X.nox.K=X.K:=rfl
theorem zIl{X:Cx}{own:List Str}{F:List (Str×Nat)}{scope:Scope}{C:Addr}{s₃:Shared}{H₃:Hp}{ex:List Addr}:(xM X own F scope C s₃ H₃ ex).K=X.K:=rfl
theorem zPm(ns:List Int):(ns.map V.int).all wV=true:=by
 rw[aQ];exact pH.mpr fun _ _=>rfl
theorem zEf(ns:List Str):(ns.map V.str).all wV=true:=by
 rw[aQ];exact pH.mpr fun _ _=>rfl
theorem zQo(xs:List V):zAu xs []=xs.isEmpty:=by cases xs<;>rfl
end L2
namespace L2
theorem zHl:Int.natAbs 10=10:=rfl
end L2
namespace L2
open PySem PySem.Spec PyProof.Rows
def yAu(g:TG)(tb:TS)(D:uZ)(σ:St)(J:It)(H1:Hp):Prop:=∃W:Nat→Nat→St→Hp→Prop,(∃m,W 0 m σ H1)∧∀i m σ H,W i m σ H→
 (J.stop i H∧D.nx σ H)∨(J.go i H∧∃N:St→Hp→Prop,(∀σ' H',N σ' H'→∃m',m'<m∧W (i+1) m' σ' H')∧∀x H',J.yld i H x H'→g x σ H' fun σ2 H2=>tb {D with nx:=N,ct:=N,bk:=D.nx} σ2 H2)
theorem zLm(wi:TI)(g:TG)(tb:TS)(D:uZ)(σ:St)(H:Hp):tFor wi g tb D σ H=wi σ H fun J H1=>yAu g tb D σ J H1:=rfl
theorem zCe{lo:Int}{n:Nat}{g:TG}{tb:TS}{D:uZ}{σ:St}{H:Hp}(Pv:Nat→St→Hp→Prop)(h0:Pv 0 σ H)
  (hs:∀i σ H,i<n→Pv i σ H→g (.int (lo+i)) σ H fun σ2 H2=>tb {D with nx:=Pv (i+1),ct:=Pv (i+1),bk:=D.nx} σ2 H2) (hd:∀σ H,Pv n σ H→D.nx σ H):yAu g tb D σ (Itr lo n) H:=zPa Pv h0 hs hd
theorem zOv{K:W.Frag}{a:Addr}{xs:List V}{g:TG}{tb:TS}{D:uZ}{σ:St}{H:Hp}(Pv:Nat→St→Hp→Prop)(h0:Pv 0 σ H)(hl:∀i σ H,i≤xs.length→Pv i σ H→SqL K H a xs)
  (hs:∀i x σ H,xs[i]? =some x→Pv i σ H→g x σ H fun σ2 H2=>tb {D with nx:=Pv (i+1),ct:=Pv (i+1),bk:=D.nx} σ2 H2) (hd:∀σ H,Pv xs.length σ H→D.nx σ H):yAu g tb D σ (Itl K a) H:=zUu Pv h0 hl hs hd
section
variable{X:Cx}
theorem yZ:wK X (.type "int") (fun xs H Q=>∃k,xs= [.bl k]∧Q (.int (if k then 1 else 0)) H):=fun pins s σ H xs us Q I r h=>zNo pins s σ H xs us Q I r (.inr h)
theorem yH:wK X (.builtin "len") (fun xs H Q=>∃p,xs= [.ref p]∧∃ys,SqL X.K H p ys∧Q (.int ys.length) H):=fun pins s σ H xs us Q I r ⟨p,e,ys,h,q⟩=>zFo pins s σ H xs us Q I r ⟨p,ys,e, .inl h,q⟩
end
abbrev nK(k:List Nat):Key:=Sum.inr (tx k)
theorem zKr{a b:List Nat}(h:nK a=nK b):a=b:=by
 have e:tx a=tx b:=Sum.inr.inj h;rw[←yJ a,e,yJ]
theorem zBe:ts (Str.ofString "abcdefghijklmnopqrstuvwxyz0123456789")=letL++yX:=by decide+kernel
theorem ts_a:ts (Str.ofString "a")= [97]:=by decide+kernel
theorem ts_q:ts (Str.ofString "'")= [39]:=by decide+kernel
theorem zTn:Str.ofString "" =tx []:=by decide+kernel
theorem qK(c k:Nat):(List.replicate k [c]).flatten=List.replicate k c:=by
 induction k with
 | zero=>rfl
 | succ k ih=>rw[pU,aY,ih,pU];rfl
theorem zDt{w:List Nat}(h1:w.length≤12)(h3:∃c r,w=c::r∧c∈letL)(h4:∀c∈w,c∈letL++yX):gG w=true:=by
 obtain⟨c,r,rfl,hc⟩:=h3;unfold gG;simp only[rC,pQ,pH];exact⟨⟨⟨by simp,h1⟩,hc⟩,h4⟩
theorem zEj{w:List Nat}(h1:w.length≤30)(h4:∀c∈w,c∈wJ):zCx w=true:=by
 unfold zCx;simp only[rC,pQ,pH];exact⟨h1,h4⟩
theorem yAr{i:Int}(h0:0≤i)(h1:i<36):∃c,atI (letL++yX) i=some c∧c∈letL++yX:=wZ h0 (by show i<((36:Nat):Int);lia)
theorem zSu{i:Int}(h0:0≤i)(h1:i<26):∃c,atI (letL++yX) i=some c∧c∈letL:=by
 obtain⟨j,rfl⟩:=rT h0;have hj:j<26:=by lia
 have hj':j<letL.length:=hj;refine⟨letL[j],yE (by rw[nM hj'];simp[hj']),aD hj'⟩
theorem zJy:97∈letL:=by decide
theorem kH{c:Nat}(h:c∈letL):c∈letL++yX:=sD _ h
end L2
namespace L2
end L2
namespace L2
open PySem PySem.Spec PyProof.Rows
theorem yBd:Str.ofString " !\"#$&'()*+,-./0123456789:;<=>?@ABCDEFGHIJKLMNOPQRSTUVWXYZ[\\]^_`" ++Str.ofString "abcdefghijklmnopqrstuvwxyz{|}~" =tx wJ:=by decide+kernel
theorem zKi:39∈wJ:=by decide
theorem zSk{i:Int}(h0:0≤i)(h1:i<94):∃c,atI wJ i=some c∧c∈wJ:=wZ h0 (by show i<((94:Nat):Int);lia)
theorem qB(cs:List Nat):((cs.map fun c=>tx [c]).map ts).flatten=cs:=by
 induction cs with
 | nil=>rfl
 | cons d r ih=>simp only[mY,aY,ih,yJ];rfl
theorem HOk.sim{P:Program}{w:World}{H H':Hp}{h:Heap}(ok:HOk P w H h)(ho:∀b a,H b=some (.own a)→H' b=some (.own a))(ht:∀b xs,H b=some (.tup xs)→H' b=some (.tup xs))
  (hs:∀b u,H' b=some u→H b=some u∨(∃o,H b=some (.frz o u))∨∃o u',u= .frz o u'∧H b=some u'∧h.get? b=some o):HOk P w H' h:=fun b u e=>by
 rcases hs b u e with q |⟨o,q⟩|⟨o,u',rfl,q,g⟩
 ·exact(ok b u q).stay (fun _ _ _ z=>z) (fun c z=>ho c b z) fun c xs z=>ht c xs z
 ·obtain⟨_,z⟩:=(show ObjOk P w H h b (.frz o u) from ok b _ q)
  exact z.stay (fun _ _ _ z=>z) (fun c z=>ho c b z) fun c xs z=>ht c xs z
 ·exact⟨g,(ok b u' q).stay (fun _ _ _ z=>z) (fun c z=>ho c b z) fun c xs z=>ht c xs z⟩
section
variable{X:Cx}{pins:List (Addr×Obj)}{σ σ':St}{H H':Hp}{s s':Shared}
theorem Inv.sim(I:Inv X pins σ H s)(hn:∀b,H b=none→H' b=none)(ho:∀b a,H b=some (.own a)→H' b=some (.own a))(ht:∀b xs,H b=some (.tup xs)→H' b=some (.tup xs))
  (hb:∀b ps,H b=some (.tbl ps)→H' b=some (.tbl ps)) (hf:∀b o u,X.H₀ b=some (.frz o u)→H' b=some (.frz o u))
  (hs:∀b u,H' b=some u→H b=some u∨(∃o,H b=some (.frz o u))∨∃o u',u= .frz o u'∧H b=some u'∧s.heap.get? b=some o):Inv X pins σ H' s:=
 ⟨I.ok,I.os,I.bare,⟨I.base.keep,I.base.slot,fun b o e n hx=>hn b (I.base.free b o e n hx),I.base.there,fun b xs e=>ht b xs (I.base.tups b xs e),hf,fun b ps e=>by
  obtain⟨m,q⟩:=I.base.tbls b ps e;exact⟨m,hb b _ q⟩⟩,I.loc,I.cell,hn _ I.free,fun x c e=>hn _ (I.freeC x c e),fun p hp=>by
  obtain⟨a,b,c,d,e⟩:=I.pin p hp;exact⟨a,hn _ b,c,d,e⟩,I.hok.sim ho ht hs,I.len⟩
theorem Inv.freeze{d:Addr}{kvs:List (Key×V)}{o:Obj}(I:Inv X pins σ H s)(h:H d=some (.dK kvs))(hg:s.heap.get? d=some o):Inv X pins σ (upd H d (.frz o (.dK kvs))) s:=by
 have ne:∀b u,H b=u→u≠some (.dK kvs)→b≠d:=fun b u e n z=>by subst z;exact n (e.symm.trans h)
 refine I.sim (fun b e=>by rw[zL (ne b _ e (by intro z;cases z))];exact e) (fun b a e=>by rw[zL (ne b _ e (by intro z;cases z))];exact e) (fun b a e=>by rw[zL (ne b _ e (by intro z;cases z))];exact e)
  (fun b a e=>by rw[zL (ne b _ e (by intro z;cases z))];exact e) (fun b o' u e=>?_) fun b u e=>?_
 ·have e':=I.base.frzs b o' u e
  rw[zL (ne b _ e' (by intro z;cases z))];exact e'
 ·by_cases hb:b=d
  ·subst hb
   rw[zF] at e;cases e;exact .inr (.inr ⟨o,_,rfl,h,hg⟩)
  ·rw[zL hb] at e;exact .inl e
def thaw(H H':Hp):Hp:=fun b=>match H b with
 | some (.frz _ _)=>H' b
 | _=>match H' b with
  | some (.frz _ u)=>some u
  | y=>y
theorem zJp{b:Addr}{o:Obj}{u:HO}(h:H b=some (.frz o u)):thaw H H' b=H' b:=by unfold thaw;rw[h]
theorem zPe{b:Addr}(h:H' b=none):thaw H H' b=none:=by unfold thaw;rw[h];split<;>rfl
theorem uD{b:Addr}{u:HO}(h:H' b=some u)(n:∀o v,u≠ .frz o v):thaw H H' b=some u:=by
 unfold thaw;rw[h];split
 ·rfl
 ·cases u<;>first | rfl | exact absurd rfl (n _ _)
theorem zVs{b:Addr}{o:Obj}{u:HO}(h:H' b=some (.frz o u))(n:∀o v,H b≠some (.frz o v)):thaw H H' b=some u:=by
 unfold thaw;rw[h]
 cases e:H b with
 | none=>rfl
 | some v=>cases v<;>first | rfl | exact absurd e (n _ _)
theorem zPw{b:Addr}{u:HO}(h:thaw H H' b=some u):H' b=some u∨∃o,H' b=some (.frz o u):=by
 unfold thaw at h;split at h
 ·exact .inl h
 ·split at h
  ·rename_i o v e
   cases h;exact .inr ⟨_,e⟩
  ·exact .inl h
theorem Inv.thaw(I:Inv X pins σ H s)(J:Inv X pins σ' H' s'):Inv X pins σ' (thaw H H') s':=
 J.sim (fun b e=>zPe e) (fun b a e=>uD e (by intro o v z;cases z)) (fun b a e=>uD e (by intro o v z;cases z)) (fun b a e=>uD e (by intro o v z;cases z))
  (fun b o u e=>by rw[zJp (I.base.frzs b o u e)];exact J.base.frzs b o u e) fun b u e=>(zPw e).imp id .inl
theorem zOo{H H':Hp}(h:∀b u,H b=some u→H' b=some u∨((∃o,H' b=some (.frz o u))∧∀o v,u≠ .frz o v)):Same H (L2.thaw H H'):=fun b u e=>by
 rcases h b u e with q |⟨⟨o,q⟩,n⟩
 ·cases u with
  | frz o v=>rw[zJp e];exact q
  | _=>exact uD q (by intro o v z;cases z)
 ·refine zVs q fun o' v z=>?_
  rw[e] at z;cases z;exact n _ _ rfl
def zHg(t:TE):TE:=fun σ H Q=>t σ H fun v H'=>Q v (thaw H H')
theorem zFz{e:Expr}{t:TE}(h:PE X e t):PE X e (zHg t):=by
 intro pins s σ H Q I q;refine thn (h pins s σ H _ I q) fun u s1 ⟨v,H1,I1,r,q1⟩=>⟨v,_,I.thaw I1,r,q1⟩
end
theorem KV.get{κ:Type}:∀{kvs:List (κ×V)}{vs:List (κ×Value)}{i:Nat}{kv:κ×V},KV kvs vs→kvs[i]? =some kv→∃q,vs[i]? =some q∧kv.1=q.1∧RelV kv.2 q.2
 | _,_,_,_, .nil,e=>by simp at e
 | _,_,0,_, .cons r _,e=>by simp at e;subst e;exact⟨_,rfl,r⟩
 | _,_,i+1,x, .cons _ t,e=>by
  obtain⟨u,h1,h2⟩:=KV.get (i:=i) (kv:=x) t (by simpa using e);exact⟨u,by simpa using h1,h2⟩
theorem zMv{P:Program}{w:World}{k:Key}{u:Value}(h:(yQ P w).is k u=true):RelV (kV k) u:=by
 rcases xD (show zBt k u=true from h) with⟨i,t,rfl,rfl⟩|⟨x,t,rfl,rfl⟩
 ·exact⟨t,rfl⟩
 ·exact⟨t,rfl⟩
theorem zEr{P:Program}{w:World}{H:Hp}{h:Heap}{d:Addr}{o:Obj}{kvs:List (Key×V)}{es:Array DictEntry}{ep:Nat}(ok:HOk P w H h)(e:H d=some (.frz o (.dK kvs)))(he:o.data= .dict es ep):
  ∃vs,KV kvs vs∧h.DictAt (yQ P w) d vs ep∧(d==sysModules)=false∧kvs.length≤sizeLine:=by
 obtain⟨g,z,hd,vs,rel,o',es',ep',ho,c,hdat,r⟩:=(show ObjOk P w H h d (.frz o (.dK kvs)) from ok d _ e);rw[g] at ho;cases ho;rw[he] at hdat;cases hdat;exact⟨vs,rel,⟨o,es,g,c,he,r⟩,hd,z⟩
def Itd(d:Addr)(o:Obj)(kvs:List (Key×V)):It:=
 ⟨fun i H=>i<kvs.length∧H d=some (.frz o (.dK kvs)),fun i H y H'=>H'=H∧∃kv,kvs[i]? =some kv∧y=kV kv.1,fun i H=>kvs.length≤i∧H d=some (.frz o (.dK kvs))⟩
theorem zOw{P:Program}{w:World}{K:W.Frag}{tg:Expr}(d it:Addr)(o:Obj)(kvs:List (Key×V)):Turn P w K tg (Itd d o kvs) [it] it (fun i h=>∃es ep,o.data= .dict es ep∧h.IsKeyIter it d i kvs.length ep) where
 mem:=by simp
 obj:=fun i h st b hb=>by
  obtain⟨es,ep,_,ob,e,c,dd⟩:=st;have e':b=it:=by simpa using hb
  subst e';exact⟨ob,e,fun v z=>by rw[dd] at z;cases z⟩
 keep:=fun i h h' st k=>by
  obtain⟨es,ep,a,st⟩:=st;exact⟨es,ep,a,st.at fun ob e=>k it (by simp) ob e⟩
 item:=by
  intro X hP hw hK hc i pins s σ H E I hf st hg;subst hP hw hK;obtain⟨es,ep,hes,st⟩:=st;obtain⟨hi,hg⟩:=hg;obtain⟨vs,rel,hm,_,_⟩:=zEr I.hok hg hes;obtain⟨f0,f1,f2,f3,f4,f5⟩:=hf it (by simp);have hl:=rel.length;obtain⟨kv,hkv⟩:∃kv,kvs[i]? =some kv:=⟨kvs[i],by simp[hi]⟩;obtain⟨q,hq,hq1,hq2⟩:=KV.get rel hkv;rw[hl] at st;refine wpAny_pyNext_dict_item (k:=q.1) (v:=q.2) st hm hq fun key h' hk st' sb=>?_;have I1:Inv X pins σ H {s with heap:=h'}:=I.turned (t':=s.toks) (fun b o hb e=>(sb.2 b hb).trans e) f0 f1 f3 f4 f5;obtain⟨ob,e,c,dd⟩:=id st';exact⟨key,rfl,zLy (s:={s with heap:=h'}) e c dd (by decide) ⟨kV kv.1,H,I1,by rw[hq1];exact zMv hk,⟨rfl,kv,hkv,rfl⟩,⟨es,ep,hes,by rw[hl];exact st'⟩,fun b hb=>(hf b hb).1⟩⟩
 done:=by
  intro X hP hw hK hc i pins s σ H E I hf st hg;subst hP hw hK;obtain⟨es,ep,hes,st⟩:=st;obtain⟨hi,hg⟩:=hg;obtain⟨vs,rel,hm,_,_⟩:=zEr I.hok hg hes;obtain⟨f0,f1,f2,f3,f4,f5⟩:=hf it (by simp);have hl:=rel.length;rw[hl] at st;exact wpAny_pyNext_dict_end (I.ok.hd.1 hc) st hm (by simp;lia) fun h' eb=>⟨rfl,I.turned (t':=s.toks) (fun b o hb e=>eb b o hb e) f0 f1 f3 f4 f5⟩
 self:=fun _ _ _ _ _ st h=>by
  obtain⟨es,ep,_,st⟩:=st;exact wpAny_pyIter_keyiter st h
def zHn(tl:TE):TI:=fun σ H R=>tl σ H fun x H1=>∃d kvs,x= .ref d∧((H1 d=some (.dK kvs)∧∀o,R (Itd d o kvs) (upd H1 d (.frz o (.dK kvs))))∨∃o,H1 d=some (.frz o (.dK kvs))∧R (Itd d o kvs) H1)
section
variable{X:Cx}
theorem zGo{tg l:Expr}{tl:TE}(hl:PE X l tl)(hcl:X.calm=true:=by rfl):PI X tg l (zHn tl):=by
 intro pins s σ H R I h;refine thn (hl pins s σ H _ I h) fun v s1 ⟨x,H1,I1,r1,q1⟩=>?_;obtain⟨d,kvs,rfl,q⟩:=q1;cases r1;have fin:∀o H2,Inv X pins σ H2 s1→H2 d=some (.frz o (.dK kvs))→R (Itd d o kvs) H2→wpAny (model X.prog X.w) X.A (pyIter (.ref d)) (PIE X pins σ tg R) X.xe s1:=fun o H2 I2 e q=>by
  obtain⟨g,z,hd,vs,rel,o',es,ep,ho,c,hdat,r⟩:=(show ObjOk X.prog X.w H2 s1.heap d (.frz o (.dK kvs)) from I2.hok d _ e);rw[g] at ho;cases ho;have hm:s1.heap.DictAt (yQ X.prog X.w) d vs ep:=⟨o,es,g,c,hdat,r⟩;refine wpAny_pyIter_dict hd hm ?_;refine⟨s1.heap.objs.size,[s1.heap.objs.size],_,_,H2,rfl,I2.kept (t':=s1.toks) fun b o e=>mI _ e,⟨false,hcl,zOw d _ o kvs⟩,⟨es,ep,hdat,_,nI _ rfl,rfl,by rw[rel.length];rfl⟩,fun b hb=>?_,q⟩;have e:b=s1.heap.objs.size:=by simpa using hb
  subst e;exact I2.fpOk (mL _) (I2.hok.fresh (mL _))
 rcases q with⟨e,q⟩|⟨o,e,q⟩
 ·obtain⟨z,hd,vs,rel,o,es,ep,ho,_⟩:=(show ObjOk X.prog X.w H1 s1.heap d (.dK kvs) from I1.hok d _ e)
  exact fin o _ (I1.freeze e ho) zF (q o)
 ·exact fin o _ I1 e q
theorem zOl{x:Str}{F:List (Str×Nat)}{d:Addr}{o:Obj}{kvs:List (Key×V)}{tt:TT}{te:TE}{σ:St}{Q:VK}{H1:Hp}(Pv:Nat→List V→Hp→Prop)(hn:kvs.length≤sizeLine)(h0:Pv 0 [] H1)(hz:∀i ys H,Pv i ys H→H d=some (.frz o (.dK kvs)))
  (hs:∀i kv ys H,kvs[i]? =some kv→ys.length≤i→Pv i ys H→tt (some (kV kv.1)::F.map (fun p=>(σ[p.2]?).join)) H fun b H3=>if b=true then te (some (kV kv.1)::F.map (fun p=>(σ[p.2]?).join)) H3 fun z H4=>Pv (i+1) (ys++ [z]) H4 else Pv (i+1) ys H3)
  (hd:∀ys H,ys.length≤kvs.length→Pv kvs.length ys H→∀p,H p=none→Q (.ref p) (upd H p (.lst ys))):qR [x] F (qC 0) tt te σ Q (Itd d o kvs) H1:=
 zFg Pv hn h0 (fun i ys H h p=>⟨h,hz i ys H p⟩) (fun ys H p=>⟨mL _,hz _ ys H p⟩) (fun i ys H y H2 h1 h2 h3 h4=>by
  obtain⟨rfl,kv,hkv,rfl⟩:=h4;exact hs i kv ys _ hkv h2 h3) hd
def valsO(p d:Addr):HO:=.ext fun h=>h.IsValuesView p d
def zMz:V→List V→Hp→VK→Prop:=fun x vs H Q=>∃d kvs,x= .ref d∧vs= []∧Rd H d (.dK kvs)∧∀p,H p=none→Q (.ref p) (upd H p (valsO p d))
end
section
variable{prog:Program}{w:World}{A:Around}{E:Value→Shared→Prop}
end
section
variable{X:Cx}
end
structure Bl2(mg:Str→Option Value):Prop extends Bl mg where
 max:mg "max" =none
 min:mg "min" =none
 sorted:mg "sorted" =none
def mxI(b z:Int):Int:=if z>b then z else b
def mxD(k:Int):List Int→Int
 | []=>k
 | b::r=>r.foldl mxI b
section
variable{prog:Program}{w:World}{A:Around}
end
section
variable{X:Cx}
def zJo(K:W.Frag):V→V→Hp→VK→Prop:=fun x y H Q=>∃(p:Addr)(ns:List Int)(k:Int),x= .ref p∧y= .int k∧SqL K H p (ns.map V.int)∧Q (.int (mxD k ns)) H
variable{e d:Expr}{te td:TE}{p kp pos:Pos}
def zNm(K:W.Frag)(te td:TE):TE:=fun σ H Q=>te σ H fun x H1=>td σ H1 fun y H2=>zJo K x y H2 Q
end
end L2
namespace L2
open PySem PySem.Spec PyProof.Rows
mutual
def T.dep:T→Nat
 | .lst ts=>T.deps ts+1
 | .dic _ ts=>T.deps ts+1
 | .tup ts=>T.deps ts+1
 | .non=>0
 | .bl _=>0
 | .int _=>0
 | .str _=>0
def T.deps:List T→Nat
 | []=>0
 | t::ts=>max (T.dep t) (T.deps ts)
end
mutual
def T.pure:T→Prop
 | .tup _=>False
 | .lst ts=>T.pures ts
 | .dic ks ts=>ks.Nodup∧T.pures ts
 | .non=>True
 | .bl _=>True
 | .int _=>True
 | .str _=>True
def T.pures:List T→Prop
 | []=>True
 | t::ts=>T.pure t∧T.pures ts
end
theorem T.deps_le{t:T}:∀{ts:List T},t∈ts→T.dep t≤T.deps ts
 | [],h=>nomatch h
 | u::ts,h=>by
  show T.dep t≤max (T.dep u) (T.deps ts);rcases mF.mp h with e | e
  ·subst e;exact Nat.le_max_left _ _
  ·exact nR (T.deps_le e) (Nat.le_max_right _ _)
section
variable{P:Program}{w:World}
open AutoSeq1 (wpAny_loadPart')
open MeetsSeq MeetsSeq2 MeetsSeq3 SeqRoads2 SeqAt
end
section
variable{X:Cx}{pins:List (Addr×Obj)}{σ:St}{H:Hp}{s:Shared}
theorem zJe{ks:List (List Nat)}(h:ks.Nodup):(ks.map nK).Nodup:=by
 induction ks with
 | nil=>exact List.nodup_nil
 | cons k r ih=>
  rw[pJ] at h;rw[mY,pJ];refine⟨fun hm=>?_,ih h.2⟩;obtain⟨k',hk,e⟩:=sF.mp hm;exact h.1 (zKr e▸hk)
end
end L2
namespace L2
open PySem PySem.Spec PyProof.Rows
mutual
def T.sz:T→Nat
 | .lst ts=>T.szs ts+1
 | .dic _ ts=>T.szs ts+1
 | .tup ts=>T.szs ts+1
 | .non=>1
 | .bl _=>1
 | .int _=>1
 | .str _=>1
def T.szs:List T→Nat
 | []=>0
 | t::ts=>T.sz t+T.szs ts
end
mutual
def Occ(H:Hp)(d:Addr):V→T→Prop
 | v, .lst ts=>v= .ref d∨∃a vs,v= .ref a∧H a=some (.lst vs)∧Occs H d vs ts
 | v, .dic _ ts=>v= .ref d∨∃a ps,v= .ref a∧H a=some (.dK ps)∧Occs H d (ps.map (·.2)) ts
 | v, .tup ts=>v= .ref d∨∃a vs,v= .ref a∧H a=some (.tup vs)∧Occs H d vs ts
 | _, .non=>False
 | _, .bl _=>False
 | _, .int _=>False
 | _, .str _=>False
def Occs(H:Hp)(d:Addr):List V→List T→Prop
 | v::vs,t::ts=>Occ H d v t∨Occs H d vs ts
 | _,_=>False
end
mutual
theorem Rep.away{H:Hp}{d:Addr}{o:HO}:∀(x:V)(t:T),Rep H x t→¬Occ H d x t→Rep (upd H d o) x t
 | _, .non,h,_=>h
 | _, .bl _,h,_=>h
 | _, .int _,h,_=>h
 | _, .str _,h,_=>h
 | x, .lst ts,⟨a,vs,e,ha,hs⟩,n=>by
  have ne:a≠d:=fun z=>n (.inl (by rw[e,z]));exact⟨a,vs,e,by rw[zL ne];exact ha,Reps.away vs ts hs fun z=>n (.inr ⟨a,vs,e,ha,z⟩)⟩
 | x, .dic ks ts,⟨a,ps,e,ha,hk,hs⟩,n=>by
  have ne:a≠d:=fun z=>n (.inl (by rw[e,z]));exact⟨a,ps,e,by rw[zL ne];exact ha,hk,Reps.away _ ts hs fun z=>n (.inr ⟨a,ps,e,ha,z⟩)⟩
 | x, .tup ts,⟨a,vs,e,ha,hs⟩,n=>by
  have ne:a≠d:=fun z=>n (.inl (by rw[e,z]));exact⟨a,vs,e,by rw[zL ne];exact ha,Reps.away vs ts hs fun z=>n (.inr ⟨a,vs,e,ha,z⟩)⟩
theorem Reps.away{H:Hp}{d:Addr}{o:HO}:∀(xs:List V)(ts:List T),Reps H xs ts→¬Occs H d xs ts→Reps (upd H d o) xs ts
 | _,[],h,_=>h
 | _,t::ts,⟨x,xr,e,h1,h2⟩,n=>by
  subst e;exact⟨x,xr,rfl,Rep.away x t h1 fun z=>n (.inl z),Reps.away xr ts h2 fun z=>n (.inr z)⟩
end
mutual
theorem Occ.sub{H:Hp}{d:Addr}:∀(x:V)(t:T),Rep H x t→Occ H d x t→∃t',Rep H (.ref d) t'∧T.sz t'≤T.sz t
 | _, .non,_,h=>h.elim
 | _, .bl _,_,h=>h.elim
 | _, .int _,_,h=>h.elim
 | _, .str _,_,h=>h.elim
 | x, .lst ts,hr,h=>by
  rcases h with e |⟨a,vs,e,ha,h⟩
  ·exact⟨.lst ts,e▸hr,mL _⟩
  ·obtain⟨a',vs',e',ha',hs⟩:=hr
   rw[e] at e';cases e';rw[ha] at ha';cases ha';obtain⟨t',q,l⟩:=Occs.sub vs ts hs h;exact⟨t',q,aZ l⟩
 | x, .dic ks ts,hr,h=>by
  rcases h with e |⟨a,vs,e,ha,h⟩
  ·exact⟨.dic ks ts,e▸hr,mL _⟩
  ·obtain⟨a',vs',e',ha',_,hs⟩:=hr
   rw[e] at e';cases e';rw[ha] at ha';cases ha';obtain⟨t',q,l⟩:=Occs.sub _ ts hs h;exact⟨t',q,aZ l⟩
 | x, .tup ts,hr,h=>by
  rcases h with e |⟨a,vs,e,ha,h⟩
  ·exact⟨.tup ts,e▸hr,mL _⟩
  ·obtain⟨a',vs',e',ha',hs⟩:=hr
   rw[e] at e';cases e';rw[ha] at ha';cases ha';obtain⟨t',q,l⟩:=Occs.sub vs ts hs h;exact⟨t',q,aZ l⟩
theorem Occs.sub{H:Hp}{d:Addr}:∀(xs:List V)(ts:List T),Reps H xs ts→Occs H d xs ts→∃t',Rep H (.ref d) t'∧T.sz t'≤T.szs ts
 | xs,[],_,h=>by cases xs<;>exact h.elim
 | _,t::ts,⟨x,xr,e,h1,h2⟩,h=>by
  subst e;rcases h with h | h
  ·obtain⟨t',q,l⟩:=Occ.sub x t h1 h
   exact⟨t',q,nR l (bI _ _)⟩
  ·obtain⟨t',q,l⟩:=Occs.sub xr ts h2 h
   exact⟨t',q,nR l (aK _ _)⟩
end
theorem zMy:∀{a b:List (List Nat)},a.map nK=b.map nK→a=b
 | [],[],_=>rfl
 | [],_::_,h=>by simp at h
 | _::_,[],h=>by simp at h
 | x::a,y::b,h=>by
  rw[mY,mY] at h;injection h with h1 h2;rw[zKr h1,zMy h2]
mutual
theorem Rep.one{H:Hp}:∀(t:T)(x:V)(t':T),Rep H x t→Rep H x t'→t=t'
 | .non,x,t',h,h'=>by
  cases (show x= .non from h)
  cases t' with
  | non=>rfl
  | bl b=>cases (show V.non= .bl b from h')
  | int b=>cases (show V.non= .int b from h')
  | str b=>cases (show V.non= .str (tx b) from h')
  | lst ts=>obtain⟨a,vs,e,_⟩:=h';cases e
  | dic ks ts=>obtain⟨a,vs,e,_⟩:=h';cases e
  | tup ts=>obtain⟨a,vs,e,_⟩:=h';cases e
 | .bl c,x,t',h,h'=>by
  cases (show x= .bl c from h)
  cases t' with
  | non=>cases (show V.bl c= .non from h')
  | bl b=>cases (show V.bl c= .bl b from h');rfl
  | int b=>cases (show V.bl c= .int b from h')
  | str b=>cases (show V.bl c= .str (tx b) from h')
  | lst ts=>obtain⟨a,vs,e,_⟩:=h';cases e
  | dic ks ts=>obtain⟨a,vs,e,_⟩:=h';cases e
  | tup ts=>obtain⟨a,vs,e,_⟩:=h';cases e
 | .int c,x,t',h,h'=>by
  cases (show x= .int c from h)
  cases t' with
  | non=>cases (show V.int c= .non from h')
  | bl b=>cases (show V.int c= .bl b from h')
  | int b=>cases (show V.int c= .int b from h');rfl
  | str b=>cases (show V.int c= .str (tx b) from h')
  | lst ts=>obtain⟨a,vs,e,_⟩:=h';cases e
  | dic ks ts=>obtain⟨a,vs,e,_⟩:=h';cases e
  | tup ts=>obtain⟨a,vs,e,_⟩:=h';cases e
 | .str c,x,t',h,h'=>by
  cases (show x= .str (tx c) from h)
  cases t' with
  | non=>cases (show V.str (tx c)= .non from h')
  | bl b=>cases (show V.str (tx c)= .bl b from h')
  | int b=>cases (show V.str (tx c)= .int b from h')
  | str b=>
   have e:V.str (tx c)= .str (tx b):=h';injection e with e;have e2:ts (tx c)=ts (tx b):=by rw[e]
   rw[yJ,yJ] at e2;rw[e2]
  | lst ts=>obtain⟨a,vs,e,_⟩:=h';cases e
  | dic ks ts=>obtain⟨a,vs,e,_⟩:=h';cases e
  | tup ts=>obtain⟨a,vs,e,_⟩:=h';cases e
 | .lst us,x,t',⟨a,vs,e,ha,hs⟩,h'=>by
  subst e
  cases t' with
  | non=>cases (show V.ref a= .non from h')
  | bl b=>cases (show V.ref a= .bl b from h')
  | int b=>cases (show V.ref a= .int b from h')
  | str b=>cases (show V.ref a= .str (tx b) from h')
  | lst ts=>
   obtain⟨a',vs',e',ha',hs'⟩:=h';cases e';rw[ha] at ha';cases ha';rw[Reps.one us vs ts hs hs']
  | dic ks ts=>obtain⟨a',vs',e',ha',_⟩:=h';cases e';rw[ha] at ha';cases ha'
  | tup ts=>obtain⟨a',vs',e',ha',_⟩:=h';cases e';rw[ha] at ha';cases ha'
 | .dic js us,x,t',⟨a,vs,e,ha,hk,hs⟩,h'=>by
  subst e
  cases t' with
  | non=>cases (show V.ref a= .non from h')
  | bl b=>cases (show V.ref a= .bl b from h')
  | int b=>cases (show V.ref a= .int b from h')
  | str b=>cases (show V.ref a= .str (tx b) from h')
  | lst ts=>obtain⟨a',vs',e',ha',_⟩:=h';cases e';rw[ha] at ha';cases ha'
  | dic ks ts=>
   obtain⟨a',vs',e',ha',hk',hs'⟩:=h';cases e';rw[ha] at ha';cases ha';rw[Reps.one us _ ts hs hs',zMy (hk.symm.trans hk')]
  | tup ts=>obtain⟨a',vs',e',ha',_⟩:=h';cases e';rw[ha] at ha';cases ha'
 | .tup us,x,t',⟨a,vs,e,ha,hs⟩,h'=>by
  subst e
  cases t' with
  | non=>cases (show V.ref a= .non from h')
  | bl b=>cases (show V.ref a= .bl b from h')
  | int b=>cases (show V.ref a= .int b from h')
  | str b=>cases (show V.ref a= .str (tx b) from h')
  | lst ts=>obtain⟨a',vs',e',ha',_⟩:=h';cases e';rw[ha] at ha';cases ha'
  | dic ks ts=>obtain⟨a',vs',e',ha',_⟩:=h';cases e';rw[ha] at ha';cases ha'
  | tup ts=>
   obtain⟨a',vs',e',ha',hs'⟩:=h';cases e';rw[ha] at ha';cases ha';rw[Reps.one us vs ts hs hs']
theorem Reps.one{H:Hp}:∀(us:List T)(xs:List V)(ts:List T),Reps H xs us→Reps H xs ts→us=ts
 | [],xs,ts,h,h'=>by
  cases (show xs= [] from h)
  cases ts with
  | nil=>rfl
  | cons t ts=>obtain⟨x,r,e,_⟩:=h';cases e
 | u::us,xs,ts,⟨x,r,e,h1,h2⟩,h'=>by
  subst e
  cases ts with
  | nil=>cases (show x::r= [] from h')
  | cons t ts=>
   obtain⟨x',r',e',h1',h2'⟩:=h';cases e';rw[Rep.one u x t h1 h1',Reps.one us r ts h2 h2']
end
theorem zFx:∀{vs:List (Key×V)}{i:Nat}{k:Key}{y:V},(vs.map (·.1)).Nodup→vs[i]? =some (k,y)→xT vs k=some y
 | [],i,k,y,_,h=>by simp at h
 | p::vs,0,k,y,_,h=>by
  simp only[rB,Option.some.injEq] at h;subst h;exact wM rfl
 | p::vs,i+1,k,y,nd,h=>by
  rw[mY,pJ] at nd;have h':vs[i]? =some (k,y):=by simpa using h
  have ne:¬p.1=k:=fun e=>nd.1 (sF.mpr ⟨(k,y),pB h',e.symm⟩);rw[yL ne];exact zFx nd.2 h'
theorem yAl{H:Hp}{a:Addr}{xs:List (Key×V)}(h:H a=some (.dK xs)):tyS H (.ref a)=some "dict":=by
 show(match H a with | some (.lst _)=>some "list" | some (.tup _)=>some "tuple" | some (.dK _)=>some "dict" | _=>none)=_;rw[h]
theorem Same.put{H H':Hp}{p:Addr}(g:Same H H')(h:H p=none)(o:HO):Same H (upd H' p o):=fun b u e=>by
 rw[zL (yI e h)];exact g b u e
theorem vL{α:Type}{l:List α}{i:Nat}{a:α}(h:l[i]? =some a):l.take (i+1)=l.take i++ [a]:=by rw[List.take_add_one,h];rfl
theorem T.sz_pos:∀t:T,1≤T.sz t
 | .non=>mL _
 | .bl _=>mL _
 | .int _=>mL _
 | .str _=>mL _
 | .lst _=>aK _ _
 | .dic _ _=>aK _ _
 | .tup _=>aK _ _
theorem T.szs_len:∀ts:List T,ts.length≤T.szs ts
 | []=>mL _
 | t::ts=>by
  have a:=T.sz_pos t;have b:=T.szs_len ts;show ts.length+1≤T.sz t+T.szs ts
  lia
theorem T.szs_le{t:T}:∀{ts:List T},t∈ts→T.sz t≤T.szs ts
 | [],h=>nomatch h
 | u::ts,h=>by
  show T.sz t≤T.sz u+T.szs ts;rcases mF.mp h with e | e
  ·subst e;exact bI _ _
  ·exact nR (T.szs_le e) (aK _ _)
theorem zOp{H H':Hp}{d:Addr}{o:Obj}{ps:List (Key×V)}(hd:H d=some (.dK ps))(g:Same (upd H d (.frz o (.dK ps))) H'):Same H (L2.thaw H H'):=zOo fun b u e=>by
 by_cases hb:b=d
 ·subst hb
  rw[hd] at e;cases e;exact .inr ⟨⟨o,g _ _ zF⟩,by intro o v z;cases z⟩
 ·exact .inl (g _ _ (by rw[zL hb];exact e))
def T.kids:T→List T
 | .lst us=>us
 | .dic _ us=>us
 | _=>[]
def T.next(ts:List T):List T:=(ts.map T.kids).flatten
theorem Reps.append{H:Hp}{ys:List V}{vs:List T}(h':Reps H ys vs):∀{xs:List V}{us:List T},Reps H xs us→Reps H (xs++ys) (us++vs)
 | xs,[],h=>by
  cases (show xs= [] from h);exact h'
 | _,u::us,⟨x,r,e,h1,h2⟩=>by
  subst e;exact⟨x,r++ys,rfl,h1,Reps.append h' h2⟩
theorem T.deps_append:∀(a b:List T),T.deps (a++b)=max (T.deps a) (T.deps b)
 | [],b=>by show T.deps b=max 0 (T.deps b);lia
 | t::a,b=>by
  show max (T.dep t) (T.deps (a++b))=max (max (T.dep t) (T.deps a)) (T.deps b);rw[T.deps_append a b];lia
def T.holds(t:T):Bool:=wD (tyT t) "list" || wD (tyT t) "dict"
def zQp(t:TS):TS:=fun D σ H=>∃M:St→Hp→Prop,t {D with nx:=M} σ H∧∀σ' H',M σ' H'→D.nx σ' H'
theorem xZ{X:Cx}{st:Stmt}{t:TS}(h:PS X st t):PS X st (zQp t):=by
 intro pins s σ H D I ⟨M,q,m⟩;refine thn (h pins s σ H _ I q) fun f s1 z=>?_
 cases f with
 | next=>obtain⟨σ',H',J,q⟩:=z;exact⟨σ',H',J,m _ _ q⟩
 | brk=>exact z
 | cont=>exact z
 | ret u=>exact z
section
variable{X:Cx}
theorem zMi{P:Program}{w:World}:∀{vs:List (Key×Value)}{ks:List Str}{us:List Value},vs.map (·.1)=ks.map Sum.inr→us.length=vs.length→(∀(j:Nat)(v:Value),us[j]? =some v→∃k x,vs[j]? =some (k,x)∧(yQ P w).is k v=true)→StrsAre us ks
 | [],[],[],_,_,_=>.nil
 | p::vs,k::ks,u::us,e,hl,h=>by
  rw[mY,mY] at e;injection e with e1 e2;obtain⟨k',x,e3,hk⟩:=h 0 u rfl;simp only[rB,Option.some.injEq] at e3;rw[e3] at e1;have e4:k'=Sum.inr k:=e1;rw[e4] at hk;obtain⟨t,et⟩:=(show∃t,u=Value.str k t from zMv hk);subst et;exact .cons k t (zMi e2 (by simpa using hl) fun j v hv=>by simpa using h (j+1) v (by simpa using hv))
 | [],_::_,_,e,_,_=>by simp at e
 | _::_,[],_,e,_,_=>by simp at e
 | [],[],_::_,_,hl,_=>by simp at hl
 | _::_,_::_,[],_,hl,_=>by simp at hl
theorem zMt:∀{us:List Value}{ss:List Str},StrsAre us ss→Vals (ss.map V.str) us
 | _,_, .nil=>.nil
 | _,_, .cons x t r=>.cons ⟨t,rfl⟩ (zMt r)
theorem gD(hc:X.calm=true):wK X (.builtin "sorted") (fun xs H Q=>∃(p:Addr)(kvs:List (Key×V))(ks:List Str),xs= [.ref p]∧Rd H p (.dK kvs)∧kvs.map (·.1)=ks.map Sum.inr∧ks.length<64∧
  ∀l ss,H l=none→ss.Perm ks→sortedS ss=true→Q (.ref l) (upd H l (.lst (ss.map V.str)))):=by
 intro pins s σ H xs us Q I r h;obtain⟨p,kvs,ks,rfl,hq,hk,h64,q⟩:=h;obtain⟨u,rfl,rx⟩:=jW r;cases rx;obtain⟨z,hd,vs,rel,dd⟩:=zBc I.hok hq;obtain⟨ep,hat⟩:=dd.dictAt;have hl:=rel.length;refine PySem.Calls.call_function_entry kind_sorted plain_sorted entry_sorted (args_sorted1 _) ?_;unfold Builtin.«sorted»;refine mD (m:=checkCount "sorted" 1 1 _) (mO ?_);refine mD (W.kdu_collect (A:=X.A.in1) (W.kdl_dict (knd:=yQ X.prog X.w) (kvs:=vs) (ep:=ep) hd) (show X.A.in1.handled=none from I.ok.hd.1 hc) hat (by lia) fun h' tk acc hkp hacc=>?_);have hlen:acc.toList.length=vs.length:=by rw[bY];exact hacc.1
 have hS:StrsAre acc.toList ks:=zMi (P:=X.prog) (w:=X.w) (by rw[←rel.keys];exact hk) hlen fun j v e=>hacc.2 j v (by rw[←tW];exact e);have hkl:ks.length=vs.length:=by
  have:=congrArg List.length hk;simp only[mZ] at this
  lia
 refine mD (wpAny_newList ?_ (by rw[hlen];lia));have hoL:(h'.push (seqObj "list" acc.toList.toArray 0)).get? h'.objs.size=some (seqObj "list" acc.toList.toArray 0):=nI _ rfl;refine mD (pM (aB slot_list_sort ⟨_,hoL,rfl⟩ entry_list_sort (list_sort_treeK strKind_oneLt hoL hS.keysOf (fun v₁ v₂ rest e=>keyKind_strs (by rw[←e];exact hS)) (by lia) fun st' a1 a2=>⟨_,rfl, ?_⟩) (args_list_sort _)));refine mO ⟨_,rfl, ?_⟩;obtain⟨ss',h1,h2,h3⟩:=sorted_out_str hS a1 a2;have I':Inv X pins σ H {s with heap:=h',toks:=tk}:=I.kept (t':=tk) hkp;have hL:h'.objs.size<(h'.push (seqObj "list" acc.toList.toArray 0)).objs.size:=mW hoL;obtain⟨e,he⟩:=sortedHeap_at (out:=(arrOf st').map (·.2)) hoL;have rS:Vals (ss'.map V.str) ((arrOf st').map (·.2)).toList:=zMt h1;have hp:=h2.length_eq;refine⟨.ref h'.objs.size,_,I'.laid (a:=h'.objs.size) (t':=tk) (h':=sortedHeap (h'.push (seqObj "list" acc.toList.toArray 0)) h'.objs.size acc.toList ((arrOf st').map (·.2))) (fun b u eb=>?_) (mL _) (o:=.lst (ss'.map V.str)) ?_,rfl,q _ ss' (I'.hok.fresh (mL _)) h2 h3⟩
 ·have lt:b<h'.objs.size:=mW eb
  exact(sortedHeap_old (nQ lt) (Nat.lt_trans lt hL)).trans (mI _ eb)
 ·exact⟨by rw[mZ];lia,_,e,rS,by rw[Array.toArray_toList];exact he⟩
end
section
variable{X:Cx}
def zYi(K:W.Frag):V→List V→Hp→VK→Prop:=fun x vs H Q=>∃(p:Addr)(ss:List Str)(k:Str)(j:Nat),x= .ref p∧vs= [.str k]∧SqL K H p (ss.map V.str)∧ss[j]? =some k∧(∀i,i<j→ss[i]?≠some k)∧j<1000000∧Q (.int j) H
theorem zCs{ss:List Str}{us:List Value}(r:Vals (ss.map V.str) us){j:Nat}(h:j<us.length):∃z t,ss[j]? =some z∧us[j]=Value.str z t:=by
 have hl:=r.length;rw[mZ] at hl;obtain⟨u,hu,t,ht⟩:=r.get (i:=j) (x:=.str ss[j]) (by simp[hl,h]);rw[pY h] at hu;exact⟨ss[j],t,by simp[hl,h],(nV hu).trans ht⟩
def zKj(k:Str):Value→Bool
 | .str z _=>z==k
 | _=>false
theorem zPt:MtR X "list.index" (zYi X.K):=by
 intro pins s σ H x vs v us Q I rx rv h;obtain⟨p,ss,k,j,rfl,rfl,hq,hj,hno,hsm,q⟩:=h;cases rx;obtain⟨u,rfl,t,rfl⟩:=rv.one;obtain⟨its,r,pl,_⟩:=I.list hq;have hl:=r.length;rw[mZ] at hl;have hjl:j<ss.length:=(nG.mp hj).1;obtain⟨⟨cls,dd,data,sl⟩,ho,hc,n,hd⟩:=id pl.isList;simp only at hc hd;subst hc hd;refine aU PySem.F.slot_list_index ⟨_,ho,rfl⟩ PySem.F.entry_list_index (PySem.F.args_list_index_2 _ _) (SeqAt.list_indexAt p its.toArray n dd sl (.str k t) (zKj k) j (by simp;lia) (by lia) ?_ ?_) ⟨ho,fun y hy=>?_,⟨.int j,H,I.tok _,⟨_,rfl⟩,q⟩⟩
 ·obtain⟨z,t',e1,e2⟩:=zCs r (j:=j) (by lia)
  rw[hj] at e1;cases e1;show zKj k its[j]=true;rw[e2];exact tI k
 ·intro m hm hlt
  obtain⟨z,t',e1,e2⟩:=zCs r (j:=m) (by simpa using hm);show zKj k its[m]=false;rw[e2];have ne:z≠k:=fun e=>hno m hlt (by rw[e1,e]);exact rV.mpr ne
 ·obtain⟨m,hm,e⟩:=Array.mem_iff_getElem.mp hy
  obtain⟨z,t',e1,e2⟩:=zCs r (j:=m) (by simpa using hm);have e3:y=Value.str z t':=by rw[←e];simpa using e2
  subst e3;exact SeqAt.EqAt.str_str z t' k t
end
def leK(a b:List Nat):Bool:=!decide (b<a)
theorem zDr(a b c:List Nat)(h1:leK a b=true)(h2:leK b c=true):leK a c=true:=by
 have x1:a≤b:=by simpa [leK] using h1
 have x2:b≤c:=by simpa [leK] using h2
 have:=List.le_trans x1 x2
 simpa [leK] using this
theorem zPf(a b:List Nat):(leK a b || leK b a)=true:=by
 rcases List.le_total a b with h | h
 ·have:leK a b=true:=by simpa [leK] using h
  rw[this];rfl
 ·have:leK b a=true:=by simpa [leK] using h
  rw[this,tX]
theorem zVc{a b:List Nat}(h1:leK a b=true)(h2:leK b a=true):a=b:=by
 have x1:a≤b:=by simpa [leK] using h1
 have x2:b≤a:=by simpa [leK] using h2
 exact List.le_antisymm x1 x2
def zMp(ks:List (List Nat)):List (List Nat):=ks.mergeSort leK
theorem zLf(ks:List (List Nat)):(zMp ks).Perm ks:=List.mergeSort_perm ks leK
theorem zFq(ks:List (List Nat)):(zMp ks).Pairwise (fun a b=>leK a b=true):=List.pairwise_mergeSort zDr zPf ks
theorem zCh:∀{a b:List (List Nat)},a.Perm b→a.Pairwise (fun a b=>leK a b=true)→b.Pairwise (fun a b=>leK a b=true)→a=b
 | [],b,p,_,_=>(List.nil_perm.mp p).symm
 | x::a,[],p,_,_=>absurd p.length_eq (by simp)
 | x::a,y::b,p,h1,h2=>by
  rw[cJ] at h1 h2;have hx:x∈y::b:=p.mem_iff.mp mH;have hy:y∈x::a:=p.mem_iff.mpr mH;have e:x=y:=by
   rcases mF.mp hx with z | z
   ·exact z
   ·rcases mF.mp hy with z' | z'
    ·exact z'.symm
    ·exact zVc (h1.1 y z') (h2.1 x z)
  subst e;rw[zCh p.cons_inv h1.2 h2.2]
theorem zAp:∀(p:Str)(l:List Str),risingS p l=true→((p::l).map ts).Pairwise (fun a b=>leK a b=true)
 | p,[],_=>List.pairwise_singleton _ _
 | p,x::r,h=>by
  have h':(!ltCps x.cps.toList p.cps.toList && risingS x r)=true:=h;rw[rC] at h';have ih:=zAp x r h'.2;have hpx:leK (ts p) (ts x)=true:=by
   have:=h'.1;rw[ltCps_eq] at this;exact this
  rw[mY,cJ];refine⟨fun y hy=>?_,ih⟩;rw[mY] at hy ih;rw[cJ] at ih;rcases mF.mp hy with z | z
  ·rw[z];exact hpx
  ·exact zDr _ _ _ hpx (ih.1 y z)
theorem zGh{l:List Str}(h:sortedS l=true):(l.map ts).Pairwise (fun a b=>leK a b=true):=by
 cases l with
 | nil=>exact List.Pairwise.nil
 | cons p r=>exact zAp p r h
theorem uF{ss:List Str}{ks:List (List Nat)}(hp:ss.Perm (ks.map tx))(hs:sortedS ss=true):ss=(zMp ks).map tx:=by
 have e:ss.map ts=zMp ks:=by
  refine zCh ?_ (zGh hs) (zFq ks);have z:=hp.map ts;rw[cT] at z;have e2:ks.map (ts∘tx)=ks:=by
   conv=>rhs;rw[←List.map_id ks]
   exact List.map_congr_left fun k _=>yJ k
  rw[e2] at z;exact z.trans (zLf ks).symm
 have e3:(ss.map ts).map tx=ss:=by
  rw[cT]
  conv=>rhs;rw[←List.map_id ss]
  exact List.map_congr_left fun k _=>vH k
 rw[←e3,e]
inductive C where
 | non | bl (b:Bool)| int (i:Int)| str (x:List Nat)| row (xs:List C)| rcd (xs:List C)| odd
def C.ord:C→Nat
 | .non=>0
 | .bl _=>1
 | .int _=>2
 | .str _=>3
 | .row _=>4
 | .rcd _=>5
 | .odd=>6
def gZ(k:List Nat):List (List Nat)→List T→T
 | k'::ks,c::cs=>if k'=k then c else gZ k ks cs
 | _,_=>.tup []
mutual
def T.few:T→Prop
 | .dic ks ts=>ks.Nodup∧ks.length<64∧ks.length=ts.length∧T.fews ts
 | .lst ts=>ts.length≤100000∧T.fews ts
 | .tup _=>False
 | .non=>True
 | .bl _=>True
 | .int _=>True
 | .str _=>True
def T.fews:List T→Prop
 | []=>True
 | t::ts=>T.few t∧T.fews ts
end
theorem kB{k:List Nat}:∀{ks:List (List Nat)}{ts:List T}{i:Nat}{t:T},ks.Nodup→ks[i]? =some k→ts[i]? =some t→gZ k ks ts=t
 | [],_,i,_,_,h,_=>by simp at h
 | k'::ks,[],i,_,_,_,h=>by simp at h
 | k'::ks,u::ts,0,t,nd,h1,h2=>by
  simp only[rB,Option.some.injEq] at h1 h2;subst h1 h2;exact mK rfl
 | k'::ks,u::ts,i+1,t,nd,h1,h2=>by
  rw[pJ] at nd;have h1':ks[i]? =some k:=by simpa using h1
  have ne:¬k'=k:=fun e=>nd.1 (e▸pB h1');show(if k'=k then u else gZ k ks ts)=t;rw[mG ne];exact kB nd.2 h1' (by simpa using h2)
theorem zDz{k:List Nat}:∀{ks:List (List Nat)}{ts:List T},k∈ks→ks.length=ts.length→gZ k ks ts∈ts
 | [],_,h,_=>nomatch h
 | k'::ks,[],_,h=>by simp at h
 | k'::ks,u::ts,h,hl=>by
  show(if k'=k then u else gZ k ks ts)∈u::ts;split
  ·exact mH
  ·rename_i ne
   rcases mF.mp h with e | e
   ·exact absurd e.symm ne
   ·exact mQ _ (zDz e (by simpa using hl))
theorem Rep.at_name{H:Hp}{ps:List (Key×V)}{ks:List (List Nat)}{us:List T}(nk:ks.Nodup)(hk:ps.map (·.1)=ks.map fun k=>(Sum.inr (tx k):Key))(hs:Reps H (ps.map (·.2)) us){k:List Nat}(hm:k∈ks):
  ∃v,xT ps (Sum.inr (tx k))=some v∧Rep H v (gZ k ks us):=by
 obtain⟨j,hj⟩:=List.mem_iff_getElem?.mp hm;have hp:(ps.map (·.1))[j]? =some (Sum.inr (tx k):Key):=by rw[hk,pP,hj];rfl
 rw[pP] at hp
 cases hpj:ps[j]? with
 | none=>rw[hpj] at hp;cases hp
 | some kv=>
  rw[hpj] at hp;have ek:kv.1=(Sum.inr (tx k):Key):=nV hp;have hpj':ps[j]? =some ((Sum.inr (tx k):Key),kv.2):=by rw[hpj,←ek]
  obtain⟨t,ht,hr⟩:=hs.get (i:=j) (v:=kv.2) (by rw[pP,hpj];rfl);refine⟨kv.2,zFx (by rw[hk];exact zJe nk) hpj', ?_⟩;rw[kB nk hj ht];exact hr
def LtM(P:Program)(w:World)(A:Around)(s:Shared)(u v:Value)(b:Bool):Prop:=∀(E:Value→Shared→Prop)(Q:Value→Shared→Prop),Q (.bool b) s→wpAny (model P w) A (richCompare .Lt u v) Q E s
def EqB(P:Program)(w:World)(A:Around)(s:Shared)(u v:Value)(b:Bool):Prop:=∀(E:Value→Shared→Prop)(Q:Bool→Shared→Prop),Q b s→wpAny (model P w) A (eqBool u v) Q E s
inductive Zc (P:Program) (w:World) (A:Around) (s:Shared):List Value→List Value→Int→Prop
 | nil:Zc P w A s [] [] 0
 | less {y:Value} {ys:List Value}:Zc P w A s [] (y::ys) (-1)
 | more {x:Value} {xs:List Value}:Zc P w A s (x::xs) [] 1
 | eq {x y:Value} {xs ys:List Value} {c:Int}:EqB P w A s x y true→Zc P w A s xs ys c→Zc P w A s (x::xs) (y::ys) c
 | ne {x y:Value} {xs ys:List Value} {c:Int}:EqB P w A s x y false→LtM P w A s x y (decide (c<0))→c≠0→Zc P w A s (x::xs) (y::ys) c
section
variable{P:Program}{w:World}{A:Around}{s:Shared}{E:Value→Shared→Prop}
end
section
variable{X:Cx}{pins:List (Addr×Obj)}{σ:St}{H:Hp}{s:Shared}
end
def rawC:C→T
 | .str x=>.str x
 | _=>.non
mutual
def rk:C→T
 | .non=>.tup [.int 0]
 | .bl b=>.tup [.int 1, .bl b]
 | .int i=>.tup [.int 2, .int i]
 | .str x=>.tup [.int 3, .str x]
 | .row cs=>.tup [.int 4, .tup (rks cs)]
 | .rcd cs=>.tup [.int 5, .tup (rkps cs)]
 | .odd=>.non
def rks:List C→List T
 | []=>[]
 | c::cs=>rk c::rks cs
def rkps:List C→List T
 | []=>[]
 | c::cs=>rkq c::rkps cs
def rkq:C→T
 | .row cs=>.tup (rkl cs)
 | .non=>.non
 | .bl _=>.non
 | .int _=>.non
 | .str _=>.non
 | .rcd _=>.non
 | .odd=>.non
def rkl:List C→List T
 | []=>[]
 | c::cs=>rawC c::rks cs
end
mutual
def C.ok:C→Prop
 | .odd=>False
 | .row cs=>C.oks cs
 | .rcd cs=>C.okps cs
 | .non=>True
 | .bl _=>True
 | .int _=>True
 | .str _=>True
def C.oks:List C→Prop
 | []=>True
 | c::cs=>C.ok c∧C.oks cs
def C.okps:List C→Prop
 | []=>True
 | c::cs=>C.okq c∧C.okps cs
def C.okq:C→Prop
 | .row cs=>C.okl cs
 | .non=>False
 | .bl _=>False
 | .int _=>False
 | .str _=>False
 | .rcd _=>False
 | .odd=>False
def C.okl:List C→Prop
 | []=>False
 | c::cs=>(∃k,c= .str k)∧cs.length=1∧C.oks cs
end
section
variable{X:Cx}
end
section
variable{X:Cx}{e k:Expr}{te:TE}{tk:TO}{pos p2:Pos}
end
mutual
def T.calm:T→Prop
 | .int i=>-(10 ^ 12)≤i∧i≤10 ^ 12
 | .str x=>x.length≤100
 | .lst ts=>T.calms ts
 | .dic _ ts=>T.calms ts
 | .tup ts=>T.calms ts
 | .non=>True
 | .bl _=>True
def T.calms:List T→Prop
 | []=>True
 | t::ts=>T.calm t∧T.calms ts
end
structure Fit(d z:Nat)(t:T):Prop where
 few:T.few t
 calm:T.calm t
 dep:T.dep t≤d
 sz:T.sz t≤z
section
variable{P:Program}{w:World}
end
section
variable{X:Cx}
end
theorem zIj(t:T):∀(ts:List T),T.szs (ts++ [t])=T.szs ts+T.sz t
 | []=>by show T.sz t+0=0+T.sz t;lia
 | u::ts=>by
  show T.sz u+T.szs (ts++ [t])=T.sz u+T.szs ts+T.sz t;rw[zIj t ts];lia
theorem zYs(xs:List V)(i:Nat):zDj xs none (some (i:Int))=xs.take i:=by
 unfold zDj;rw[HT.sIx_nat];show(xs.drop 0).take (min i xs.length - 0)=_;rw[rY,Nat.sub_zero]
 by_cases h:i≤xs.length
 ·rw[bS h]
 ·rw[bH (by lia),sP,rJ (by lia)]
theorem zRi(xs:List V)(i:Nat):zDj xs (some (i:Int)) none=xs.drop i:=by
 unfold zDj;rw[HT.sIx_nat];show(xs.drop (min i xs.length)).take (xs.length - min i xs.length)=_
 by_cases h:i≤xs.length
 ·rw[bS h,rJ (by rw[nL];lia)]
 ·rw[bH (by lia),cU,List.drop_of_length_le (by lia),cP]
theorem zTf(xs:List V):zDj xs none (some (-1))=xs.take (xs.length - 1):=by
 unfold zDj;show(xs.drop 0).take ((-1+(xs.length:Int)).toNat - 0)=_;rw[rY,Nat.sub_zero]
 congr 1
 lia
theorem Reps.take{H:Hp}:∀{xs:List V}{us:List T}(i:Nat),Reps H xs us→Reps H (xs.take i) (us.take i)
 | xs,us,0,_=>by rw[List.take_zero,List.take_zero];exact rfl
 | xs,[],i+1,h=>by cases (show xs= [] from h);exact rfl
 | xs,u::us,i+1,⟨x,r,e,h1,h2⟩=>by
  subst e;rw[aG,aG];exact⟨x,_,rfl,h1,Reps.take i h2⟩
section
variable{X:Cx}{pins:List (Addr×Obj)}{σ σ':St}{H H':Hp}{s s':Shared}
end
def uX(H:Hp)(d:Addr):Hp:=fun b=>if b=d then none else H b
theorem gW{H:Hp}{d b:Addr}(h:b≠d):uX H d b=H b:=mG h
theorem zAz{H:Hp}{d:Addr}:uX H d d=none:=mK rfl
theorem hide_self{H:Hp}{d:Addr}:Same (uX H d) H:=fun b v e=>by
 by_cases h:b=d
 ·subst h;rw[zAz] at e;cases e
 ·rw[gW h] at e;exact e
theorem kT{H H':Hp}{d:Addr}(h:Same H H'):Same (uX H d) (uX H' d):=fun b v e=>by
 by_cases hb:b=d
 ·subst hb;rw[zAz] at e;cases e
 ·rw[gW hb] at e⊢;exact h b v e
theorem zHu{X:Cx}{K:W.Frag}(h:X.K=K):IxR X (zGb K):=by subst h;exact zX
end L2
namespace L2
open PySem PySem.Spec PyProof.Rows PySem.Builtin PySem.Builtin.Str
section
variable{prog:Program}{w:World}{A:Around}{E:Value→Shared→Prop}{s:Shared}{x y:Str}{t u:Tok}{Q:Value→Shared→Prop}
theorem zOe(hy:(y.length==0)=false)(hx:x.length≤1000000)
  (q:∀(l:List (Str×Tok))(k:Nat),l.map (·.1)=Txt.split x y→Q (.ref s.heap.objs.size) {s with heap:=s.heap.push {cls:=.type "list",data:=.seq (strValues l).toArray},toks:=k}):
  wpAny (model prog w) A (call (.builtin "str.split") [.str x t, .str y u]) Q E s:=by
 have hz:x.length≤sizeLine:=by rw[mJ];lia
 cases c1:(decide (x.length<y.length)|| decide (PySem.Builtin.Str.strKind x<PySem.Builtin.Str.strKind y)) with
 | true=>
  refine aU cV (sZ _ _ _) cQ (cK _ _)
   (meets_str_split_cannot_occur x y t u c1) ?_
  exact q [(x,t)] s.toks (by unfold Txt.split;rw[mK c1];rfl)
 | false=>
  have n1:¬((decide (x.length<y.length)|| decide (PySem.Builtin.Str.strKind x<PySem.Builtin.Str.strKind y))=true):=by rw[c1];exact mR
  cases c2:(occurrences x y 0 x.length (x.length+1)).isEmpty with
  | true=>
   refine aU cV (sZ _ _ _) cQ (cK _ _)
    (meets_str_split_not_found x y t u c1 hy c2) ?_
   exact q [(x,t)] s.toks (by unfold Txt.split;rw[mG n1,mK c2];rfl)
  | false=>
   have n2:¬((occurrences x y 0 x.length (x.length+1)).isEmpty=true):=by rw[c2];exact mR
   have hn:(partsBetween x (occurrences x y 0 x.length (x.length+1)) y.length).length≤sizeLine:=by
    have:=StrLaws.occ_length_le x y 0 x.length (x.length+1);rw[bZ,mJ];lia
   refine aU cV (sZ _ _ _) cQ (cK _ _)
    (meets_str_split_sep x y t u c1 hy c2 hz hn) ?_
   have z:=q (numbered s.toks (partsBetween x (occurrences x y 0 x.length (x.length+1)) y.length)) (s.toks+(partsBetween x (occurrences x y 0 x.length (x.length+1)) y.length).length)
    ((numbered_texts _ _).trans (by unfold Txt.split;rw[mG n1,mG n2]))
   rw[←strsFrom_eq] at z;exact z
end
theorem zTi(x:Str):1≤PySem.Builtin.Str.strKind x:=by
 unfold PySem.Builtin.Str.strKind;split
 ·exact mL _
 ·split<;>decide
theorem zJc(z x:Str):glued z [x]=x:=rfl
theorem zDn(x:Str):Txt.join (Str.ofString "''") (Txt.split x (Str.ofString "'"))=Txt.replace x (Str.ofString "'") (Str.ofString "''"):=by
 have e0:((Str.ofString "'").length==0)=false:=by decide+kernel
 have k1:PySem.Builtin.Str.strKind (Str.ofString "'")=1:=by decide+kernel
 have l1:(Str.ofString "'").length=1:=by decide+kernel
 unfold Txt.join Txt.split Txt.replace
 cases c1:(decide (x.length<(Str.ofString "'").length)|| decide (PySem.Builtin.Str.strKind x<PySem.Builtin.Str.strKind (Str.ofString "'"))) with
 | true=>
  have hx:x=tx []:=by
   have:=zTi x;simp only[bR,pQ,k1,l1] at c1;have h0:x.length=0:=by lia
   apply qZ;rw[zCg] at h0;exact nY h0
  subst hx;rw[mK rfl,zJc]
  decide+kernel
 | false=>
  rw[mG mR]
  cases c2:(occurrences x (Str.ofString "'") 0 x.length (x.length+1)).isEmpty with
  | true=>rw[mK rfl,aO,mK rfl,zJc]
  | false=>rw[mG mR,e0,tV,bE,mG mR]
theorem zIy(x y z:Str):(Txt.replace x y z).length≤x.length+(x.length+1)*z.length:=by
 unfold Txt.replace;split
 ·lia
 ·have h1:=StrLaws.occ_length_le x y 0 x.length (x.length+1)
  have hy:(glued y (partsBetween x (occurrences x y 0 x.length (x.length+1)) y.length)).length=x.length:=by rw[StrLaws.glued_between_self]
  rw[size_glued,bZ,cL] at hy;rw[size_glued,bZ,cL];have h2:(occurrences x y 0 x.length (x.length+1)).length*z.length≤(x.length+1)*z.length:=bU _ h1
  lia
section
variable{X:Cx}
def zYu(K:W.Frag):V→List V→Hp→VK→Prop:=fun x vs H Q=>∃(g:Str)(p:Addr)(ys:List Str),x= .str g∧vs= [.ref p]∧SqL K H p (ys.map V.str)∧(ys.map (·.length)).sum+ys.length*g.length≤16777216∧Q (.str (Txt.join g ys)) H
theorem zSm:MtR X "str.join" (zYu X.K):=by
 intro pins s σ H x vs v us Q I rx rv h;obtain⟨g,p,ys,rfl,rfl,hq,hz,q⟩:=h;obtain⟨t,rfl⟩:=rx;obtain⟨u,rfl,ru⟩:=rv.one;cases ru;obtain⟨its,r,pl,_⟩:=I.list hq;exact join_list (ys:=ys) pl.isList (by simpa using zBf r) hz fun t' k=>⟨.str (Txt.join g ys),H,I.tok _,⟨_,rfl⟩,q⟩
def zZf:V→List V→Hp→VK→Prop:=fun x vs H Q=>∃(z y:Str),x= .str z∧vs= [.str y]∧y.length≠0∧z.length≤1000000∧∀l,H l=none→Q (.ref l) (upd H l (.lst ((Txt.split z y).map V.str)))
theorem zDg:∀(l:List (Str×Tok)),Vals ((l.map (·.1)).map V.str) (strValues l)
 | []=>.nil
 | p::l=>.cons ⟨p.2,rfl⟩ (zDg l)
theorem zQi:MtR X "str.split" zZf:=by
 intro pins s σ H x vs v us Q I rx rv h;obtain⟨z,y,rfl,rfl,hy,hz,q⟩:=h;obtain⟨t,rfl⟩:=rx;obtain⟨u,rfl,t',rfl⟩:=rv.one;refine zOe (by simp[hy]) hz fun l k e=>?_;have hf:H s.heap.objs.size=none:=I.hok.fresh (mL _);refine⟨.ref s.heap.objs.size,upd H s.heap.objs.size (.lst ((Txt.split z y).map V.str)),I.laid (fun b u e=>mI _ e) (mL _) ?_,rfl,q _ hf⟩;refine⟨?_,strValues l,0, ?_,nI _ rfl⟩
 ·have:=split_le z y
  rw[mZ,mJ];lia
 ·rw[←e];exact zDg l
end
structure Bl3(mg:Str→Option Value):Prop extends Bl2 mg where
 abs:mg "abs" =none
end L2
namespace L2
open PySem PySem.Spec PyProof.Rows
def uB(ns:List Int)(k:Int):Int:=
 let m:=if ns= [] then k*7919 else(k*7919+k / ns.length*104729+ns.getD (k % ns.length).toNat 0*48271)% 1000003
 (m*m / 11+13*m)% 1000003
theorem qU(ns:List Int)(k:Int):0≤uB ns k:=sG _ (by decide)
theorem uO(ns:List Int)(k:Int):uB ns k<1000003:=sT _ (by decide)
def zDo(m:Int):Int:=if m % 3=0 then m / 3 % 41 - 20 else if m % 3=1 then m ^ 4 % 2000000000001 - 1000000000000
 else([1000000000000,-1000000000000,999999999999,0,1,-1,100000000000,999]:List Int).getD (m / 3 % 8).toNat 0
theorem zFu{α:Type}{xs:List α}{i:Int}(d:α)(h0:0≤i)(h1:i<xs.length):xs.getD i.toNat d∈xs:=by
 have h:i.toNat<xs.length:=by lia
 rw[rF,pY h];exact aD h
theorem zNh(m:Int): -(10 ^ 12)≤zDo m∧zDo m≤10 ^ 12:=by
 unfold zDo;split
 ·lia
 ·split
  ·have h1:=sG (m ^ 4) (show(2000000000001:Int)≠0 by decide)
   have h2:=sT (m ^ 4) (show(0:Int)<2000000000001 by decide)
   lia
  ·have h:=zFu (xs:=([1000000000000,-1000000000000,999999999999,0,1,-1,100000000000,999]:List Int)) (i:=m / 3 % 8) 0 (by lia) (by simp only[mE,nA];lia)
   revert h
   generalize ([1000000000000,-1000000000000,999999999999,0,1,-1,100000000000,999]:List Int).getD (m / 3 % 8).toNat 0=z;intro h;simp only[mF,nP,rD] at h;rcases h with rfl | rfl | rfl | rfl | rfl | rfl | rfl | rfl<;>decide
def chF(i:Int):Nat:=(letL++yX).getD i.toNat 0
theorem zGl{i:Int}(h0:0≤i)(h1:i<36):atI (letL++yX) i=some (chF i):=uK h0 (by show i<((36:Nat):Int);lia)
theorem zYy{i:Int}(h0:0≤i)(h1:i<36):chF i∈letL++yX:=zFu 0 h0 (by show i<((36:Nat):Int);lia)
theorem zNj{i:Int}(h0:0≤i)(h1:i<26):chF i∈letL:=by
 obtain⟨c,e,h⟩:=zSu h0 h1;rw[zGl h0 (by lia)] at e;cases e;exact h
def zAh(m:Int):Int:=([1,1+m / 3 % 4,1+m / 3 % 12]:List Int).getD (m % 3).toNat 0
theorem zNf(m:Int):1≤zAh m∧zAh m≤12:=by
 unfold zAh;have h:=zFu (xs:=([1,1+m / 3 % 4,1+m / 3 % 12]:List Int)) (i:=m % 3) 0 (by lia) (by simp only[mE,nA];lia)
 revert h
 generalize ([1,1+m / 3 % 4,1+m / 3 % 12]:List Int).getD (m % 3).toNat 0=z;intro h;simp only[mF,nP,rD] at h;rcases h with rfl | rfl | rfl<;>lia
theorem zVp(m:Int):atI [V.int 1,V.int (1+m / 3 % 4),V.int (1+m / 3 % 12)] (m % 3)=some (.int (zAh m)):=by
 rw[uK (d:=V.int 0) (by lia) (by simp only[mE,nA];lia)];unfold zAh;rcases(by lia:m % 3=0∨m % 3=1∨m % 3=2) with e | e | e<;>rw[e]<;>rfl
def zCq(m:Int)(n:Nat):List Nat:=(List.range n).map fun(i:Nat)=>chF ((m / 7+(0+(i:Int))*(1+m / 11 % 35))% 36)
def zHc(m:Int):List Nat:=
 if m / 36 % 2=1 then List.replicate (m / 72 % zAh m).toNat 97++ [chF (m / 864 % 26)]++List.replicate (zAh m - m / 72 % zAh m - 1).toNat 97
 else chF (m / 72 % 26)::zCq m (zAh m - 1).toNat
theorem zSw(m:Int):gG (zHc m)=true:=by
 obtain⟨n1,n12⟩:=zNf m;unfold zHc;split
 ·have a0:=sG (m / 72) (show zAh m≠0 by lia)
  have a1:=sT (m / 72) (show 0<zAh m by lia);have hcl:=zNj (i:=m / 864 % 26) (by lia) (by lia);refine zDt ?_ ?_ ?_
  ·simp only[mC,mU,pO];lia
  ·cases e:(m / 72 % zAh m).toNat with
   | zero=>exact⟨_,_,rfl,hcl⟩
   | succ k=>exact⟨97,_,rfl,zJy⟩
  ·intro d hd
   simp only[pA,rA,mS] at hd;rcases hd with(⟨_,rfl⟩| rfl)|⟨_,rfl⟩
   ·exact kH zJy
   ·exact kH hcl
   ·exact kH zJy
 ·have hcl:=zNj (i:=m / 72 % 26) (by lia) (by lia)
  refine zDt ?_ ⟨_,_,rfl,hcl⟩ ?_
  ·simp only[mE,zCq,mZ,List.length_range];lia
  ·intro d hd
   rcases mF.mp hd with z | z
   ·rw[z];exact kH hcl
   ·obtain⟨i,_,rfl⟩:=sF.mp z
    exact zYy (by lia) (by lia)
theorem zKe{α:Type}(f:Nat→α)(i:Nat):(List.range (i+1)).map f=(List.range i).map f++ [f i]:=by rw[List.range_succ,pK];rfl
end L2
namespace L2
open PySem PySem.Spec PyProof.Rows PySem.Builtin PySem.Builtin.Str
theorem zKu{k:List Nat}(h:gG k=true):k.length≤12:=by
 unfold gG at h;simp only[rC,pQ] at h
 lia
theorem zXg(x y:Str):(x++y).length=x.length+y.length:=by
 rw[←vH x,←vH y,xX,zU,zU,zU,mC]
theorem zVo{i:Int}(h: -(10 ^ 12)≤i∧i≤10 ^ 12):(Str.ofString (toString i)).length≤14:=by
 rw[ofString_len];have z:∀m:Nat,m≤10 ^ 12→(Nat.repr m).length≤13:=fun m hm=>(Nat.length_repr_le_iff (by decide)).mpr (cI hm (by decide))
 cases i with
 | ofNat m=>
  have hm:m≤10 ^ 12:=by
   have:=h.2;have e:(Int.ofNat m)=(m:Int):=rfl
   lia
  exact nR (z m hm) (by decide)
 | negSucc m=>
  have hm:m+1≤10 ^ 12:=by
   have:=h.1;have e:Int.negSucc m= -((m:Int)+1):=by lia
   lia
  show("-" ++Nat.repr (m+1)).length≤14;rw[String.length_append];have h1:("-" :String).length=1:=by decide
  have:=z _ hm
  lia
theorem zPd(x y:Str):((Txt.split x y).map (·.length)).sum≤x.length:=by
 unfold Txt.split;split
 ·simp
 ·split
  ·simp
  ·have hy:(glued y (partsBetween x (occurrences x y 0 x.length (x.length+1)) y.length)).length=x.length:=by rw[StrLaws.glued_between_self]
   rw[size_glued] at hy
   lia
theorem yAo(a b:String):Str.ofString (a++b)=Str.ofString a++Str.ofString b:=by
 have e:∀s:String,Str.ofString s=tx (s.toList.map Char.toNat):=fun s=>Str.ofString_eq_toList s;rw[e,e,e,xX,String.toList_append,pK]
theorem zSx(i:Int):Str.ofString (toString i)=tx (List.replicate (if i<0 then 1 else 0:Int).toNat 45)++Str.ofString (toString (if i<0 then -i else i)):=by
 have n0:tx (List.replicate 0 45)++Str.ofString (toString i)=Str.ofString (toString i):=by
  rw[←vH (Str.ofString (toString i)),xX];rfl
 by_cases h:i<0
 ·rw[mK h,mK h]
  cases i with
  | ofNat m=>exact absurd h (by have e:Int.ofNat m=(m:Int):=rfl;lia)
  | negSucc m=>
   show Str.ofString ("-" ++Nat.repr (m+1))=tx [45]++Str.ofString (Nat.repr (m+1));rw[yAo];have:Str.ofString "-" =tx [45]:=by decide+kernel
   rw[this]
 ·rw[mG h,mG h]
  exact n0.symm
end L2
namespace L2
open PySem PySem.Spec PyProof.Rows
section
variable{X:Cx}
end
section
variable{X:Cx}{pins:List (Addr×Obj)}{σ:St}{H:Hp}{s:Shared}{h':Heap}
end
section
variable{X:Cx}
end
abbrev g2(K:W.Frag):TG:=zOa K 2 (zBp (qC 0) (zBp (qC 1) zOg))
def tyR(H:Hp):V→Option String
 | .ref a=>match H a with
  | some (.frz _ (.dK _))=>some "dict"
  | _=>tyS H (.ref a)
 | v=>tyS H v
theorem zRr{H:Hp}{x:V}{t:String}(h:tyS H x=some t):tyR H x=some t:=by
 cases x with
 | ref a=>
  show(match H a with | some (.frz _ (.dK _))=>some "dict" | _=>tyS H (.ref a))=some t
  split
  ·rename_i o kvs e
   have h':(match H a with | some (.lst _)=>some "list" | some (.tup _)=>some "tuple" | some (.dK _)=>some "dict" | _=>none)=some t:=h
   rw[e] at h';cases h'
  ·exact h
 | _=>exact h
theorem uM{H:Hp}{a:Addr}{ps:List (Key×V)}(h:Rd H a (.dK ps)):tyR H (.ref a)=some "dict":=by
 rcases h with h |⟨o,h⟩
 ·exact zRr (yAl h)
 ·show(match H a with | some (.frz _ (.dK _))=>some "dict" | _=>tyS H (.ref a))=some "dict"
  rw[h]
section
variable{X:Cx}
theorem wW{T:String}(hT:T∈tyL):wK X (.builtin "isinstance") (fun xs H Q=>∃x t,xs= [x, .ty T]∧tyR H x=some t∧Q (.bl (wD t T)) H):=by
 intro pins s σ H xs us Q I r h;obtain⟨x,t,rfl,ht,q⟩:=h
 cases x with
 | ref a=>
  have h':(match H a with | some (.frz _ (.dK _))=>some "dict" | _=>tyS H (.ref a))=some t:=ht
  split at h'
  ·rename_i o kvs e
   cases h';obtain⟨u,w',rfl,ru,rw'⟩:=zHb r;cases (show w'=Value.type T from rw');cases (show u=Value.ref a from ru);obtain⟨_,_,vs,_,p⟩:=zBc I.hok (.inr ⟨o,e⟩);obtain⟨ob,es,ep,h1,h2,_⟩:=p;exact sS W.kitx_dict I.kIn ⟨ob,h1,h2.1⟩ (zRj (by simp[tyL]) hT) (fun z=>nomatch z) fun tk=>⟨.bl _,H,I.tok _,rfl,q⟩
  ·exact zCp hT pins s σ H _ us Q I r ⟨_,t,rfl,h',q⟩
 | _=>exact zCp hT pins s σ H _ us Q I r ⟨_,t,rfl,ht,q⟩
theorem kP:wK X (.builtin "len") (fun xs H Q=>∃a kvs,xs= [V.ref a]∧Rd H a (.dK kvs)∧Q (.int kvs.length) H):=by
 intro pins s σ H xs us Q I r h;obtain⟨a,kvs,rfl,ha,q⟩:=h;obtain⟨u,rfl,ru⟩:=jW r;cases ru;exact d_len I ha fun t s' I'=>⟨.int kvs.length,H,I',⟨t,rfl⟩,q⟩
end
theorem zEd{k:Key}:∀{ps:List (Key×V)},k∉ps.map (·.1)→xT ps k=none
 | [],_=>rfl
 | p::ps,h=>by
  rw[yL fun e=>h (by simp[e])];exact zEd fun z=>h (mQ _ z)
structure Bl4(mg:Str→Option Value):Prop extends Bl2 mg where
 enumerate:mg "enumerate" =none
theorem zEn{H H':Hp}(g:Same H H'){p:Addr}(h:H' p=none):H p=none:=by
 cases e:H p with
 | none=>rfl
 | some o=>rw[g _ _ e] at h;cases h
section
variable{prog:Program}{w:World}{A:Around}{E:Value→Shared→Prop}{s:Shared}
end
section
variable{X:Cx}
end
section
variable{X:Cx}{a:Expr}{ta:TE}
end
inductive U where
 | leaf (v:V)| lst (us:List U)| dic (ks:List Key) (us:List U)
mutual
def U.sz:U→Nat
 | .leaf _=>1
 | .lst us=>U.szs us+1
 | .dic _ us=>U.szs us+1
def U.szs:List U→Nat
 | []=>0
 | u::us=>U.sz u+U.szs us
end
mutual
def U.dep:U→Nat
 | .leaf _=>0
 | .lst us=>U.deps us+1
 | .dic _ us=>U.deps us+1
def U.deps:List U→Nat
 | []=>0
 | u::us=>max (U.dep u) (U.deps us)
end
mutual
def U.ok:U→Prop
 | .leaf v=>∀x,v= .str x→x.length≤1000
 | .lst us=>U.oks us
 | .dic ks us=>ks.Nodup∧ks.length=us.length∧(∀x,Sum.inr x∈ks→x.length≤1000)∧U.oks us
def U.oks:List U→Prop
 | []=>True
 | u::us=>U.ok u∧U.oks us
end
section
variable{X:Cx}{pins:List (Addr×Obj)}{σ:St}{H:Hp}{s:Shared}
theorem zEt:OpR X (compareOp .LtE) (fun x y H Q=>∃i j,x= .str i∧y= .str j∧Q (.bl (!decide (ts j<ts i))) H):=by
 intro pins s σ H x y v u Q I rx ry h;obtain⟨i,j,rfl,rfl,q⟩:=h;obtain⟨t,rfl⟩:=rx;obtain⟨t',rfl⟩:=ry;exact PySem.P.le_str (yN I q rfl)
end
section
variable{X:Cx}{o:Expr}{to:TE}{name:Str}{apos cpos:Pos}{id:String}{r:V→List V→Hp→VK→Prop}
end
structure Bl5(mg:Str→Option Value):Prop extends Bl2 mg where
 abs:mg "abs" =none
 ord:mg "ord" =none
section
variable{X:Cx}{pins:List (Addr×Obj)}{σ:St}{H:Hp}{s:Shared}{h':Heap}
end
def Itz(K:W.Frag)(l m:Addr):It:=
  ⟨fun i H=>∃xs ys x y,SqL K H l xs∧SqL K H m ys∧xs[i]? =some x∧ys[i]? =some y,
   fun i H v H'=>∃p x y,H p=none∧v= .ref p∧(∀xs,SqL K H l xs→xs[i]? =some x)∧(∀ys,SqL K H m ys→ys[i]? =some y)∧H'=upd H p (.tup [x,y]),
   fun i H=>∃xs ys,SqL K H l xs∧SqL K H m ys∧(xs.length≤i∨ys.length≤i)⟩
def zWw(K:W.Frag)(ta:TA):TI:=fun σ H R=>ta σ H fun vs H1=>∃l m xs ys,vs= [.ref l, .ref m]∧SqL K H1 l xs∧SqL K H1 m ys∧R (Itz K l m) H1
structure Bl6(mg:Str→Option Value):Prop extends Bl2 mg where
 zip:mg "zip" =none
section
variable{X:Cx}{a:Expr}{ta:TE}
def zXi(ta:TE):TE:=fun σ H Q=>ta σ H fun x H1=>∃b,x= .bl b∧Q (.bl b) H1
end
end L2
namespace HT
open PySem PyProof.Rows
open PySem.SeqAt
open PySem.AutoSeq1 (wpAny_loadPart')
open PySem.MeetsSeq PySem.MeetsSeq2 PySem.MeetsSeq3
section
variable{prog:Program}{w:World}{A:Around}{E:Value→Shared→Prop}{s:Shared}
end
end HT
namespace L2
open PySem PySem.Spec PyProof.Rows
end L2
namespace L2
open PySem PySem.Spec PyProof.Rows PySem.Builtin PySem.Builtin.Str
def jn(s:List Nat):List (List Nat)→List Nat
 | []=>[]
 | [x]=>x
 | x::y::r=>x++s++jn s (y::r)
theorem zRd(x y:Str):ts (x++y)=ts x++ts y:=by
 show(x.cps++y.cps).toList=_;rw[Array.toList_append]
theorem zFp(sep:Str):∀ps:List Str,ts (sep.join ps)=jn (ts sep) (ps.map ts)
 | []=>rfl
 | [x]=>rfl
 | x::y::r=>by
  show ts (x++sep++sep.join (y::r))=ts x++ts sep++jn (ts sep) ((y::r).map ts);rw[zRd,zRd,zFp sep (y::r)]
def rpl(c:Nat)(z:List Nat)(d:Nat):List Nat:=if d=c then z else[d]
theorem uR{c:Nat}{z:List Nat}:∀{x:List Nat},c∉x→x.flatMap (rpl c z)=x
 | [],_=>rfl
 | d::x,h=>by
  have hd:d≠c:=fun e=>h (by rw[e];exact mH);rw[cR,uR fun e=>h (mQ _ e)];unfold rpl;rw[mG hd];rfl
theorem zRm{c:Nat}{z:List Nat}:∀{ps:List (List Nat)},(∀p∈ps,c∉p)→(jn [c] ps).flatMap (rpl c z)=jn z ps
 | [],_=>rfl
 | [x],h=>uR (h x mH)
 | x::y::r,h=>by
  show(x++ [c]++jn [c] (y::r)).flatMap (rpl c z)=x++z++jn z (y::r);rw[cA,cA,uR (h x mH),zRm fun p hp=>h p (mQ _ hp)];have: [c].flatMap (rpl c z)=z:=by simp[rpl]
  rw[this]
theorem zKs(x z:Str)(c:Nat):ts (Txt.replace x ⟨#[c]⟩ z)=(ts x).flatMap (rpl c (ts z)):=by
 have h:=zFp ⟨#[c]⟩ (Txt.split x ⟨#[c]⟩);rw[StrLaws.join_split] at h;rw[StrLaws.replace_one,zFp,h];refine(zRm (c:=c) fun p hp=>?_).symm;obtain⟨s,hs,rfl⟩:=sF.mp hp;exact StrLaws.split_free x c s hs
section
variable{X:Cx}
theorem uE:wK X (.type "int") (fun xs H Q=>∃x n,xs= [.str x]∧intText? x=some n∧x.length≤640∧Q (.int n) H):=by
 intro pins s σ H xs us Q I r h;obtain⟨x,n,rfl,hn,hl,q⟩:=h;obtain⟨u,rfl,t,rfl⟩:=r.one;exact W.KIN.call_text hn hl ⟨.int n,H,I.tok _,⟨_,rfl⟩,q⟩
end
end L2
namespace L2
open PySem PySem.Spec PyProof.Rows
section
variable{X:Cx}
end
section
variable{X:Cx}
theorem yAx{st:Stmt}:PS X st uU:=fun _ _ _ _ _ _ h=>h.elim
def rFind:V→List V→Hp→VK→Prop:=fun x vs H Q=>∃(z y:Str)(i:Int),x= .str z∧vs= [.str y, .int i]∧Q (.int (Txt.find3 z y i)) H
theorem kM:MtR X "str.find" rFind:=by
 intro pins s σ H x vs v us Q I rx rv h;obtain⟨z,y,i,rfl,rfl,q⟩:=h;obtain⟨t,rfl⟩:=rx;obtain⟨u1,u2,rfl,⟨t1,rfl⟩,⟨t2,rfl⟩⟩:=rv.two;exact call_gives F.slot_str_find (sZ _ _ _) F.entry_str_find (F.args_str_find_3 _ _ _) (gives_str_find_from z y i t t1 t2) ⟨.int _,H,I.tok _,⟨_,rfl⟩,q⟩
theorem zLs{s:Shared}{c:Prop} [inst:Decidable c] {y z:Str} {t:Tok} {Q:Value→Shared→Prop} (h:(if c then y else z).length≤sizeLine∧∀(t':Tok)(k:Nat),s.toks≤k→Q (.str (if c then y else z) t') {s with toks:=k}):
  (if c then Made.val (.str y t) else Made.str z).post Q s:=by
 by_cases hc:c
 ·have h2:=h.2 t s.toks (mL _)
  rw[mK hc] at h2⊢;exact h2
 ·have h1:=h.1
  have h2:=h.2 s.toks (s.toks+1) (tS _);rw[mG hc] at h1 h2⊢;exact⟨h1,h2⟩
def zXb(i:Nat)(lo hi:Int)(y z:Str):TE:=fun σ H Q=>∃x,σ[i]? =some (some (.str x))∧x.length≤1000000∧Q (.str (Txt.replace (Txt.slice x (some lo) (some (-hi))) y z)) H
theorem zKk{x:Str}{i:Nat}{lo hi:Int}{y z:Str}{j1 j2 j3 j4:Nat}{p0 p1 p2 p3 p4 p5 p6 p7 apos cpos:Pos}(hN:X.N[i]? =some x)(hv:Vis X.env.scope x)(hyz:(y==z)=false)(hz:z.length≤14)
  (hline:(apos.endLine==cpos.line)=true:=by rfl) (hd:(x==("__debug__" :Str))=false:=by decide) (hcd:(x==("__classdict__" :Str))=false:=by decide):
  PE X (.Call (.Attribute (.Subscript (.Name x p0) (.Slice (some (.Constant (.int lo) j3 p3)) (some (.UnaryOp .USub (.Constant (.int hi) j4 p4) p5)) none p6) p7) "replace" apos) [.Constant (.str y) j1 p1, .Constant (.str z) j2 p2] [] cpos) (zXb i lo hi y z):=by
 intro pins s σ H Q I h;obtain⟨vx,e,hl,q⟩:=h;refine wpAny_Call_method_late rfl rfl hline rfl ?_;have hx:PE X (.Name x p0) (zKx i):=zRf hN hv hd hcd;refine Subscript_ (thn (hx pins s σ H (fun v H'=>v= .str vx∧H'=H) I ⟨_,e,rfl,rfl⟩) fun v s1 ⟨xv,H1,I1,r1,e1,e2⟩=>?_);subst e1 e2;obtain⟨t,rfl⟩:=r1;refine wpAny_Slice ?_;rw[evalPart_some];refine cE ?_;rw[evalPart_some];refine UnaryOp_ (cE (neg_int ?_));rw[evalPart_none];refine mO ?_;have I4:Inv X pins σ H1 {s1 with heap:=s1.heap.push {cls:=.type "slice",data:=.fields #[.int lo s1.toks, .int (-hi) (s1.toks+1+1), .none]},toks:=s1.toks+1+1+1}:=I1.kept (t':=s1.toks+1+1+1) fun b ob q=>mI _ q;have hg:wpAny (model X.prog X.w) X.A (getItem (.str vx t) (.ref s1.heap.objs.size)) (fun v s2=>∃t',v= .str (Txt.slice vx (some lo) (some (-hi))) t'∧Inv X pins σ H1 s2∧0<s2.toks) X.xe {s1 with heap:=s1.heap.push {cls:=.type "slice",data:=.fields #[.int lo s1.toks, .int (-hi) (s1.toks+1+1), .none]},toks:=s1.toks+1+1+1}:=by
  refine sI (l:=some (lo,s1.toks)) (u:=some (-hi,s1.toks+1+1)) (st:=none) ?_ rfl ?_
  ·obtain⟨o,ho,hc,hd⟩:=Heap.IsSliceOf.new (h:=s1.heap) (l:=.int lo s1.toks) (u:=.int (-hi) (s1.toks+1+1)) (st:=.none)
   exact⟨o,ho,hc,hd⟩
  ·have hsl:=aP vx (some lo) (some (-hi))
   exact zLs ⟨by rw[mJ];exact nR hsl (by lia),fun t' k hk=>⟨t',rfl,I4.tok _,mX (sU _) hk⟩⟩
 refine tail_any (ops:=[.ref s1.heap.objs.size, .str vx t]) (sZ _ _ _) F.slot_str_getitem.lookup (thn hg fun v s2 z=>?_) (by with_unfolding_all rfl);obtain⟨t',rfl,I2,h0⟩:=z;refine⟨"str","str.replace",F.plainAttrs_str,F.slot_str_replace,F.type_str_replace,sZ _ _ _,(fun _ e=>nomatch e), ?_⟩;refine bA rfl (Calls.evalArgs_plain ?_);refine aN (cF (k:=j1) (pos:=p1) (aN (cF (k:=j2) (pos:=p2) (Calls.spliced_nil ?_))));have hsl:=aP vx (some lo) (some (-hi));refine SC.replaceW (Nat.pos_iff_ne_zero.mp h0) (Nat.succ_ne_zero _) (fun c=>absurd (show s2.toks=s2.toks+1 from c) (by lia)) hyz (by lia) hz fun t' k=>?_;exact⟨.str (Txt.replace (Txt.slice vx (some lo) (some (-hi))) y z),H1,I2.tok _,⟨_,rfl⟩,q⟩
end
end L2
namespace L2
open PySem PySem.Builtin PySem.Builtin.Str
abbrev Tk:=Nat×List Nat
def mkL:List Nat:=[91,93,123,125,44,58]
def dbl(x:List Nat):List Nat:=x.flatMap (rpl 39 [39,39])
theorem zLt:dbl []= []:=rfl
theorem zCr(c:Nat)(x:List Nat):dbl (c::x)=rpl 39 [39,39] c++dbl x:=cR
theorem xG(x y:List Nat):dbl (x++y)=dbl x++dbl y:=cA
theorem xP{x:List Nat}(h:39∉x):dbl x=x:=uR h
theorem zFi:∀x:List Nat,(dbl x).length≤2*x.length
 | []=>mL _
 | c::x=>by
  rw[zCr,mC,mE];have:=zFi x;have h:(rpl 39 [39,39] c).length≤2:=by
   unfold rpl;split
   ·exact mL _
   ·exact tS _
  lia
def shw(t:Tk):List Nat:=if t.1=2 then 39::(dbl t.2++ [39]) else t.2
def OkTk(t:Tk):Prop:=t.2.length≤100∧((t.1=0∧∃s fs,t.2=s++fs∧(s= []∨s= [45])∧fs≠ []∧∀c∈fs,c∈yX)∨(t.1=1∧∃c r,t.2=c::r∧c∈letL∧∀d∈r,d∈letL++yX)∨(t.1=2∧∀c∈t.2,c∈wJ)∨(t.1=3∧∃c,t.2= [c]∧c∈mkL))
theorem OkTk.len{t:Tk}(h:OkTk t):(shw t).length≤202:=by
 have h1:=h.1;unfold shw;split
 ·have:=zFi t.2
  rw[mE,mC];simp only[mE,nA]
  lia
 ·lia
def zSq(k:Nat):List Nat:=if k=0 then yX else if k=1 then letL++yX else if k=2 then[39] else[]
def Stops(k:Nat)(r:List Nat):Prop:=∀c r',r=c::r'→c∉zSq k
def zNi(k c:Nat):Prop:=(k=0∧(c=45∨c∈yX))∨(k=1∧c∈letL)∨(k=2∧c=39)∨(k=3∧c∈mkL)
def stk(a b:Tk):Bool:=if b.2.take 1= [45]∧b.1=0 then false else if a.1=1 then decide (b.1=1)|| decide (b.1=0) else decide (a.1=b.1)&& !decide (a.1=3)
theorem zUr:∀k:Nat,(32:Nat)∉zSq k:=by
 intro k;unfold zSq;split
 ·decide+kernel
 ·split
  ·decide+kernel
  ·split
   ·decide+kernel
   ·decide
theorem qP{t:Tk}(h:OkTk t):∃c r,shw t=c::r∧zNi t.1 c∧(t.1=0→c=45→t.2.take 1= [45]):=by
 obtain⟨_,h⟩:=h;obtain⟨k,x⟩:=t;unfold shw zNi;rcases h with⟨rfl,s,fs,e,hs,hn,hf⟩|⟨rfl,c,r,e,hc,_⟩|⟨rfl,_⟩|⟨rfl,c,e,hc⟩
 ·have e:x=s++fs:=e
  subst e;rcases hs with rfl | rfl
  ·obtain⟨c,r,rfl⟩:=rG hn
   exact⟨c,r,rfl, .inl ⟨rfl, .inr (hf c mH)⟩,fun _ e=>by rw[e];rfl⟩
  ·exact⟨45,fs,rfl, .inl ⟨rfl, .inl rfl⟩,fun _ _=>rfl⟩
 ·have e:x=c::r:=e
  subst e;exact⟨c,r,rfl, .inr (.inl ⟨rfl,hc⟩),fun e=>nomatch e⟩
 ·exact⟨39,_,rfl, .inr (.inr (.inl ⟨rfl,rfl⟩)),fun e=>nomatch e⟩
 ·have e:x= [c]:=e
  subst e;exact⟨c,[],rfl, .inr (.inr (.inr ⟨rfl,hc⟩)),fun e=>nomatch e⟩
theorem zQz:∀c∈letL,c≠45∧c∉yX∧c≠39:=by decide+kernel
theorem zLi:∀c∈yX,c≠45∧c∉letL∧c≠39:=by decide+kernel
theorem zYd:∀c∈mkL,c≠45∧c∉yX∧c∉letL∧c≠39:=by decide+kernel
theorem zPg:(39:Nat)≠45∧(39:Nat)∉yX∧(39:Nat)∉letL:=by decide+kernel
theorem zSe{t t':Tk}(h:OkTk t)(h':OkTk t')(hs:stk t t'=false)(z:List Nat):Stops t.1 (shw t'++z):=by
 obtain⟨c,r,e,hk,h45⟩:=qP h';intro d r' e';rw[e] at e';obtain⟨rfl,_⟩:=List.cons.inj e';unfold stk at hs;unfold zSq;have hk0:t.1=0∨t.1=1∨t.1=2∨t.1=3:=by
  rcases h.2 with⟨a,_⟩|⟨a,_⟩|⟨a,_⟩|⟨a,_⟩
  ·exact .inl a
  ·exact .inr (.inl a)
  ·exact .inr (.inr (.inl a))
  ·exact .inr (.inr (.inr a))
 rcases hk with⟨k0,hc⟩|⟨k1,hc⟩|⟨k2,rfl⟩|⟨k3,hc⟩
 ·rcases hc with rfl | hc
  ·rcases hk0 with a | a | a | a<;>rw[a]<;>decide+kernel
  ·have hn:¬(t'.2.take 1= [45]∧t'.1=0):=fun z=>by
    have:(shw t').take 1= [45]:=by
     unfold shw;rw[mG (by lia)];exact z.1
    rw[e] at this;have:c=45:=by simpa using this
    exact(zLi c hc).1 this
   rw[mG hn,k0] at hs;have:=zLi c hc;rcases hk0 with a | a | a | a
   ·rw[a] at hs;exact absurd hs (by decide)
   ·rw[a] at hs;exact absurd hs (by decide)
   ·rw[a];show c∉ [39];simp[this.2.2]
   ·rw[a];exact fun z=>nomatch z
 ·have:=zQz c hc
  rw[mG (by lia),k1] at hs;rcases hk0 with a | a | a | a
  ·rw[a];exact this.2.1
  ·rw[a] at hs;exact absurd hs (by decide)
  ·rw[a];show c∉ [39];simp[this.2.2]
  ·rw[a];exact fun z=>nomatch z
 ·rw[mG (by lia),k2] at hs
  rcases hk0 with a | a | a | a
  ·rw[a];exact zPg.2.1
  ·rw[a];show 39∉letL++yX;rw[pA];exact fun z=>z.elim zPg.2.2 zPg.2.1
  ·rw[a] at hs;exact absurd hs (by decide)
  ·rw[a];exact fun z=>nomatch z
 ·have:=zYd c hc
  rcases hk0 with a | a | a | a
  ·rw[a];exact this.2.1
  ·rw[a];show c∉letL++yX;rw[pA];exact fun z=>z.elim this.2.2.1 this.2.1
  ·rw[a];show c∉ [39];simp[this.2.2.2]
  ·rw[a];exact fun z=>nomatch z
theorem zNt(k:Nat):Stops k []:=fun c r e=>nomatch e
theorem zJk{k n:Nat}(h:0<n)(z:List Nat):Stops k (List.replicate n 32++z):=by
 obtain⟨m,rfl⟩:=Nat.exists_eq_succ_of_ne_zero (Nat.pos_iff_ne_zero.mp h);intro c r e;rw[pU] at e;obtain⟨rfl,_⟩:=List.cons.inj e;exact zUr k
theorem zNx{k n:Nat}:Stops k (List.replicate n 32):=by
 cases n with
 | zero=>exact zNt k
 | succ n=>simpa using zJk (k:=k) (sU n) []
def lay:List (Nat×Tk)→List Nat
 | []=>[]
 | x::r=>List.replicate x.1 32++(shw x.2++lay r)
theorem jD:∀a b:List (Nat×Tk),lay (a++b)=lay a++lay b
 | [],b=>rfl
 | x::a,b=>by
  show List.replicate x.1 32++(shw x.2++lay (a++b))=_;rw[jD a b];show _=List.replicate x.1 32++(shw x.2++lay a)++lay b;simp only[nE]
def Chn(r:List (Nat×Tk)):Prop:=∀i x y,r[i]? =some x→r[i+1]? =some y→stk x.2 y.2=true→0<y.1
theorem zBm{a c:List (Nat×Tk)}{x:Nat×Tk}{e:Nat}(hok:∀y∈a++x::c,OkTk y.2)(hc:Chn (a++x::c)):Stops x.2.1 (lay c++List.replicate e 32):=by
 cases c with
 | nil=>exact zNx
 | cons y c=>
  show Stops x.2.1 (List.replicate y.1 32++(shw y.2++lay c)++List.replicate e 32);rw[nE]
  by_cases h0:0<y.1
  ·exact zJk h0 _
  ·have h1:y.1=0:=by lia
   rw[h1,aH,nH,nE];refine zSe (hok x (by simp)) (hok y (by simp)) ?_ _
   cases hs:stk x.2 y.2 with
   | false=>rfl
   | true=>
    refine absurd (hc a.length x y ?_ ?_ hs) h0
    ·rw[nO (mL _),tY];rfl
    ·rw[nO (tS _),show a.length+1 - a.length=1 by lia];rfl
def jH(S l:List Nat):Nat:=(l.takeWhile fun c=>decide (c∈S)).length
theorem wP{S:List Nat}:∀{x r:List Nat},(∀c∈x,c∈S)→(∀c r',r=c::r'→c∉S)→jH S (x++r)=x.length
 | [],[],_,_=>rfl
 | [],c::r,_,h=>by
  unfold jH;rw[nH,rW,mM (h c r rfl)];rfl
 | d::x,r,h1,h2=>by
  have ih:=wP (S:=S) (x:=x) (r:=r) (fun c hc=>h1 c (mQ _ hc)) h2;unfold jH at ih⊢;rw[nU,rW,nB (h1 d mH)];show(List.takeWhile _ (x++r)).length+1=x.length+1;rw[ih]
theorem zWj(S l:List Nat):jH S l≤l.length:=(List.takeWhile_prefix _).length_le
theorem zVx{S l:List Nat}{j c:Nat}(hc:l[j]? =some c)(hj:j≤jH S l):(c∈S↔j<jH S l):=by
 induction l generalizing j with
 | nil=>cases hc
 | cons d l ih=>
  by_cases hd:d∈S
  ·have e:jH S (d::l)=jH S l+1:=by
    unfold jH;rw[rW,nB hd];rfl
   rw[e] at hj⊢
   cases j with
   | zero=>
    have:d=c:=by simpa using hc
    rw[←this];exact⟨fun _=>sU _,fun _=>hd⟩
   | succ j=>
    rw[sJ] at hc;have:=ih hc (by lia);rw[this]
    lia
  ·have e:jH S (d::l)=0:=by
    unfold jH;rw[rW,mM hd];rfl
   rw[e] at hj⊢;have hj0:j=0:=by lia
   subst hj0;have:d=c:=by simpa using hc
   rw[←this];exact⟨fun z=>absurd z hd,fun z=>absurd z (cY _)⟩
def und:List Nat→List Nat
 | []=>[]
 | [c]=>[c]
 | c::d::r=>if c=39∧d=39 then 39::und r else c::und (d::r)
theorem zNd:∀x:List Nat,und (dbl x)=x
 | []=>rfl
 | c::x=>by
  have ih:=zNd x;rw[zCr];unfold rpl
  by_cases h:c=39
  ·rw[mK h,h]
   show und (39::39::dbl x)=39::x;rw[und,mK ⟨rfl,rfl⟩,ih]
  ·rw[mG h]
   show und (c::dbl x)=c::x
   cases e:dbl x with
   | nil=>rw[e] at ih;rw[←ih];rfl
   | cons d r=>
    rw[und,mG fun z=>h z.1,←e,ih]
theorem zCa:∀(n:Nat)(l:List Nat),(∀k,k<n→¬(l[k]? =some 39∧l[k+1]? =some 39))→und l=l.take n++und (l.drop n)
 | 0,l,_=>rfl
 | n+1,[],_=>rfl
 | n+1,[c],_=>by
  rw[aG,List.drop_succ_cons,List.drop_nil,cP];rfl
 | n+1,c::d::r,h=>by
  have h0:=h 0 (sU _);have h0:¬(c=39∧d=39):=fun z=>h0 ⟨by rw[z.1];rfl,by rw[z.2];rfl⟩;rw[und,mG h0,zCa n (d::r) fun k hk=>?_]
  ·rfl
  ·have:=h (k+1) (by lia)
   simpa using this
theorem uH(z:Str):∀(ps:List Str)(p:Str),ts (glued z (p::ps))=ts p++ps.flatMap fun q=>ts z++ts q:=by
 intro ps p;show(List.foldl (fun acc p=>acc++z.cps++p.cps) p.cps ps).toList=p.cps.toList++_;generalize p.cps=a
 induction ps generalizing a with
 | nil=>simp
 | cons q ps ih=>
  rw[bQ,ih];simp[ts,nE]
theorem zJt(L:List Nat)(i j:Nat):ts (strSub (tx L) i j)=(L.drop i).take (j - i):=by
 show(L.toArray.extract i j).toList=_;simp[List.extract_eq_drop_take]
theorem zKt(L:List Nat)(k:Nat):StrLaws.At (tx L) (tx [39,39]) L.length k↔L[k]? =some 39∧L[k+1]? =some 39:=by
 have e:(subAt (tx L) (tx [39,39]) k=true)↔(L.drop k).take 2= [39,39]:=by
  show((L.toArray.extract k (k+2))== #[39,39])=true↔_;rw[aT];constructor
  ·intro h
   have:=congrArg Array.toList h
   simpa [List.extract_eq_drop_take] using this
  ·intro h
   apply Array.toList_inj.mp
   simpa [List.extract_eq_drop_take] using h
 show k+2≤L.length∧_↔_;rw[e];constructor
 ·rintro⟨h1,h2⟩
  have a0:=congrArg (fun l:List Nat=>l[0]?) h2;have a1:=congrArg (fun l:List Nat=>l[1]?) h2;simp only[List.getElem?_take,rQ] at a0 a1;exact⟨by simpa using a0,by simpa using a1⟩
 ·rintro⟨h1,h2⟩
  obtain⟨l2,e2⟩:=nG.mp h2;obtain⟨l1,e1⟩:=nG.mp h1;refine⟨by lia, ?_⟩;rw[sB l1,sB l2,e1,e2];rfl
def zNp(L:List Nat)(lo:Nat)(occs:List Nat):List Str:=((lo::occs.map (· +2)).zip (occs++ [L.length])).map fun x=>strSub (tx L) x.1 x.2
theorem zNv(L:List Nat)(lo c:Nat)(r:List Nat):zNp L lo (c::r)=strSub (tx L) lo c::zNp L (c+2) r:=rfl
theorem zXo(L:List Nat)(lo:Nat):∀occs:List Nat,∃q qs,zNp L lo occs=q::qs
 | []=>⟨_,_,rfl⟩
 | c::r=>⟨_,_,rfl⟩
theorem zGz(L:List Nat){f:Nat}(hf:∀k,f≤k→¬StrLaws.At (tx L) (tx [39,39]) L.length k):∀(occs:List Nat)(lo:Nat),StrLaws.ChainG (tx L) (tx [39,39]) L.length lo occs f→ts (glued (tx [39]) (zNp L lo occs))=und (L.drop lo)
 | [],lo,h=>by
  rw[StrLaws.ChainG.eq_1] at h;subst h;have e:zNp L f []= [strSub (tx L) f L.length]:=rfl;rw[e,uH,zJt,List.flatMap_nil,mN];have e2:(L.drop f).take (L.length - f)=L.drop f:=rJ (by rw[nL];exact mL _);have u:=zCa (L.drop f).length (L.drop f) fun k _ z=>by
   refine hf (f+k) (bI _ _) ((zKt L _).mpr ⟨?_, ?_⟩)
   ·simpa [rQ] using z.1
   ·simpa [rQ,Nat.add_assoc] using z.2
  rw[e2,u,sP,cU];exact(mN _).symm
 | c::r,lo,h=>by
  rw[StrLaws.ChainG.eq_2] at h;obtain⟨h1,h2,h3,h4⟩:=h;have ih:=zGz L hf r (c+2) h4;obtain⟨q,qs,e⟩:=zXo L (c+2) r;rw[zNv,e,uH,zJt,cR,nE];rw[e,uH] at ih;rw[ih];have u:=zCa (c - lo) (L.drop lo) fun k hk z=>by
   refine h3 (lo+k) (bI _ _) (by lia) ((zKt L _).mpr ⟨?_, ?_⟩)
   ·simpa [rQ] using z.1
   ·simpa [rQ,Nat.add_assoc] using z.2
  rw[u,nS,show lo+(c - lo)=c by lia];obtain⟨a0,a1⟩:=(zKt L c).mp h2;obtain⟨l2,e2⟩:=nG.mp a1;obtain⟨l1,e1⟩:=nG.mp a0;rw[sB l1,sB l2,e1,e2,und,mK ⟨rfl,rfl⟩]
  rfl
theorem repl2(L:List Nat):Txt.replace (tx L) (tx [39,39]) (tx [39])=tx (und L):=by
 obtain⟨f,hc,hf⟩:=StrLaws.occ_tight (tx L) (tx [39,39]) (by decide);rw[show(tx L).length=L.length from zU L] at hc hf;have h:=zGz L hf _ 0 hc;rw[rY] at h;unfold Txt.replace;rw[show(tx L).length=L.length from zU L];split
 ·rename_i c
  have c':(occurrences (tx L) (tx [39,39]) 0 L.length (L.length+1)).isEmpty=true:=by
   rw[show((tx [39,39]).length==0 && (tx [39]).length==0)=false from rfl,bE] at c;exact c
  rw[List.isEmpty_iff.mp c'] at h;have e:zNp L 0 []= [strSub (tx L) 0 L.length]:=rfl;rw[e,uH,zJt,List.flatMap_nil,mN,rY,Nat.sub_zero,sP] at h;rw[←h]
 ·apply qZ
  rw[yJ,←h]
  rfl
theorem zOk(x:List Nat):Txt.replace (tx (dbl x)) (tx [39,39]) (tx [39])=tx x:=by rw[repl2,zNd]
theorem vT{L u rest:List Nat}{lo:Nat}(h:L.drop lo=u++39::rest)(hu:39∉u):Txt.find3 (tx L) (tx [39]) (lo:Int)=((lo+u.length:Nat):Int):=by
 have hl:=congrArg List.length h;rw[nL,mC,mE] at hl;have hlo:fromIndex (tx L).length (lo:Int)=lo:=by
  unfold fromIndex;rw[mG (by lia)]
  lia
 have hg:∀j,(tx L).cps.getD (lo+j) 0=(u++39::rest).getD j 0:=fun j=>by
  rw[←h];show L.toArray.getD (lo+j) 0=_;simp[rF]
 have hat:(tx L).cps.getD (lo+u.length) 0=39:=by
  rw[hg,rF,nO (mL _),tY];rfl
 have hbe:∀j,j<u.length→(tx L).cps.getD (lo+j) 0≠39:=fun j hj z=>by
  rw[hg,rF,nM hj] at z;rw[pY hj] at z;exact hu (by rw[←show u[j]=39 from z];exact aD hj)
 have hln:(tx L).length=L.length:=zU L;rcases StrLaws.find3_spec (tx L) 39 (lo:Int) with⟨_,n⟩|⟨k,e,k1,k2,k3,k4⟩
 ·rw[hlo] at n
  exact absurd hat (n (lo+u.length) (by lia) (by lia))
 ·rw[hlo] at k1 k4
  rw[show(tx [39]:Str)=⟨#[39]⟩ from rfl,e]
  congr 1
  rcases Nat.lt_trichotomy k (lo+u.length) with c | c | c
  ·obtain⟨j,rfl⟩:=Nat.exists_eq_add_of_le k1
   exact absurd k3 (hbe j (by lia))
  ·exact c
  ·exact absurd hat (k4 _ (by lia) c)
end L2
namespace L2
open PySem PySem.Spec PyProof.Rows
section
variable{P:Program}{w:World}{A:Around}{s:Shared}{E:Value→Shared→Prop}
end
section
variable{X:Cx}
end
structure Dm(P:Program)(w:World)(K:W.Frag)(mg:Str→Option Value)(base:Heap)(k:Nat)(C:Addr)(m:Str)(ps:List Str)(sp:Sp):Prop where
 ex:∃(f:Addr)(fd:FuncData),Cls K C∧zIf K C m f∧FnOk P w K mg base CX0 k f fd ps sp∧Binds K fd ps []
structure Dk(P:Program)(w:World)(K:W.Frag)(mg:Str→Option Value)(base:Heap)(k:Nat)(x:Str)(C:Addr)(ps:List Str)(sp:Sp):Prop where
 ex:∃(f:Addr)(fd:FuncData),Mk K C f∧FnOk P w K mg base CX0 k f fd ps sp∧Binds K fd ps []∧mg x=some (.ref C)
section
variable{X:Cx}{k j:Nat}{C:Addr}{x m:Str}{ps:List Str}{sp:Sp}{e o:Expr}{es:List Expr}{t:TA}{ta:TE}{p pos apos:Pos}
theorem zTv{pl:Sem Bool}(D:Dm X.prog X.w X.K X.mg X.base k C m ps sp)(hr:Room j X.A)(hj:k≤j)(he:PE X o ta)(ha:PA X (e::es) t)
  (hst:starEach (e::es) X.env=(false,eval e X.env)::starEach es X.env:=by rfl) (hpl:(backTo pos (starEach es X.env)).any (·.1)=false:=by rfl)
  (ht:eval (.Call (.Attribute o m apos) (e::es) [] pos) X.env=(do
   let ov ←eval o X.env
   standAt apos.atName
   let (f,first) ←holding [ov] (getMethod ov m pl)
   callWith pos f first (backTo pos (starEach (e::es) X.env)) (backToKw pos (keywordEach [] X.env))):=by rfl):
  PE X (.Call (.Attribute o m apos) (e::es) [] pos) (zHt C m sp [] E0 ta t):=by
 obtain⟨f,fd,h1,h2,h3,h4⟩:=D.ex;exact zNe he h1 h2 h3 (hr.mono hj) h4 .nil zMk ha hst hpl ht
theorem pe_mk(D:Dk X.prog X.w X.K X.mg X.base k x C ps sp)(hr:Room j X.A)(hj:k+1≤j)(hg:Gl X x)(ha:PA X (e::es) t)(hdb:(x==("__debug__" :Str))=false:=by decide)
  (he:starEach (e::es) X.env=(false,eval e X.env)::starEach es X.env:=by rfl) (hpl:(backTo pos (starEach es X.env)).any (·.1)=false:=by rfl):PE X (.Call (.Name x p) (e::es) [] pos) (zLq C sp [] E0 t):=by
 obtain⟨f,fd,h1,h2,h3,h4⟩:=D.ex;exact zWp h1 h2 (hr.mono hj) hg h4 h3 .nil zMk ha hdb he hpl
end
def zBq:List (Key×V):=[(Sum.inr (Str.ofString "none"), .non),(Sum.inr (Str.ofString "yes"), .bl true),(Sum.inr (Str.ofString "no"), .bl false)]
def zGe:List (Key×Value):=[(Sum.inr (Str.ofString "none"), .none),(Sum.inr (Str.ofString "yes"), .bool true),(Sum.inr (Str.ofString "no"), .bool false)]
structure Wd(P:Program)(w:World)(K:W.Frag)(mg:Str→Option Value)(wa:Addr):Prop where
 at_:mg "WORDS" =some (.ref wa)
 ns:(wa==sysModules)=false
 dd:∀h:Heap,K.In h→h.DictOf (yQ P w) wa zGe
theorem words_kv:KV zBq zGe:=.cons ⟨rfl,rfl⟩ (.cons ⟨rfl,rfl⟩ (.cons ⟨rfl,rfl⟩ .nil))
section
variable{X:Cx}{wa:Addr}
theorem zXz{x:Str}{p:Pos}(hg:Gl X x)(h:X.mg x=some (.ref wa))(hdb:(x==("__debug__" :Str))=false:=by decide):PE X (.Name x p) (tC (.ref wa)):=jL (v:=.ref wa) hg h rfl hdb
def rInW(wa:Addr):R2:=fun x y H Q=>∃s,x= .str s∧y= .ref wa∧Q (.bl (xT zBq (Sum.inr s)).isSome) H
theorem zTz(W:Wd X.prog X.w X.K X.mg wa):OpR X (compareOp .In) (rInW wa):=by
 intro pins s σ H x y v u Q I rx ry h;obtain⟨z,rfl,rfl,q⟩:=h;cases ry;refine wpAny_in_of (zBl (k:=Sum.inr z) rx) W.ns (W.dd _ I.kIn).mapOf ?_;rw[←(words_kv.val (Sum.inr z)).isSome_eq];exact⟨.bl _,H,I.tok _,rfl,q⟩
def rIxW(wa:Addr):R2:=fun x y H Q=>∃s v,x= .ref wa∧y= .str s∧xT zBq (Sum.inr s)=some v∧Q v H
theorem pe_kd{o i:Expr}{td ty:TE}{pos:Pos}(W:Wd X.prog X.w X.K X.mg wa)(ho:PE X o td)(hi:PE X i ty)(hs:zYn i):PE X (.Subscript o i pos) (tOp (rIxW wa) td ty):=by
 intro pins s σ H Q I h;refine zMo PySem.F.slot_dict_getitem.lookup hs (thn (ho pins s σ H _ I h) fun u s1 ⟨x,H1,I1,rx,q1⟩=>thn (hi pins s1 σ H1 _ I1 q1) fun iv s2 ⟨y,H2,I2,ry,z,vv,ex,ey,hv,q2⟩=>?_);subst ex ey;obtain rfl:u=Value.ref wa:=rx;have dd:=W.dd _ I2.kIn;obtain⟨w',hw,rw'⟩:=RelO.some_of (v:=vv) (o:=valueAt zGe (Sum.inr z)) (by rw[←hv];exact words_kv.val (Sum.inr z));exact⟨dd.typeIs,wpAny_getItem_of (zBl (k:=Sum.inr z) ry) dd.mapOf hw ⟨vv,H2,I2.tok _,rw',q2⟩⟩
def rLst:V→List V→Hp→VK→Prop:=fun x vs H Q=>∃z y,x= .str z∧vs= [.str y]∧z.length≤sizeLine∧Q (.str (Txt.lstripChars z y)) H
theorem zOb:MtR X "str.lstrip" rLst:=by
 intro pins s σ H x vs v us Q I rx rv h;obtain⟨z,y,rfl,rfl,hz,q⟩:=h;obtain⟨t,rfl⟩:=rx;obtain⟨u1,rfl,⟨t1,rfl⟩⟩:=jW rv;refine call_gives F.slot_str_lstrip (sZ _ _ _) F.entry_str_lstrip (F.args_str_lstrip_2 _ _) (gives_str_lstrip_chars z y t t1) (zLs ⟨?_,fun t' k hk=>?_⟩)
 ·split
  ·exact hz
  ·exact fits_stripped _ _ _ hz
 ·exact⟨.str _,H,I.tok _,⟨_,rfl⟩,q⟩
theorem zGr{z:List Nat}{d:Nat}{r:List Nat}(hs:z= []∨z= [45])(hd:d≠45):Txt.lstripChars (tx (z++d::r)) (tx [45])=tx (d::r):=by
 unfold Txt.lstripChars;rw[stripBy_eq];have hc:(tx [45]).cps.contains d=false:=by
  show(#[45]:Array Nat).contains d=false;simp;exact hd
 have hc2:(tx [45]).cps.contains 45=true:=by decide+kernel
 have e0:(tx (z++d::r)).cps.toList=z++d::r:=rfl;have hlo:stripLo (tx [45]).cps.contains true (tx (z++d::r))=z.length:=by
  unfold stripLo;rw[mK rfl,e0];rcases hs with rfl | rfl
  ·rw[nH,rW,hc];rfl
  ·show(List.takeWhile _ (45::d::r)).length=1
   rw[rW,hc2,rW,hc];rfl
 rw[hlo];unfold stripHi;rw[mG (by decide)];show(⟨(z++d::r).toArray.extract z.length (tx (z++d::r)).length⟩:Str)=tx (d::r);rw[zU];show(⟨_⟩:Str)=⟨(d::r).toArray⟩
 congr 1
 rw[←Array.toList_inj];simp
end
end L2
namespace L2
open PySem PySem.Spec PyProof.Rows PySem.W.KIN
end L2
namespace L2
open PySem PySem.Spec PyProof.Rows
def qV(H H':Hp):Hp:=fun b=>match H b with
 | none=>H' b
 | some _=>none
theorem qJ{H H':Hp}{b:Addr}(h:H b=none):qV H H' b=H' b:=by unfold qV;rw[h]
theorem kC{H H':Hp}{b:Addr}{o:HO}(e:qV H H' b=some o):H b=none:=by
 unfold qV at e
 cases h:H b with
 | none=>rfl
 | some _=>rw[h] at e;cases e
end L2
namespace L2
open PySem PySem.Spec PyProof.Rows PySem.W
structure Kp(fs xs:List Addr)(h h':Heap):Prop where
 keep:∀b o,h.get? b=some o→b∉fs→b∉xs→h'.get? b=some o
 slot:∀b o,h.get? b=some o→b∈fs→b∉xs→∃sl,h'.get? b=some {o with slots:=sl}
theorem Kp.refl{fs xs:List Addr}{h:Heap}:Kp fs xs h h:=⟨fun _ _ e _ _=>e,fun _ o e _ _=>⟨o.slots,e⟩⟩
theorem Kp.trans{fs xs ys zs:List Addr}{h h1 h2:Heap}(a:Kp fs xs h h1)(b:Kp fs ys h1 h2)(hz:∀c,c∈xs∨(c∈ys∧h.get? c≠none)→c∈zs):Kp fs zs h h2 where
 keep c o e hf hx:=b.keep c o (a.keep c o e hf fun z=>hx (hz c (.inl z))) hf fun z=>hx (hz c (.inr ⟨z,by rw[e];exact fun z=>nomatch z⟩))
 slot c o e hf hx:=by
  obtain⟨sl,e1⟩:=a.slot c o e hf fun z=>hx (hz c (.inl z));obtain⟨sl2,e2⟩:=b.slot c _ e1 hf fun z=>hx (hz c (.inr ⟨z,by rw[e];exact fun z=>nomatch z⟩));exact⟨sl2,e2⟩
theorem zTx{base h h':Heap}{fs xs:List Addr}(k:Kp fs xs h h'):∀{l:List Env},(∀b∈frs l,b∈fs∧b∉xs)→h.FunFrames base l→h'.FunFrames base l
 | [],_,_=>by rw[Heap.FunFrames.eq_1];exact nJ
 | env::l,hm,hf=>by
  rw[Heap.FunFrames.eq_2] at hf⊢;obtain⟨a,⟨L,o,e1,e2,e3,e4⟩,r⟩:=hf;have hL:L∈frs (env::l):=by unfold frs;rw[rM,e1];exact mH
  obtain⟨sl,e5⟩:=k.slot L o e3 (hm L hL).1 (hm L hL).2;exact⟨a,⟨L,_,e1,e2,e5,e4⟩,zTx k (fun b hb=>hm b (by unfold frs;rw[rM,e1];exact mQ _ hb)) r⟩
def Fl(φ:Value→Prop)(h:Heap)(x T:Addr)(C:Value)(d:Option Addr)(a0 fl:Value):Prop:=∃(oe:Obj)(vs:Array Value)(oT:Obj)(ts:Array Value),h.get? x=some oe∧oe.cls=C∧oe.dict=d∧oe.data= .fields vs∧vs[0]? =some a0∧vs[1]? =some (.ref T)∧T≠x∧h.get? T=some oT∧oT.data= .fields ts∧ts[3]? =some fl∧∃cx,vs[2]? =some cx∧φ cx
theorem zYa{o:Obj}{vs:Array Value}(h:o.data= .fields vs)(f:Array Value→Array Value):Obj.mapFields f o={o with data:=.fields (f vs)}:=by
 obtain⟨c,d,da,sl⟩:=o;cases h
 rfl
section
variable{M:Model}{A:Around}{E:Value→Shared→Prop}{s:Shared}{env:Env}{outer:List Env}{x T L:Addr}{C a0 fl:Value}{d:Option Addr}{base:Heap}{Q:Unit→Shared→Prop}{φ:Value→Prop}
theorem zFk{h:Heap}{a:Addr}{o:Obj}{vs:Array Value}(e:h.get? a=some o)(hd:o.data= .fields vs)(i:Nat)(v:Value):(h.update a (Obj.mapFields fun xs=>xs.setIfInBounds i v)).get? a=some {o with data:=.fields (vs.setIfInBounds i v)}:=by
 rw[←zYa hd (fun xs=>xs.setIfInBounds i v)];exact tU _ e (by rw[zYa hd];rfl)
theorem qE(F:Fl φ s.heap x T C d a0 fl)(q:∀h',Fl φ h' x T C d a0 .none→Kp [] [T] s.heap h'→Q () {s with heap:=h'}):wpAny M A (setFlight (.ref x) none) Q E s:=by
 obtain⟨oe,vs,oT,ts,e1,e2,e3,e4,e5,e6,e7,e8,e9,e10,e11⟩:=F;unfold setFlight;refine mD (pZ e1 e4 e6 ?_);rw[mK (by rfl)];have hsz:3<ts.size:=by
  obtain⟨z,_⟩:=rH.mp e10;exact z
 refine sM e8 e9 hsz ?_;have hT:=zFk e8 e9 3 .none;refine q _ ⟨oe,vs,_,_,(nD _ _ e7).trans e1,e2,e3,e4,e5,e6,e7,hT,rfl, ?_,e11⟩ ⟨fun b o e _ hb=>(nD _ _ fun z=>hb (by rw[z];exact mH)).trans e,fun b o e hb=>nomatch hb⟩;show(ts.setIfInBounds 3 Value.none)[3]? =some Value.none;rw[aF hsz]
theorem zRs{oe:Obj}{vs:Array Value}{head:Value}{b:Bool}(hfr:A.frames=some (env::outer))(hfu:s.heap.FunFrames base (env::outer))(hL:env.frame=some L)(e1:s.heap.get? x=some oe)(hx:x∉frs (env::outer))(e4:oe.data= .fields vs)(e5:vs[0]? =some a0)(hs:1<vs.size)(e11:∃cx,vs[2]? =some cx∧φ cx)
  (q:∀h' T',Fl φ h' x T' oe.cls oe.dict a0 (rawInt L)→Kp (frs (env::outer)) [x] s.heap h'→s.heap.get? T'=none→Q () {s with heap:=h'}):
  wpAny M A (do
   let a ←PySem.frameOf env;let pl ←entryPlaceOf L b;let b ←EntryCells.newEntry head a .none (rawInt L) .none pl
   setField (.ref x) 1 b) Q E s:=by
 refine mD (wpAny_frameOf_fun hfr hfu hL fun h1 so=>?_);refine mD (wpAny_entryPlaceOf fun pl hpl=>?_);refine mD ?_;unfold EntryCells.newEntry newFields;have hpz:(([head,Value.ref L,Value.none,rawInt L,Value.none]++if pl.isEmpty=true then List.replicate 6 Value.none else pl).toArray).size≤sizeLine+2:=by
  have:(if pl.isEmpty=true then List.replicate 6 Value.none else pl).length≤6:=by
   rcases hpl with rfl |⟨a,b,c,d,c9,b10,_,rfl⟩<;>simp
  rw[nF,mC,mJ];simp only[mE,nA]
  lia
 refine aX ?_ hpz;obtain⟨z1,z2,z3⟩:=so;have x1:h1.get? x=some oe:=by rw[z2 x hx];exact e1
 have hlt:x<h1.objs.size:=mW x1;refine sM (mI _ x1) e4 hs ?_;have hnew:h1.objs.size≠x:=aM hlt;have hx2:=zFk (mI (o:={cls:=.type "traceback",data:=.fields ([head,Value.ref L,Value.none,rawInt L,Value.none]++if pl.isEmpty=true then List.replicate 6 Value.none else pl).toArray}) (h:=h1) x1) e4 1 (.ref h1.objs.size);refine q _ h1.objs.size ⟨_,_,_,_,hx2,rfl,rfl,rfl, ?_, ?_,hnew,(nD _ _ (Ne.symm hnew)).trans (nI _ rfl),rfl, ?_,e11.imp fun cx z=>⟨(sC (by decide)).trans z.1,z.2⟩⟩ ⟨fun b o e hb hb2=>?_,fun b o e hb hb2=>?_⟩ ?_
 ·rw[sC (by decide)];exact e5
 ·rw[aF hs]
 ·simp
 ·refine(nD _ _ fun z=>hb2 (by rw[z];exact mH)).trans (mI _ ?_)
  rw[z2 b hb];exact e
 ·obtain⟨sl,e'⟩:=z3 b o e
  exact⟨sl,(nD _ _ fun z=>hb2 (by rw[z];exact mH)).trans (mI _ e')⟩
 ·rw[z1]
  exact sY (mL _)
theorem zRe{oe:Obj}{vs:Array Value}(hfr:A.frames=some (env::outer))(hfu:s.heap.FunFrames base (env::outer))(hL:env.frame=some L)(e1:s.heap.get? x=some oe)(hx:x∉frs (env::outer))(e4:oe.data= .fields vs)(e5:vs[0]? =some a0)(e6:vs[1]? =some .none)(e11:∃cx,vs[2]? =some cx∧φ cx)
  (q:∀h' T',Fl φ h' x T' oe.cls oe.dict a0 (rawInt L)→Kp (frs (env::outer)) [x] s.heap h'→s.heap.get? T'=none→Q () {s with heap:=h'}):wpAny M A (noteFrame (.ref x) env) Q E s:=by
 have hs:1<vs.size:=by
  obtain⟨z,_⟩:=rH.mp e6;exact z
 unfold noteFrame;rw[hL];refine mD (pZ e1 e4 e6 ?_);exact zRs hfr hfu hL e1 hx e4 e5 hs e11 q
theorem zMq(hfr:A.frames=some (env::outer))(hfu:s.heap.FunFrames base (env::outer))(hL:env.frame=some L)(hx:x∉frs (env::outer))(hT:T∉frs (env::outer))(F:Fl φ s.heap x T C d a0 .none)
  (q:∀h' T',Fl φ h' x T' C d a0 (rawInt L)→Kp (frs (env::outer)) [x,T] s.heap h'→s.heap.get? T'=none→Q () {s with heap:=h'}):wpAny M A (noteFrame (.ref x) env) Q E s:=by
 obtain⟨oe,vs,oT,ts,e1,e2,e3,e4,e5,e6,e7,e8,e9,e10,e11⟩:=F;have hs:1<vs.size:=by
  obtain⟨z,_⟩:=rH.mp e6;exact z
 have hsz:3<ts.size:=by
  obtain⟨z,_⟩:=rH.mp e10;exact z
 unfold noteFrame;rw[hL];refine mD (pZ e1 e4 e6 ?_);rw[mK (by rfl)];refine mD (pZ e8 e9 e10 ?_);rw[mG (by intro z;cases (eq_of_beq z))];refine mD (sM e8 e9 hsz ?_);have k1:Kp (frs (env::outer)) [T] s.heap (s.heap.update T (Obj.mapFields fun x=>x.setIfInBounds 3 Value.none)):=⟨fun b o e _ hb=>(nD _ _ fun z=>hb (by rw[z];exact mH)).trans e,fun b o e hb hb2=>⟨o.slots,(nD _ _ fun z=>hb2 (by rw[z];exact mH)).trans e⟩⟩;have hfu2:(s.heap.update T (Obj.mapFields fun x=>x.setIfInBounds 3 Value.none)).FunFrames base (env::outer):=zTx k1 (fun b hb=>⟨hb,fun z=>hT (by rw[←mS.mp z];exact hb)⟩) hfu;have x2:(s.heap.update T (Obj.mapFields fun x=>x.setIfInBounds 3 Value.none)).get? x=some oe:=(nD _ _ e7).trans e1;have q':=zRs (E:=E) (M:=M) (A:=A) (head:=.ref T) (b:=true) (s:={s with heap:=s.heap.update T (Obj.mapFields fun x=>x.setIfInBounds 3 Value.none)}) (Q:=Q) hfr hfu2 hL x2 hx e4 e5 hs e11;rw[e2,e3] at q';refine q' fun h' T' f k n=>q h' T' f (k1.trans k fun c hc=>?_) ?_
 ·rcases hc with z | z
  ·rw[mS.mp z];simp
  ·rw[mS.mp z.1];simp
 ·cases e:s.heap.get? T' with
  | none=>rfl
  | some o=>
   by_cases z:T'=T
   ·subst z
    rw[zFk e8 e9] at n;cases n
   ·have:=k1.keep
    rw[(nD s.heap _ (Ne.symm z)).trans e] at n;cases n
end
section
variable{X:Cx}{pins:List (Addr×Obj)}{σ:St}{H H':Hp}{s s':Shared}{φ:Value→Prop}
theorem ObjOk.got{P:Program}{w:World}{h:Heap}{a:Addr}{o:HO}(x:ObjOk P w H h a o):∃ob,h.get? a=some ob:=by
 induction o with
 | lst xs=>obtain⟨_,its,n,_,e⟩:=x;exact⟨_,e⟩
 | tup xs=>obtain⟨_,its,_,ob,e,_⟩:=x;exact⟨_,e⟩
 | dK kvs=>obtain⟨_,_,vs,_,ob,es,ep,e,_⟩:=x;exact⟨_,e⟩
 | dT kvs=>obtain⟨_,_,xs,_,ob,es,ep,e,_⟩:=x;exact⟨_,e⟩
 | set S n=>obtain⟨ob,es,ep,t,e,_⟩:=x;exact⟨_,e⟩
 | ins C dx fs=>obtain⟨_,_,_,e,_⟩:=x;exact⟨_,e⟩
 | own y=>exact x
 | xd fs=>obtain⟨mA,⟨od,es,ep,e,_⟩,_⟩:=x;exact⟨_,e⟩
 | rng lo hi=>obtain⟨t,u,v,e⟩:=x;exact⟨_,e⟩
 | frz ob u ih=>exact⟨_,x.1⟩
 | tbl ps=>exact⟨_,(show h.get? a=some _ from x)⟩
 | met f y=>exact⟨_,(show h.get? a=some _ from x)⟩
 | ext φ=>exact x.2.1
theorem zGk{B h:Heap}:∀{l:List Env},h.FunFrames B l→∀b∈frs l,∃o,h.get? b=some o∧∀vs:Array Value,o.data≠ .fields vs
 | [],_,b,hb=>nomatch hb
 | env::l,hf,b,hb=>by
  rw[Heap.FunFrames.eq_2] at hf;obtain⟨_,⟨L,o,e1,_,e3,e4⟩,r⟩:=hf;unfold frs at hb;rw[rM,e1] at hb;rcases mF.mp hb with z | z
  ·rw[z];exact⟨o,e3,e4⟩
  ·exact zGk r b z
def CXE(φ:Value→Prop)(P:Program)(w:World):CXT:=fun outer H s E e s'=>∃(x T:Addr)(C:Value)(d:Option Addr)(a0:Value)(H':Hp),e= .ref x∧s'.os=s.os∧AllBare s'.gens∧Un (frs outer) [] H H' s.heap s'.heap∧HOk P w H' s'.heap∧
 s.heap.get? x=none∧s.heap.get? T=none∧H' x=none∧H' T=none∧Fl φ s'.heap x T C d a0 .none∧E C d H'
theorem zLu{fs xs:List Addr}{H0 H':Hp}{h0 h h':Heap}(u:Un fs [] H0 H' h0 h)(k:Kp fs xs h h')(h1:∀b∈xs,h0.get? b=none):Un fs [] H0 H' h0 h' where
 keep b o e n hf hx:=k.keep b o (u.keep b o e n hf hx) hf fun z=>by rw[h1 b z] at e;cases e
 slot b o e n hf hx:=by
  obtain⟨sl,e1⟩:=u.slot b o e n hf hx;obtain⟨sl2,e2⟩:=k.slot b _ e1 hf fun z=>by rw[h1 b z] at e;cases e
  exact⟨sl2,e2⟩
 free b o e n hx:=u.free b o e n hx
 there b o e hx:=by
  obtain⟨o',e'⟩:=u.there b o e hx;have nx:b∉xs:=fun z=>by rw[h1 b z] at e;cases e
  by_cases hf:b∈fs
  ·obtain⟨sl2,e2⟩:=k.slot b _ e' hf nx
   exact⟨_,e2⟩
  ·exact⟨o',k.keep b o' e' hf nx⟩
 tups:=u.tups
 frzs:=u.frzs
 tbls:=u.tbls
theorem zGc{P:Program}{w:World}{H:Hp}{fs xs:List Addr}{h h':Heap}(x:HOk P w H h)(k:Kp fs xs h h')(hf:∀b∈fs,H b=none)(hx:∀b∈xs,H b=none):HOk P w H h':=fun a o e=>
 (x a o e).stay (fun b u hb q=>by
  have hn:H b≠none:=by
   rcases hb with z | z
   ·rw[z,e];exact fun z=>nomatch z
   ·rw[z];exact fun z=>nomatch z
  exact k.keep b u q (fun z=>hn (hf b z)) fun z=>hn (hx b z)) (fun _ q=>q) fun _ _ q=>q
theorem kQ{fs fs' xs:List Addr}{h h':Heap}(k:Kp fs xs h h')(hm:∀b,b∈fs→b∈fs'∨b∈xs):Kp fs' xs h h' where
 keep b o e hf hx:=k.keep b o e (fun z=>(hm b z).elim hf hx) hx
 slot b o e hf hx:=by
  by_cases z:b∈fs
  ·exact k.slot b o e z hx
  ·exact⟨o.slots,k.keep b o e z hx⟩
theorem zWu{E:XK}{e:Value}{EE:Value→Shared→Prop}(I:Inv X pins σ H s)(hs:X.stack=X.env::X.outer)(hf:X.env.frame=some X.env.locals)(hex:X.ex= [])(h:CXE φ X.prog X.w X.stack H s E e s'):
  wpAny (model X.prog X.w) X.A (leaving X.env e) (fun _ s3=>CXE φ X.prog X.w X.outer X.H₀ X.s₀ E e s3) EE s':=by
 obtain⟨x,T,C,d,a0,H',rfl,os,bare,un,hok,hx,hT,hHx,hHT,fl,q⟩:=h;have I2:Inv X pins σ H' s':=I.call' os un hok bare (fun b z=>absurd z (by simp));have old:∀b,s.heap.get? b=none→X.s₀.heap.get? b=none:=fun b hb=>by
  cases e:X.s₀.heap.get? b with
  | none=>rfl
  | some o=>
   obtain⟨o',e'⟩:=I.base.there b o e (by rw[hex];exact fun z=>nomatch z);rw[hb] at e';cases e'
 have hfs:frs X.stack=X.env.locals::X.fs:=by
  rw[hs];unfold frs;rw[rM,hf];rfl
 have hloc:X.s₀.heap.get? X.env.locals=none:=sY I.ok.above;have hfr:=I.ok.frames;rw[hs] at hfr;have nfr:∀b,s.heap.get? b=none→b∉frs X.stack:=fun b hb z=>by
  obtain⟨o,e,_⟩:=zGk I.stack b z;rw[hb] at e;cases e
 have nx:=nfr x hx;have nT:=nfr T hT;have st:=I2.stack;rw[hs] at nx nT st;unfold leaving;refine mD (zMq hfr st hf nx nT fl fun h1 T1 f1 k1 n1=>?_);refine qE f1 fun h2 f2 k2=>?_;rw[←hs] at k1;have hbase:=I2.base;rw[hex] at hbase;have hT1H:H' T1=none:=by
  cases e:H' T1 with
  | none=>rfl
  | some o=>
   obtain⟨ob,hob⟩:=ObjOk.got (I2.hok T1 o e);rw[n1] at hob;cases hob
 have hT1o:X.s₀.heap.get? T1=none:=by
  cases e:X.s₀.heap.get? T1 with
  | none=>rfl
  | some o=>
   obtain⟨o',e'⟩:=hbase.there T1 o e (fun z=>nomatch z);rw[n1] at e';cases e'
 have k3:Kp (frs X.stack) [x,T,T1] s'.heap h2:=k1.trans (kQ k2 fun b hb=>nomatch hb) fun c hc=>by
  rcases hc with z | z
  ·rcases mF.mp z with z | z
   ·rw[z];simp
   ·rw[mS.mp z];simp
  ·rw[mS.mp z.1];simp
 have k4:Kp X.fs [x,T,T1,X.env.locals] s'.heap h2:=by
  have k5:Kp (frs X.stack) [x,T,T1,X.env.locals] s'.heap h2:=k3.trans Kp.refl (ys:=[]) fun c hc=>by
   rcases hc with z | z
   ·rcases mF.mp z with z | z
    ·rw[z];simp
    ·rcases mF.mp z with z | z
     ·rw[z];simp
     ·rw[mS.mp z];simp
   ·exact nomatch z.1
  refine kQ k5 fun b hb=>?_;rw[hfs] at hb;rcases mF.mp hb with z | z
  ·rw[z];exact .inr (by simp)
  ·exact .inl z
 refine⟨x,T1,C,d,a0,H',rfl,I2.os,I2.bare,zLu hbase k4 fun b hb=>?_,zGc I2.hok k3 I2.stkFree fun b hb=>?_,old x hx,hT1o,hHx,hT1H,f2,q⟩
 ·rcases mF.mp hb with z | z
  ·rw[z];exact old x hx
  ·rcases mF.mp z with z | z
   ·rw[z];exact old T hT
   ·rcases mF.mp z with z | z
    ·rw[z];exact hT1o
    ·rw[mS.mp z];exact hloc
 ·rcases mF.mp hb with z | z
  ·rw[z];exact hHx
  ·rcases mF.mp z with z | z
   ·rw[z];exact hHT
   ·rw[mS.mp z];exact hT1H
end
end L2
namespace L2
open PySem PySem.Spec PyProof.Rows PySem.W
def zVr(nm:Str)(C N:Addr)(bm:List Value)(o:Obj):Prop:=∃(q:Str)(bs:List Value)(hdct:Bool)(sn:List Str)(sub:List Value)(ab:Bool)(col:Option Bool)(dd:Option Addr)(k0 k1 k2 k3 k5:Option Value),o=excClassObj nm q C N bs bm hdct sn sub ab col dd k0 k1 k2 k3 k5 "ValueError.__new__"
section
variable{M:Model}{A:Around}{E:Value→Shared→Prop}{s:Shared}{env:Env}
theorem zBs{nm:Str}{C N:Addr}{bm:List Value}{x:Sem Value}{Q:Flow→Shared→Prop}(hb:bm.contains (.type "BaseException")=true)(hh:A.handled=none)
  (h:wpAny M A x (fun v s1=>∃(e:Addr)(oe oC:Obj)(vs:Array Value),v= .ref e∧s1.heap.get? C=some oC∧zVr nm C N bm oC∧s1.heap.get? e=some oe∧oe.cls= .ref C∧oe.data= .fields vs∧vs[1]? =some .none∧E (.ref e) s1) E s):
  wpAny M A (raiseStmt env (some x) none) Q E s:=by
 unfold raiseStmt;refine mD (thn h fun v s1 ⟨e,oe,oC,vs,ev,hC,hX,he,hcl,hd,h1,q⟩=>?_);subst ev;obtain⟨q',bs,hdct,sn,sub,ab,col,dd,k0,k1,k2,k3,k5,rfl⟩:=hX;have hnc:∀c:ClassData,oe.data≠ .cls c:=fun c z=>by rw[hd] at z;cases z
 refine mD (mO ?_);refine mD (pM ?_);unfold excFromValue isExcClass;refine mD (mD (ks_wpAny_isType_inst he hnc ?_));rw[mG mR];refine mO ?_;rw[mG mR];unfold PySem.isInstance;refine mD (mD (sQ he ?_));rw[hcl];refine wpAny_isSubtype_exc hC ?_;rw[show(Value.ref C::bm).contains (Value.type "BaseException")=true by
  rw[tR,hb,tX],mK rfl]
 refine mO ?_;refine mD (ks_wpAny_isType_inst he hnc ?_);rw[mG mR];unfold raisedInstance;refine mD (mD (sQ he ?_));rw[hcl];refine mD (sQ hC ?_);rw[mK (by rfl)];refine mO ?_;refine mD ?_;unfold setFlight;refine mD (pZ he hd h1 ?_);rw[mG (by intro z;cases z)];refine mO ?_;exact wpAny_raiseNew_none hh q
end
end L2
namespace L2
open PySem PySem.Spec PyProof.Rows PySem.W
abbrev veMro:List Value:=[.type "ValueError", .type "Exception", .type "BaseException", .type "object"]
abbrev newExc(C t:Addr):Obj:={cls:=.ref C,data:=.fields #[.ref t, .none, .none, .none, .bool false, .none]}
theorem zUd(a:Args):(Code.builtin "type.__call__" a).quiet=true:=by
 unfold Code.quiet
 first | rfl | kernel_rfl | decide+kernel
theorem zOt(a:Args):(Code.builtin "ValueError.__new__" a).quiet=true:=by
 unfold Code.quiet
 first | rfl | kernel_rfl | decide+kernel
section
variable{prog:Program}{w:World}{A:Around}{K:Frag}{C fI N:Addr}{nm:Str}{bm:List Value}{o:Obj}
theorem zYq{R:Result→Shared→Prop}{rest:List Value}{h:Heap}{g:Array GenState}{d:Drawn}{t:Nat}{os:OsState}(hK:K.In h)(lk:K.lookup C=some o)(hX:zVr nm C N bm o)(ht:tailIn K veMro bm=true)(hi:findIn K (.ref C) "__init__" =some (some (.ref fI)))(hf:typeIn K (.ref fI)=some (.type "function"))(hz:rest.length≤100)
  (hh:codeAny (model prog w) (A.under (.builtin "type.__call__" ⟨.ref C::rest,[]⟩)) (.call (.ref fI) ⟨.ref (h.objs.size+1)::rest,[]⟩) (InitBack (h.objs.size+1) R) ⟨(h.push {cls:=.type "tuple",data:=.seq rest.toArray}).push (newExc C h.objs.size),g,d,t,os⟩):
  codeAny (model prog w) A (.call (.ref C) ⟨rest,[]⟩) R ⟨h,g,d,t,os⟩:=by
 have hC:h.get? C=some o:=hK _ _ lk;obtain⟨q',bs,hdct,sn,sub,ab,col,dd,k0,k1,k2,k3,k5,rfl⟩:=hX;have hT:=tail_of_in hK ht;refine codeAny_of_tree ?_;show wpAny _ _ (callAny (.ref C) ⟨rest,[]⟩) _ _ _;unfold callAny;refine mD (wpAny_load hC ?_);show wpAny _ _ (callAny.viaDunder (.ref C) ⟨rest,[]⟩) _ _ _;unfold callAny.viaDunder specialOf;refine mD (mD (sQ hC ?_));rw[tc_lookup];refine mO ?_;dsimp only;rw[tc_bind];refine mD (mO ?_);dsimp only;refine mD ?_;unfold callAny.plainCallee;refine mO ?_;rw[mK (by rfl)];refine mO ⟨rfl, ?_⟩;refine codeAny_call_builtin_at (zUd _) F.entry_type_call (wpAny_check_type_call_sub hC ?_);show wpAny _ _ (Builtin.«type.__call__» ⟨.ref C::rest,[]⟩) _ _ _;unfold Builtin.«type.__call__»;dsimp only;rw[mG (by intro z;cases (eq_of_beq z))];refine mD (wpAny_mroOf_exc hC ?_);rw[mG (by intro z;cases z)];refine mD (wpAny_madeBy_exc hC ?_);dsimp only;refine mD (mO ?_);refine mD (pM (sE ?_));refine codeAny_call_builtin_code (zOt _) (wpAny_check_new_subT bV hT hC ?_);refine codeAny_exc_new_subT bV hT hC ?_ (by rw[mJ];lia);have k1':∀b ob,h.get? b=some ob→((h.push {cls:=.type "tuple",data:=.seq rest.toArray}).push (newExc C h.objs.size)).get? b=some ob:=fun b ob e=>mI _ (mI _ e);have hsz:(h.push {cls:=.type "tuple",data:=.seq rest.toArray}).objs.size=h.objs.size+1:=tE ..;have he:((h.push {cls:=.type "tuple",data:=.seq rest.toArray}).push (newExc C h.objs.size)).get? (h.objs.size+1)=some (newExc C h.objs.size):=by
  rw[←hsz];exact nI _ rfl
 have hK2:K.In ((h.push {cls:=.type "tuple",data:=.seq rest.toArray}).push (newExc C h.objs.size)):=hK.keeps k1';have hC2:=k1' _ _ hC;unfold PySem.isInstance;refine mD (mD (sQ he ?_));refine wpAny_isSubtype_exc hC2 ?_;rw[show(Value.ref C::bm).contains (Value.ref C)=true by simp,mG (by decide)];refine mD (pM ?_);unfold callSpecial? specialOf;refine mD (mD (sQ he ?_));refine Looks.here (looks_findIn hK2 hi) ?_;dsimp only;refine pM (mD (Looks.here (bind_fn hK2 _ hf) ?_));dsimp only;refine mD (sE (rP hh fun r s' hr=>?_))
 cases r with
 | error e=>exact hr
 | ok fl=>
  cases fl with
  | ret v=>
   obtain⟨rfl,hr⟩:=hr;refine mO ?_;dsimp only;rw[mG (by intro z;cases z)];exact mO hr
  | next=>exact hr.elim
  | brk=>exact hr.elim
  | cont=>exact hr.elim
end
end L2
namespace L2
open PySem PySem.Spec PyProof.Rows PySem.W PySem.Builtin PySem.Builtin.ObjectAttr
section
variable{prog:Program}{w:World}{A:Around}{K:Frag}{C B x:Addr}{cd:ClassData}{ox:Obj}{name:Str}{v:Value}
theorem osa_x{R:Result→Shared→Prop}{s:Shared}{tk:Tok}(hK:K.In s.heap)(hc:clsIn K C=some cd)(hm:cd.mro= .ref C:: .ref B::veMro)(hd:cd.hasDict=true)(hx:s.heap.get? x=some ox)(hcl:ox.cls= .ref C)(hnc:∀c,ox.data≠ .cls c)(hdi:ox.dict=none)
  (hn:findIn K (.ref C) name=some none)
  (q:∀h' t',h'.get? x=some {ox with dict:=some s.heap.objs.size}→h'.Ns1 s.heap.objs.size (fun y=>if y=name then some v else none)→(∀b o,b≠x→s.heap.get? b=some o→h'.get? b=some o)→R (.ok (.ret .none)) {s with heap:=h',toks:=t'}):
  codeAny (model prog w) A (.call (.builtin "object.__setattr__") ⟨[.ref x, .str name tk,v],[]⟩) R s:=by
 have SF:=PySem.F.store_ValueError;obtain⟨h,g,dr,t,os⟩:=s;dsimp only at hK hx q;have tp:Looks (model prog w) h (typeOf (.ref x)) (.ref C):=by
  intro A Q E s k q;refine sQ (k _ _ hx) ?_;rw[hcl];exact q
 have sub:Looks (model prog w) h (isInstance (.ref x) (.type "object")) true:=tp.andThen (looks_mroIn hK (by
  unfold mroIn;rw[hc,cW,mG (by rw[hm];exact mR),hm,tR,tR,show veMro.contains (.type "object")=true by decide,tX,tX]))
 refine aE SF.slot.plain SF.entry (@check_slot (model prog w) _ _ ⟨h,g,dr,t,os⟩ "object.__setattr__" "object" "__setattr__" (.ref x) [.str name tk,v] [] _ SF.kind SF.split sub (SF.args (.ref x) (.str name tk) v) ?_);have hmr:Looks (model prog w) h (mroOf (.ref C)) cd.mro:=(looks_clsIn hK hc).andThen .now;rw[osa_eq,refuse_eq];refine mD (mD (Looks.here tp (mD (Looks.here hmr ?_))));rw[hm,refuseLoop_ref,refuseLoop_ref,SF.passes];refine mO (mD (Looks.here tp (mD (Looks.here (looks_findIn hK hn) (mD ?_)))));refine mO ?_;dsimp only;unfold storeInOwnDict;refine mD (mO ?_);rw[mG (by intro z;cases (eq_of_beq z))];refine mD ?_;show wpAny _ _ (instanceDict x true) _ _ _;unfold instanceDict;refine mD (wpAny_loadPart hx ?_);obtain⟨oc,odi,oda,osl⟩:=ox;dsimp only at hcl hdi hnc;subst hcl hdi;dsimp only;refine mD (Looks.here (looks_clsIn hK hc) ?_);rw[hd];rw[mG (show¬((!true)=true) from mR),mG (by simp[typeHasDict])];have main:wpAny (model prog w) A.in1 (do
     let d ←alloc {cls:=Value.type "dict",data:=Data.dict #[]}
     update x fun o=>{cls:=o.cls,dict:=some d,data:=o.data,slots:=o.slots}
     dictMade (Value.ref C) x d)
   (fun a s'=>
   wpAny (model prog w) A.in1
    (match a with
    | some d=>storeInDict d (Value.str name tk) name v
    | none=>noDictFor (Value.ref x) (Value.ref C) name (none:Option Value).isSome)
    (fun fin s'=>
     match fin with
     | Fin.done f=>R (Except.ok f) s'
     | Fin.again c'=>c'.quiet=true∧codeAny (model prog w) A c' R s')
    (fun e s'=>R (Except.error e) s') s')
  (fun e s'=>R (Except.error e) s') {heap:=h,gens:=g,drawn:=dr,toks:=t,os:=os}:=by
  have hx₁:(h.push {cls:=.type "dict",data:=.dict #[]}).get? x=some _:=mI _ hx;have hxs:x≠h.objs.size:=nQ (mW hx);refine mD (wpAny_alloc' ?_);refine mD (wpAny_update' hx₁ ?_);refine mO ?_;have hgd:((h.push {cls:=.type "dict",data:=.dict #[]}).update x fun o=>{cls:=o.cls,dict:=some h.objs.size,data:=o.data,slots:=o.slots}).get? h.objs.size=some {cls:=.type "dict",data:=.dict #[]}:=
   (Heap.get?_update_ne _ _ _ _ hxs.symm).trans (Heap.get?_push_at rfl rfl)
  have hnd:((h.push {cls:=.type "dict",data:=.dict #[]}).update x fun o=>{cls:=o.cls,dict:=some h.objs.size,data:=o.data,slots:=o.slots}).Ns h.objs.size (fun _=>none):=
   ⟨_,#[],_,hgd,rfl,fun e he=>absurd he (by simp),fun _=>rfl⟩
  show wpAny _ _ (storeInDict h.objs.size (.str name tk) name v) _ _ _;unfold storeInDict newKeyGuard;refine mD (mO (mD (wpAny_nsSet1 (Heap.Ns1.of_empty hnd) fun h' hn' hs=>?_)));obtain⟨oD,esD,epD,hoD,hdD,hcD⟩:=hn'.count (Within.cons name v Within.nil);refine mD (wpAny_lookBehind hoD (by rw[hdD];exact pastItsLine_dict (nR hcD (by rw[mE,nA,mJ];lia))) ?_);refine mO ?_;have hfr:=(Heap.get?_some_iff.mp hx).2;refine q h' _ ((hs.2 x hxs).trans (tU _ hx₁ ?_)) hn' fun b o hb e=>?_
  ·cases oda<;>first | rfl | exact hfr
  ·exact(hs.2 b (nQ (mW e))).trans ((Heap.get?_update_ne _ _ _ _ hb).trans (mI _ e))
 cases oda with
 | cls c=>exact absurd rfl (hnc c)
 | _=>exact main
theorem set_x{E:Value→Shared→Prop}{Q:Unit→Shared→Prop}{s:Shared}(hK:K.In s.heap)(hc:clsIn K C=some cd)(hm:cd.mro= .ref C:: .ref B::veMro)(hd:cd.hasDict=true)(hx:s.heap.get? x=some ox)(hcl:ox.cls= .ref C)(hnc:∀c,ox.data≠ .cls c)(hdi:ox.dict=none)
  (hs:findIn K (.ref C) "__setattr__" =some (some (.builtin "object.__setattr__"))) (hn:findIn K (.ref C) name=some none)
  (q:∀h' t',h'.get? x=some {ox with dict:=some s.heap.objs.size}→h'.Ns1 s.heap.objs.size (fun y=>if y=name then some v else none)→(∀b o,b≠x→s.heap.get? b=some o→h'.get? b=some o)→Q () {s with heap:=h',toks:=t'}):
  wpAny (model prog w) A (setAttr (.ref x) name v) Q E s:=by
 have hno:notCls ox=true:=by
  unfold notCls;obtain⟨oc,odi,oda,osl⟩:=ox
  cases oda with
  | cls c=>exact absurd rfl (hnc c)
  | _=>rfl
 refine set_plain (od:=none) hK ⟨hx,hcl,hno,by rw[hdi];trivial⟩ hs ?_;exact osa_x (s:={s with toks:=s.toks+1}) hK hc hm hd hx hcl hnc hdi hn fun h' t' a b c=>q h' t' a b c
end
end L2
namespace L2
open PySem PySem.Spec PyProof.Rows PySem.W
structure zJw(K:Frag)(nm:Str)(C B fI:Addr):Prop where
 obj:∃(N:Addr)(o:Obj),K.lookup C=some o∧zVr nm C N (.ref B::veMro) o
 cd:∃cd,clsIn K C=some cd∧cd.mro= .ref C:: .ref B::veMro∧cd.hasDict=true
 tl:tailIn K veMro (.ref B::veMro)=true
 init:findIn K (.ref C) "__init__" =some (some (.ref fI))
 fn:typeIn K (.ref fI)=some (.type "function")
 set:findIn K (.ref C) "__setattr__" =some (some (.builtin "object.__setattr__"))
 at_:findIn K (.ref C) "at" =some none
 kp:keepIn K (.ref C)=true
structure zUa(K:Frag)(B:Addr):Prop where
 sp:specialIn K (.ref B) "__getattribute__" =some (some (.builtin "type.__getattribute__"))
 rd:readsIn K B (.type "type")=true
 init:findCls K (.ref B) (.type "type") "__init__" =some (.val (.builtin "ValueError.__init__"))
def exO(x C:Addr)(d:Option Addr):HO:=.ext fun h=>∃vs:Array Value,h.get? x=some {cls:=.ref C,dict:=d,data:=.fields vs}∧vs.size=6∧vs[1]? =some .none∧vs[2]? =some .none
theorem zGx{P:Program}{w:World}{H:Hp}{h:Heap}{x C:Addr}{d:Option Addr}{vs:Array Value}(e:h.get? x=some {cls:=.ref C,dict:=d,data:=.fields vs})(h6:vs.size=6)(h1:vs[1]? =some .none)(h2:vs[2]? =some .none):ObjOk P w H h x (exO x C d):=
 ⟨⟨vs,e,h6,h1,h2⟩,⟨_,e⟩,fun _ _ ⟨vs,e,a,b⟩ k=>⟨vs,k _ e,a,b⟩⟩
theorem yBa{H:Hp}{a:Addr}{o:HO}(h:H a=some o):upd H a o=H:=by
 funext b
 unfold upd;split
 ·rename_i e;rw[e,h]
 ·rfl
theorem Un.also{fs ex:List Addr}{H H1:Hp}{h h':Heap}{a:Addr}{o:HO}(u:Un fs ex H H1 h h')(hp:h.objs.size≤a)(hn:H a=none):Un fs ex H (upd H1 a o) h h' where
 keep:=u.keep
 slot:=u.slot
 free:=fun b ob q n hx=>by rw[zL (nQ (mX (mW q) hp))];exact u.free b ob q n hx
 there:=u.there
 tups:=fun b xs q=>by rw[zL (yI q hn)];exact u.tups b xs q
 frzs:=fun b ob xs q=>by rw[zL (yI q hn)];exact u.frzs b ob xs q
 tbls:=fun b ps q=>by rw[zL (yI q hn)];exact u.tbls b ps q
theorem HOk.also{P:Program}{w:World}{H:Hp}{h:Heap}{a:Addr}{o:HO}(x:HOk P w H h)(hn:H a=none)(new:ObjOk P w (upd H a o) h a o):HOk P w (upd H a o) h:=fun b u e=>by
 by_cases hb:b=a
 ·subst hb;rw[zF] at e;cases e;exact new
 ·rw[zL hb] at e
  exact(x b u e).stay (fun c v _ q=>q) (fun c q=>by rw[zL (yI q hn)];exact q) fun c xs q=>by rw[zL (yI q hn)];exact q
section
variable{X:Cx}{pins:List (Addr×Obj)}{σ:St}{H:Hp}{s:Shared}{x C B fI:Addr}{nm:Str}{d:Option Addr}
theorem zCu(I:Inv X pins σ H s)(h:H x=some (exO x C d)):∃vs:Array Value,s.heap.get? x=some {cls:=.ref C,dict:=d,data:=.fields vs}∧vs.size=6∧vs[1]? =some .none∧vs[2]? =some .none:=(I.hok x _ h).1
theorem zNz{Q:Value→Shared→Prop}{E:Value→Shared→Prop}{u:Value}(c:zJw X.K nm C B fI)(I:Inv X pins σ H s)(hH:H x=some (exO x C d))(q:∀s',Inv X pins σ H s'→Q .none s'):
  wpAny (model X.prog X.w) X.A (call (.builtin "ValueError.__init__") [.ref x,u]) Q E s:=by
 obtain⟨N,o,lk,q',bs,hdct,sn,sub,ab,col,dd,k0,k1,k2,k3,k5,rfl⟩:=c.obj;obtain⟨vs,he,h6,h1,h2⟩:=zCu I hH;have hT:=tail_of_in I.kIn c.tl;have hC:=I.kIn _ _ lk;have I':=I;obtain⟨h,g,dr,t,os⟩:=s;dsimp only at he hC hT;have F:=bV;obtain⟨a0,h0⟩:∃a0,vs[0]? =some a0:=⟨_,rH.mpr ⟨by lia,rfl⟩⟩;refine sE (aE F.init.plain F.initEntry (wpAny_check_init_subT F hT hC he rfl ?_));unfold Builtin.«BaseException.__init__»;dsimp only;rw[mG (by simp)];have hsz:0<vs.size:=by lia
 have he₁:=mI (h:=h) {cls:=.type "tuple",data:=.seq [u].toArray} he;have hup:=zFk he₁ rfl 0 (.ref h.objs.size);have fin:Inv X pins σ H ⟨(h.push {cls:=.type "tuple",data:=.seq [u].toArray}).update x (Obj.mapFields fun xs=>xs.setIfInBounds 0 (.ref h.objs.size)),g,dr,t,os⟩:=by
  rw[←yBa hH];refine Inv.write (t':=t) I' (e:=x) (by rw[hH];exact nJ) (.inl rfl) (fun b ob hb e=>(nD _ _ (Ne.symm hb)).trans (mI _ e)) ⟨_,hup⟩ (zGx hup ?_ ?_ ?_)
  ·rw[Array.size_setIfInBounds];exact h6
  ·rw[sC (by decide)];exact h1
  ·rw[sC (by decide)];exact h2
 refine mD (wpAny_newTuple ?_ (by rw[mJ];simp));unfold Builtin.BaseException.bexcPut;refine mD (mD (pZ he₁ rfl h0 (mD (sM he₁ rfl hsz ?_))));have fin2:=q _ fin
 cases a0 with
 | ref a=>exact wpAny_letGo (mO fin2)
 | _=>exact mO (mO fin2)
end
end L2
namespace L2
open PySem PySem.Spec PyProof.Rows PySem.W
section
variable{X:Cx}{C B fI:Addr}{nm:Str}
def yAg(C:Addr)(t:TA):TE:=fun σ H Q=>t σ H fun vs H1=>∃x v,vs= [.ref x,v]∧H1 x=some (exO x C none)∧Q .non H1
theorem zPp{bn:Str}{p apos pos:Pos}{e:Expr}{es:List Expr}{t:TA}{pl:Sem Bool}(c:zJw X.K nm C B fI)(b:zUa X.K B)(hg:Gl X bn)(hm:X.mg bn=some (.ref B))(ha:PA X (e::es) t)(hdb:(bn==("__debug__" :Str))=false:=by decide)
  (he:starEach (e::es) X.env=(false,eval e X.env)::starEach es X.env:=by rfl) (hpl:(backTo pos (starEach es X.env)).any (·.1)=false:=by rfl)
  (ht:eval (.Call (.Attribute (.Name bn p) "__init__" apos) (e::es) [] pos) X.env=(do
   let ov ←eval (.Name bn p) X.env
   standAt apos.atName
   let (f,first) ←holding [ov] (getMethod ov "__init__" pl)
   callWith pos f first (backTo pos (starEach (e::es) X.env)) (backToKw pos (keywordEach [] X.env))):=by rfl):
  PE X (.Call (.Attribute (.Name bn p) "__init__" apos) (e::es) [] pos) (yAg C t):=by
 intro pins s σ H Q I h;refine methodCall_KW (pl:=pl) (wS I hg hm ?_ hdb) ht;refine method_cls I.kIn b.sp (cls_value I.kIn b.rd b.init (by decide+kernel) ?_);have I1:=I.tok (s.toks+1);refine bP (thn (ha pos pins _ σ H _ I1 h) fun us s2 ⟨vs,H2,I2,r,x,v,e1,e2,q⟩=>?_) he hpl;subst e1;obtain⟨u1,u2,rfl,r1⟩:∃u1 u2,us= [u1,u2]∧RelV (.ref x) u1:=by
  cases r with
  | cons a r=>
   cases r with
   | cons b r=>cases r;exact⟨_,_,rfl,a⟩
 obtain rfl:u1=Value.ref x:=r1;exact zNz c I2 e2 fun s' I3=>⟨.non,H2,I3,rfl,q⟩
def tXSet(C:Addr)(f:Str)(tv ta:TE):TS:=fun D σ H=>tv σ H fun v H1=>ta σ H1 fun o H2=>∃x,o= .ref x∧H2 x=some (exO x C none)∧∀d,H2 d=none→D.nx σ (upd (upd H2 x (exO x C (some d))) d (.xd [(f,v)]))
theorem zXm{o value:Expr}{pos' pos:Pos}{tv ta:TE}(c:zJw X.K nm C B fI)(hv:PE X value tv)(ha:PE X o ta)(hs:swapsWith value (some (.Attribute o "at" pos')) pos.line X.env=pure false:=by rfl):PS X (.Assign [.Attribute o "at" pos'] value pos) (tXSet C "at" tv ta):=by
 intro pins s σ H D I h;refine bL (thn (hv pins s σ H _ I h) fun u s1 ⟨y,H1,I1,ry,q⟩=>thn (ha pins s1 σ H1 _ I1 q) fun ov s2 ⟨z,H2,I2,rx,x,ez,hH,q2⟩=>?_) hs;subst ez;obtain rfl:ov=Value.ref x:=rx;obtain⟨vs,he,h6,h1,h2⟩:=zCu I2 hH;obtain⟨cd,hc,hm,hd⟩:=c.cd;refine set_x I2.kIn hc hm hd he rfl (fun _ z=>by cases z) rfl c.set c.at_ fun h' t' g1 g2 g3=>?_;have hfr:H2 s2.heap.objs.size=none:=I2.fresh;have hne:s2.heap.objs.size≠x:=fun z=>by rw[z,hH] at hfr;cases hfr
 have hmu:Mut (H2 x):=by rw[hH];exact nJ
 have u1:Un X.fs [] H2 (upd H2 x (exO x C (some s2.heap.objs.size))) s2.heap h':=Un.write (e:=x) hmu (.inl rfl) g3 ⟨_,g1⟩;have k1:HOk X.prog X.w (upd H2 x (exO x C (some s2.heap.objs.size))) h':=I2.hok.write (e:=x) hmu (.inl rfl) g3 ⟨_,g1⟩ (zGx g1 h6 h1 h2);refine⟨σ,_,I2.un (t':=t') (u1.also (a:=s2.heap.objs.size) (o:=.xd [("at",y)]) (mL _) hfr) (k1.also (by rw[zL hne];exact hfr) ?_),q2 _ hfr⟩;refine⟨_,g2,fun f=>?_⟩;show RelO (List.lookup f [("at",y)]) _;rw[pE,List.lookup_nil]
 by_cases z:f= "at"
 ·subst z
  rw[mK rfl,tI];exact ry
 ·rw[mG z,show(f==("at" :Str))=false from rV.mpr z]
  trivial
def zAy(C:Addr):Sp:=fun vs H Q _=>∃x v0 v,vs= [.ref x,v0,v]∧H x=some (exO x C none)∧∀d,H d=none→Q .non (upd (upd H x (exO x C (some d))) d (.xd [("at",v)]))
end
section
variable{X:Cx}{pins:List (Addr×Obj)}{σ:St}{H:Hp}{s:Shared}{x C:Addr}{d:Option Addr}{φ:Value→Prop}
def drp(H:Hp)(x:Addr):Hp:=fun b=>if b=x then none else H b
theorem jK{b:Addr}(h:b≠x):drp H x b=H b:=mG h
theorem zBy:drp H x x=none:=mK rfl
theorem zEh{E:XK}{EE:Value→Shared→Prop}(I:Inv X pins σ H s)(hs:X.stack=X.env::X.outer)(hf:X.env.frame=some X.env.locals)(hex:X.ex= [])(hH:H x=some (exO x C d))(hx0:X.s₀.heap.get? x=none)(hφ:φ .none)(q:E (.ref C) d (drp H x)):
  wpAny (model X.prog X.w) X.A (leaving X.env (.ref x)) (fun _ s3=>CXE φ X.prog X.w X.outer X.H₀ X.s₀ E (.ref x) s3) EE s:=by
 obtain⟨vs,he,h6,h1,h2⟩:=zCu I hH;obtain⟨a0,h0⟩:∃a0,vs[0]? =some a0:=⟨_,rH.mpr ⟨by lia,rfl⟩⟩;have hfs:frs X.stack=X.env.locals::X.fs:=by
  rw[hs];unfold frs;rw[rM,hf];rfl
 have hloc:X.s₀.heap.get? X.env.locals=none:=sY I.ok.above;have hfr:=I.ok.frames;rw[hs] at hfr;have nx:x∉frs X.stack:=fun z=>by
  have:=I.stkFree x z;rw[hH] at this;cases this
 have st:=I.stack;have nx':=nx;rw[hs] at nx' st;unfold leaving;refine mD (zRe (φ:=φ) hfr st hf he nx' rfl h0 h1 ⟨_,h2,hφ⟩ fun h1 T1 f1 k1 n1=>?_);refine qE f1 fun h2 f2 k2=>?_;rw[←hs] at k1;have hbase:=I.base;rw[hex] at hbase;have hT1H:H T1=none:=by
  cases e:H T1 with
  | none=>rfl
  | some o=>
   obtain⟨ob,hob⟩:=ObjOk.got (I.hok T1 o e);rw[n1] at hob;cases hob
 have hT1o:X.s₀.heap.get? T1=none:=by
  cases e:X.s₀.heap.get? T1 with
  | none=>rfl
  | some o=>
   obtain⟨o',e'⟩:=hbase.there T1 o e (fun z=>nomatch z);rw[n1] at e';cases e'
 have k3:Kp (frs X.stack) [x,T1] s.heap h2:=k1.trans (kQ k2 fun b hb=>nomatch hb) fun c hc=>by
  rcases hc with z | z
  ·rw[mS.mp z];simp
  ·rw[mS.mp z.1];simp
 have k4:Kp X.fs [x,T1,X.env.locals] s.heap h2:=by
  have k5:Kp (frs X.stack) [x,T1,X.env.locals] s.heap h2:=k3.trans Kp.refl (ys:=[]) fun c hc=>by
   rcases hc with z | z
   ·rcases mF.mp z with z | z
    ·rw[z];simp
    ·rw[mS.mp z];simp
   ·exact nomatch z.1
  refine kQ k5 fun b hb=>?_;rw[hfs] at hb;rcases mF.mp hb with z | z
  ·rw[z];exact .inr (by simp)
  ·exact .inl z
 have u1:Un X.fs [] X.H₀ H X.s₀.heap h2:=zLu hbase k4 fun b hb=>by
  rcases mF.mp hb with z | z
  ·rw[z];exact hx0
  ·rcases mF.mp z with z | z
   ·rw[z];exact hT1o
   ·rw[mS.mp z];exact hloc
 have ne:∀b o,H b=some o→(∀φ,o≠ .ext φ)→b≠x:=fun b o e n z=>by
  subst z;rw[hH] at e;exact n _ (nV e).symm
 have u2:Un X.fs [] X.H₀ (drp H x) X.s₀.heap h2:=⟨u1.keep,u1.slot,fun b ob e n hx=>by
   rw[jK (fun z=>by subst z;rw[hx0] at e;cases e)];exact u1.free b ob e n hx,u1.there,
  fun b xs e=>by have z:=u1.tups b xs e;rw[jK (ne b _ z fun _ y=>nomatch y)];exact z,
  fun b ob xs e=>by have z:=u1.frzs b ob xs e;rw[jK (ne b _ z fun _ y=>nomatch y)];exact z,
  fun b ps e=>by obtain⟨m,z⟩:=u1.tbls b ps e;exact⟨m,by rw[jK (ne b _ z fun _ y=>nomatch y)];exact z⟩⟩
 have ok1:HOk X.prog X.w (drp H x) s.heap:=fun b o e=>by
  by_cases z:b=x
  ·subst z;rw[zBy] at e;cases e
  ·rw[jK z] at e
   exact(I.hok b o e).stay (fun _ _ _ q=>q) (fun c q=>by rw[jK (ne c _ q fun _ y=>nomatch y)];exact q) fun c xs q=>by rw[jK (ne c _ q fun _ y=>nomatch y)];exact q
 have dn:∀b,H b=none→drp H x b=none:=fun b e=>by
  unfold drp;split
  ·rfl
  ·exact e
 refine⟨x,T1, .ref C,d,a0,drp H x,rfl,I.os,I.bare,u2,zGc ok1 k3 (fun b hb=>dn b (I.stkFree b hb)) fun b hb=>?_,hx0,hT1o,zBy,dn _ hT1H,f2,q⟩;rcases mF.mp hb with z | z
 ·rw[z];exact zBy
 ·rw[mS.mp z];exact dn _ hT1H
end
end L2
namespace L2
open PySem PySem.Spec PyProof.Rows PySem.W
theorem zTp{H:Hp}{x d:Addr}{o u:HO}(hx:H x=none)(hd:d≠x):drp (upd (upd H x o) d u) x=upd H d u:=by
 funext b
 by_cases z:b=x
 ·subst z
  rw[zBy,zL (Ne.symm hd),hx]
 ·rw[jK z]
  by_cases y:b=d
  ·subst y;rw[zF,zF]
  ·rw[zL y,zL z,zL y]
section
variable{X:Cx}{C B fI:Addr}{nm:Str}{k:Nat}{fd:FuncData}{ps:List Str}
theorem zOz{pins:List (Addr×Obj)}{σ:St}{H:Hp}{s:Shared}{Qx:Value→Shared→Prop}{us:List Value}{v0 v:V}(c:zJw X.K nm C B fI)(F:FnOk X.prog X.w X.K X.mg X.base CX0 k fI fd ps (zAy C))(hr:Room (k+1) X.A)(hb:Binds X.K fd ps [])(I:Inv X pins σ H s)(r:Vals [v0,v] us)
  (q:∀x d s',X.s₀.heap.get? x=none→H x=none→H d=none→d≠x→Inv X pins σ (upd (upd H x (exO x C (some d))) d (.xd [("at",v)])) s'→Qx (.ref x) s'):wpAny (model X.prog X.w) X.A (call (.ref C) us) Qx X.xe s:=by
 obtain⟨N,o,lk,hX⟩:=c.obj;have hus:us.length≤100:=by rw[←r.length];show(2:Nat)≤100;decide
 have hx0:X.s₀.heap.get? (s.heap.objs.size+1)=none:=sY (nR I.sz (tS _));have hHx:H (s.heap.objs.size+1)=none:=I.hok.fresh (tS _);have he:((s.heap.push {cls:=.type "tuple",data:=.seq us.toArray}).push (newExc C s.heap.objs.size)).get? (s.heap.objs.size+1)=some (newExc C s.heap.objs.size):=by
  rw[←(tE .. :(s.heap.push {cls:=.type "tuple",data:=.seq us.toArray}).objs.size=s.heap.objs.size+1)];exact nI _ rfl
 have I2:=I.laid (t':=s.toks) (a:=s.heap.objs.size+1) (o:=exO (s.heap.objs.size+1) C none) (h':=(s.heap.push {cls:=.type "tuple",data:=.seq us.toArray}).push (newExc C s.heap.objs.size)) (fun b ob e=>mI _ (mI _ e)) (tS _) (zGx he rfl rfl rfl);have r2:Vals [V.ref (s.heap.objs.size+1),v0,v] (Value.ref (s.heap.objs.size+1)::us):=.cons rfl r;have hsp:zAy C [V.ref (s.heap.objs.size+1),v0,v] (upd H (s.heap.objs.size+1) (exO (s.heap.objs.size+1) C none)) (fun u H2=>u= .non∧∃d,H d=none∧d≠s.heap.objs.size+1∧H2=upd (upd H (s.heap.objs.size+1) (exO (s.heap.objs.size+1) C (some d))) d (.xd [("at",v)])) E0:=by
  refine⟨_,v0,v,rfl,zF,fun d hd=>⟨rfl,d, ?_⟩⟩;have hne:d≠s.heap.objs.size+1:=fun z=>by rw[z,zF] at hd;cases hd
  rw[zL hne] at hd;exact⟨hd,hne,by rw[zWq]⟩
 have hl:((Value.ref (s.heap.objs.size+1)::us)++ []).length=ps.length:=by
  rw[mN,←r2.length];exact F.len _ _ _ _ hsp
 have hbt:=hb _ (Value.ref (s.heap.objs.size+1)::us) I2.kIn hl;rw[mN] at hbt;have run:=F.run _ X.stack _ _ ⟨Value.ref (s.heap.objs.size+1)::us,[]⟩ (Value.ref (s.heap.objs.size+1)::us) _ _ E0 (hr.make C us []) (I2.env0.make C us []) hbt r2 hsp;have I1:=I;obtain⟨h,g,dr,t,os⟩:=s;refine sE (zYq I1.kIn lk hX c.tl c.init c.fn hus (rP run fun r s' hq'=>?_))
 cases r with
 | error e=>exact False.elim hq'
 | ok fl=>
  cases fl with
  | ret u=>
   obtain⟨v',H',I3,rv,ev,d,hd,hne,rfl⟩:=I2.after hq';subst ev;exact⟨rv,q _ d s' hx0 hHx hd hne I3⟩
  | next=>exact False.elim hq'
  | brk=>exact False.elim hq'
  | cont=>exact False.elim hq'
def zAx(C:Addr)(E:XK)(t:TA):TS:=fun _ σ H=>t σ H fun vs H1=>∃v0 v,vs= [v0,v]∧∀d,H1 d=none→E (.ref C) (some d) (upd H1 d (.xd [("at",v)]))
structure Xr(P:Program)(w:World)(K:Frag)(mg:Str→Option Value)(base:Heap)(k:Nat)(cn:Str)(C:Addr):Prop where
 ex:∃(nm:Str)(B fI:Addr)(fd:FuncData)(ps:List Str),zJw K nm C B fI∧FnOk P w K mg base CX0 k fI fd ps (zAy C)∧Binds K fd ps []∧mg cn=some (.ref C)
def Lvs(φ:Value→Prop)(X:Cx)(E:XK):Prop:=X.stack=X.env::X.outer∧X.env.frame=some X.env.locals∧X.ex= []∧φ .none∧∀e s',wpAny (model X.prog X.w) X.A (leaving X.env e) (fun _ s3=>CXE φ X.prog X.w X.outer X.H₀ X.s₀ E e s3) (fun e' s3=>CXE φ X.prog X.w X.outer X.H₀ X.s₀ E e' s3) s'→X.xe e s'
theorem zXt{φ:Value→Prop}{E:XK}(l:Lvs φ X E):jX (CXE φ X.prog X.w) X E:=fun _ _ _ _ e s' I h=>l.2.2.2.2 e s' (zWu I l.1 l.2.1 l.2.2.1 h)
theorem xY{φ:Value→Prop}{E:XK}{cn:Str}{p pos rpos:Pos}{e:Expr}{es:List Expr}{t:TA}{j:Nat}(R:Xr X.prog X.w X.K X.mg X.base k cn C)(hr:Room j X.A)(hj:k+1≤j)(hg:Gl X cn)(hcalm:X.calm=true)(l:Lvs φ X E)(ha:PA X (e::es) t)(hdb:(cn==("__debug__" :Str))=false:=by decide)
  (he:starEach (e::es) X.env=(false,eval e X.env)::starEach es X.env:=by rfl) (hpl:(backTo pos (starEach es X.env)).any (·.1)=false:=by rfl):PS X (.Raise (some (.Call (.Name cn p) (e::es) [] pos)) none rpos) (zAx C E t):=by
 intro pins s σ H D I h;obtain⟨nm,B,fI,fd,ps,c,F,hb,hm⟩:=R.ex;obtain⟨hs,hf,hex,hφ,hxe⟩:=l;rw[arm_exec_Raise];refine mD (sX ?_);show wpAny _ _ (raiseStmt X.env (some (do let v ←eval (.Call (.Name cn p) (e::es) [] pos) X.env;standAt rpos;pure v)) none) _ _ _;obtain⟨N,o,lk,hX⟩:=c.obj;refine zBs (nm:=nm) (C:=C) (N:=N) (bm:=.ref B::veMro) (by rw[tR,show veMro.contains (.type "BaseException")=true by decide,tX]) (I.ok.hd.1 hcalm) (mD ?_);refine pW (wS I hg hm ?_ hdb);refine callWith_K (h₀:=X.base) I.ok.mod.kin c.kp (thn (ha pos pins s σ H _ I h) fun us s1 ⟨vs,H1,I1,r,v0,v,ev,q⟩=>⟨I1.kIn, ?_⟩) he hpl;subst ev;refine zOz c F (hr.mono hj) hb I1 r fun x d s2 hx0 hx hd hne I2=>?_;refine mD (sX (mO ?_));have hH:upd (upd H1 x (exO x C (some d))) d (.xd [("at",v)]) x=some (exO x C (some d)):=by rw[zL (Ne.symm hne),zF]
 obtain⟨vs,e1,h6,h1,h2⟩:=zCu I2 hH;refine⟨x,_,_,vs,rfl,I2.kIn _ _ lk,hX,e1,rfl,rfl,h1,hxe _ _ (zEh I2 hs hf hex hH hx0 hφ ?_)⟩;rw[zTp hx hne];exact q d hd
end
structure Dx(φ:Value→Prop)(P:Program)(w:World)(K:PySem.W.Frag)(mg:Str→Option Value)(base:Heap)(k:Nat)(x:Str)(ps:List Str)(sp:Sp):Prop where
 ex:∃(f:Addr)(fd:FuncData),FnOk P w K mg base (CXE φ P w) k f fd ps sp∧Binds K fd ps []∧PySem.W.keepIn K (.ref f)=true∧mg x=some (.ref f)
section
variable{X:Cx}{k j:Nat}{x:Str}{ps:List Str}{sp:Sp}{e:Expr}{es:List Expr}{t:TA}{p pos:Pos}{E:XK}
theorem zIp{φ:Value→Prop}(D:Dx φ X.prog X.w X.K X.mg X.base k x ps sp)(hr:Room j X.A)(hj:k≤j)(hg:Gl X x)(l:Lvs φ X E)(ha:PA X (e::es) t)(hdb:(x==("__debug__" :Str))=false:=by decide)
  (he:starEach (e::es) X.env=(false,eval e X.env)::starEach es X.env:=by rfl) (hpl:(backTo pos (starEach es X.env)).any (·.1)=false:=by rfl):PE X (.Call (.Name x p) (e::es) [] pos) (jQ sp [] E t):=by
 obtain⟨f,fd,h1,h2,h3,h4⟩:=D.ex;exact zMw h1 (hr.mono hj) hg h4 h3 h2 .nil (zXt l) ha hdb he hpl
end
section
variable{P:Program}{w:World}{K:PySem.W.Frag}{mg:Str→Option Value}{base:Heap}{k:Nat}{f:Addr}{fd:FuncData}{ps:List Str}{sp sp':Sp}{CX:CXT}
theorem FnOk.lift(F:FnOk P w K mg base CX0 k f fd ps sp):FnOk P w K mg base CX k f fd ps sp:=
 ⟨F.len,fun A outer s H args us vs Q E hr he hb hv hs=>rP (F.run A outer s H args us vs Q E hr he hb hv hs) fun r s' h=>by
  cases r with
  | error e=>exact False.elim h
  | ok fl=>cases fl<;>exact h⟩
theorem FnOk.or(F:FnOk P w K mg base CX k f fd ps sp)(G:FnOk P w K mg base CX k f fd ps sp'):FnOk P w K mg base CX k f fd ps fun vs H Q E=>sp vs H Q E∨sp' vs H Q E:=
 ⟨fun vs H Q E h=>h.elim (F.len vs H Q E) (G.len vs H Q E),fun A outer s H args us vs Q E hr he hb hv hs=>hs.elim (F.run A outer s H args us vs Q E hr he hb hv) (G.run A outer s H args us vs Q E hr he hb hv)⟩
theorem Fun.okx{φ:Value→Prop}{x qual:Str}{st:Stmt}{N:List Str}(F:Fun K x qual st f fd)(S:zV N ps (zO st))(len:∀vs H Q E,sp vs H Q E→vs.length=ps.length)
  (hbody:∀(cdv:Value)(A:Around)(outer:List Env)(s:Shared)(H:Hp)(vs:List V)(Q:VK)(E:XK),Room k (A.deeper (envOfC qual (zO st) s.heap.objs.size f cdv))→sp vs H Q E→
   ∃t,PSs (zBk (CXE φ P w) P w K mg base N qual (zO st) f cdv A outer s H E) (yV st) t∧t {nx:=fun _ H'=>Q .non H',rt:=Q} (qI N vs) H):FnOk P w K mg base (CXE φ P w) (k+1) f fd ps sp:=by
 obtain⟨oc,od,kV,doc,pm,an,cdv,ct,osl,rfl,lk,hcd⟩:=F.ex;exact zTt lk hcd S len fun A outer s H vs Q E hr hsp=>hbody cdv A outer s H vs Q E hr hsp
theorem lvs{φ:Value→Prop}{N:List Str}{qual:Str}{scope:Scope}{cd:Value}{A:Around}{outer:List Env}{s:Shared}{H:Hp}{E:XK}(hφ:φ .none:=by first | rfl | trivial):Lvs φ (zBk (CXE φ P w) P w K mg base N qual scope f cd A outer s H E) E:=⟨rfl,rfl,rfl,hφ,fun _ _ h=>h⟩
end
end L2
namespace L2
open PySem PySem.Spec PyProof.Rows PySem.W PySem.Builtin PySem.Builtin.ObjectAttr
structure gR(K:Frag)(C:Addr):Prop where
 ga:findIn K (.ref C) "__getattribute__" =some (some (.builtin "BaseException.__getattribute__"))
 gt:findIn K (.ref C) "__getattr__" =some none
 bx:mroIn K C (.type "BaseException")=some true
 ob:mroIn K C (.type "object")=some true
 hd:hasDictIn K C=true
 cl:findIn K (.ref C) "__class__" =some (some (.builtin "object.__class__"))
 cg:specialIn K (.builtin "object.__class__") "__get__" =some (some (.builtin "getset_descriptor.__get__"))
 ct:takesIn K (.builtin "object.__class__")=some true
section
variable{prog:Program}{w:World}{A:Around}{K:Frag}{C x:Addr}{ox od:Obj}{name:Str}{E:Value→Shared→Prop}{s:Shared}
theorem yAb{tk:Tok}{fill expr:Bool}{Q:Value→Shared→Prop}(G:gR K C)(hK:K.In s.heap)(I:InstAt s.heap x ox C (some od))
  (h:wpAny (model prog w) A.in1 (Builtin.«object.__getattribute__» ⟨[.ref x, .str name tk],[]⟩) (fun fin s'=>match fin with | .done (.ret v)=>wpAny (model prog w) A (handedOut v) Q E s' | _=>False) (fun _ _=>False) s):
  wpAny (model prog w) A (getAttrBy (.ref x) (.str name tk) fill expr) Q E s:=by
 have hb:Looks (model prog w) s.heap (hookBefore (.ref C)) none:=looks_hook hK (by rw[mK (by rfl)];exact G.gt);have ht:=I.type (M:=model prog w);unfold getAttrBy;refine pM (mD (ht _ _ _ _ (fun _ _ e=>e) (mD (looks_findIn hK G.ga _ _ _ _ (fun _ _ e=>e) ?_))));dsimp only;rw[show(onTheHeap (Value.ref C)&& Value.builtin "BaseException.__getattribute__" ==Value.builtin "object.__getattribute__")=false from by rw[show(Value.builtin "BaseException.__getattribute__" ==Value.builtin "object.__getattribute__")=false from by decide+kernel,aV],mG (by decide)];unfold getAttrByItsOwn;refine mD (hb _ _ _ _ (fun _ _ e=>e) (mD (tK (pM ?_))));unfold callGetattribute;rw[show(expr && onTheHeap (Value.builtin "BaseException.__getattribute__"))=false from aV _,mG (by decide)];unfold boundAndCalled;have FB:=PySem.F.attr_ValueError;rw[FB.ga.bind];refine mD (mO ?_);show wpAny _ _ (call (.builtin "BaseException.__getattribute__") [.ref x, .str name tk]) _ _ _;refine sE ?_;refine aE FB.ga.plain PySem.F.entry_bexc_ga ?_;refine @check_slot (model prog w) _ _ s "BaseException.__getattribute__" "BaseException" "__getattribute__" (.ref x) [.str name tk] [] _ (by decide+kernel) (by decide+kernel) (ht.andThen (looks_mroIn hK G.bx)) (PySem.F.args_bexc_ga (.ref x) (.str name tk)) ?_;refine pV h (fun fin s' z=>?_) fun _ _ z=>z.elim;rcases fin with(_ | _ | _ | _)| _<;>first | exact z | exact z.elim
theorem zPb{v:Value}{expr:Bool}{Q:Value→Shared→Prop}(G:gR K C)(hK:K.In s.heap)(I:InstAt s.heap x ox C (some od))(hf:findObj K C (some od) name=some (.value v))(hh:handedIn v=true)(h:Q v {s with toks:=s.toks+1}):
  wpAny (model prog w) A (getAttr (.ref x) name expr) Q E s:=by
 unfold getAttr;refine mD (wpAny_mkText (yAb (s:={s with toks:=s.toks+1}) G hK I ?_));obtain⟨hh',g,d,t,os⟩:=s;have L0:=I.type (M:=model prog w);have L1:=looks_find (M:=model prog w) hK I hf;unfold Builtin.«object.__getattribute__»;refine mD (mO (mD (mO (mD (L0.at (mD (L1.at ?_)))))));refine mO ?_;show wpAny _ _ (handedOut v) _ _ _;rw[handedOut_of hh];exact mO h
end
end L2
namespace L2
open PySem PySem.Spec PyProof.Rows PySem.W
abbrev Cx.mark(X:Cx)(v:Value):Cx:={X with A:=X.A.mark (some v),calm:=false,cool:=false,xe:=fun _ _=>False}
abbrev Cx.pend(X:Cx)(pins:List (Addr×Obj))(W:Value→Shared→Prop):Cx:={X with pn:=X.pn++pins,xe:=W}
section
variable{X:Cx}{pins pins':List (Addr×Obj)}{σ:St}{H:Hp}{s:Shared}{v:Value}{W:Value→Shared→Prop}
theorem Cx.Ok.mark(ok:X.Ok):(X.mark v).Ok:=
 ⟨ok.mod,ok.kind,ok.glob,ok.blt,ok.above,ok.inj,ok.has,ok.cab,⟨(fun z=>nomatch z),fun z=>nomatch z⟩,ok.frames,ok.stk,ok.exf,ok.bs,ok.bsz,ok.noex,ok.exfs,ok.funs,ok.frf⟩
theorem Inv.mark(I:Inv X pins σ H s):Inv (X.mark v) pins σ H s:=⟨I.ok.mark,I.os,I.bare,I.base,I.loc,I.cell,I.free,I.freeC,I.pin,I.hok,I.len⟩
theorem Inv.unmark(ok:X.Ok)(I:Inv (X.mark v) pins σ H s):Inv X pins σ H s:=⟨ok,I.os,I.bare,I.base,I.loc,I.cell,I.free,I.freeC,I.pin,I.hok,I.len⟩
theorem Cx.Ok.pend(ok:X.Ok):(X.pend pins W).Ok:=
 ⟨ok.mod,ok.kind,ok.glob,ok.blt,ok.above,ok.inj,ok.has,ok.cab,ok.hd,ok.frames,ok.stk,ok.exf,ok.bs,ok.bsz,ok.noex,ok.exfs,ok.funs,ok.frf⟩
theorem Inv.pend(I:Inv X pins σ H s):Inv (X.pend pins W) [] σ H s:=⟨I.ok.pend,I.os,I.bare,I.base,I.loc,I.cell,I.free,I.freeC,fun p hp=>I.pin p (by rw[mN] at hp;exact hp),I.hok,I.len⟩
theorem Inv.unpend(ok:X.Ok)(I:Inv (X.pend pins W) pins' σ H s):Inv X pins σ H s:=⟨ok,I.os,I.bare,I.base,I.loc,I.cell,I.free,I.freeC,fun p hp=>I.pin p (sD _ hp),I.hok,I.len⟩
theorem Inv.track{x:Addr}{o:HO}(I:Inv X pins σ H s)(hx:H x=none)(h0:X.s₀.heap.get? x=none)(hl:x≠X.env.locals)(hc:∀y c,X.env.cells.lookup y=some c→c≠x)(hp:∀p∈X.pn++pins,p.1≠x)
  (new:ObjOk X.prog X.w (upd H x o) s.heap x o):Inv X pins σ (upd H x o) s where
 ok:=I.ok
 os:=I.os
 bare:=I.bare
 base:=⟨I.base.keep,I.base.slot,fun b ob e n hx'=>by rw[zL (fun z=>by subst z;rw[h0] at e;cases e)];exact I.base.free b ob e n hx',I.base.there,
  fun b xs e=>by have z:=I.base.tups b xs e;rw[zL (yI z hx)];exact z,fun b ob xs e=>by have z:=I.base.frzs b ob xs e;rw[zL (yI z hx)];exact z,
  fun b ps e=>by obtain⟨m,z⟩:=I.base.tbls b ps e;exact⟨m,by rw[zL (yI z hx)];exact z⟩⟩
 loc:=I.loc
 cell:=I.cell
 free:=by rw[zL (Ne.symm hl)];exact I.free
 freeC:=fun y c e=>by rw[zL (hc y c e)];exact I.freeC y c e
 pin:=fun p q=>let ⟨a,b,c⟩:=I.pin p q;⟨a,by rw[zL (hp p q)];exact b,c⟩
 hok:=I.hok.also hx new
 len:=I.len
theorem Inv.wiped{h':Heap}{m':Str→Option Value}{t':Nat}(I:Inv X pins σ H s)(hn':h'.Ns X.env.locals m')(hs:Heap.SameBut X.env.locals s.heap h'):Inv X pins (List.replicate X.N.length none) H {s with heap:=h',toks:=t'}:=by
 have neL:∀b o,X.s₀.heap.get? b=some o→b≠X.env.locals:=fun b o e=>nQ (mX (mW e) I.ok.above);refine⟨I.ok,I.os,I.bare,⟨fun b o e n hb hx=>?_,fun b o e n hb hx=>?_,I.base.free,fun b o e hx=>?_,I.base.tups,I.base.frzs,I.base.tbls⟩,⟨_,hn',fun j y v' e1 e2 e3=>?_⟩,fun y c e=>?_,I.free,I.freeC,fun p hp=>?_,fun b ob e=>?_,mU⟩
 ·exact(hs.2 b (neL b o e)).trans (I.base.keep b o e n hb hx)
 ·obtain⟨sl,e1⟩:=I.base.slot b o e n hb hx
  exact⟨sl,(hs.2 b (neL b o e)).trans e1⟩
 ·obtain⟨o',e1⟩:=I.base.there b o e hx
  exact⟨o',(hs.2 b (neL b o e)).trans e1⟩
 ·rw[List.getElem?_replicate] at e2
  split at e2<;>cases e2
 ·obtain⟨v',o,ho,hd⟩:=I.cell y c e
  exact⟨v',o,(hs.2 c (I.cne y c e)).trans ho,hd⟩
 ·obtain⟨a,b,c,d⟩:=I.pin p hp
  exact⟨(hs.2 _ c).trans a,b,c,d⟩
 ·refine(I.hok b ob e).stay (fun c w' hc q=>(hs.2 c ?_).trans q) (fun _ q=>q) fun _ _ q=>q
  rintro rfl;rcases hc with z | z
  ·rw[←z,I.free] at e;cases e
  ·rw[I.free] at z;cases z
end
section
variable{X:Cx}{B:Addr}{bn n:Str}{i:Nat}{body suite:List Stmt}{b₀:Stmt}{bp hp pos:Pos}{tb:XK→TS}{ts:TS}{φ:Value→Prop}
end
end L2
namespace L2
open PySem PySem.Spec PyProof.Rows PySem.W
section
variable{X:Cx}{C D:Addr}{b:Bool}
end
section
variable{X:Cx}{k j:Nat}{x:Str}{ps:List Str}{sp:Sp}{e:Expr}{es:List Expr}{t:TA}{p pos:Pos}{E:XK}
end
end L2
namespace L2
open PySem PySem.Spec PyProof.Rows PySem.W
structure RoomH(k:Nat)(A:Around):Prop where
 dp:A.depth+3*k+5<recursionLimit
 un:A.units+16*k+200<cLine
theorem Room.h{k:Nat}{A:Around}{v:Option Value}(r:Room k A):RoomH k (A.mark v):=⟨r.dp,r.un⟩
theorem RoomH.mono{j k:Nat}{A:Around}(r:RoomH k A)(h:j≤k):RoomH j A:=⟨by have:=r.dp;lia,by have:=r.un;lia⟩
theorem RoomH.deeper{k:Nat}{A:Around}(r:RoomH (k+1) A)(env:Env):RoomH k (A.deeper env):=
 ⟨by have:=r.dp;show A.depth+1+3*k+5<_;lia,by have:=r.un;show A.units+3+16*k+200<_;lia⟩
theorem RoomH.depth{k:Nat}{A:Around}(r:RoomH k A):A.depth<recursionLimit:=by have:=r.dp;lia
structure FnOkH(P:Program)(w:World)(K:PySem.W.Frag)(mg:Str→Option Value)(base:Heap)(k:Nat)(f:Addr)(fd:FuncData)(ps:List Str)(sp:Sp):Prop where
 len:∀vs H Q E,sp vs H Q E→vs.length=ps.length
 run:∀(A:Around)(outer:List Env)(s:Shared)(H:Hp)(args:Args)(us:List Value)(vs:List V)(Q:VK)(E:XK),RoomH k A→HnAt A s.heap H (frs outer) []→Env0 P w K mg base A outer s H→BindsTo s fd args (ps.zip us)→Vals vs us→sp vs H Q E→
  codeAny (model P w) A (.call (.ref f) args) (CR CX0 outer P w H s Q E) s
abbrev cxH(P:Program)(w:World)(K:PySem.W.Frag)(mg:Str→Option Value)(base:Heap)(N:List Str)(qual:Str)(scope:Scope)(f:Addr)(cd:Value)(A:Around)(outer:List Env)(s:Shared)(H:Hp):Cx:=
 {zBk CX0 P w K mg base N qual scope f cd A outer s H E0 with calm:=false,xe:=fun _ _=>False}
theorem Fun.okh{P:Program}{w:World}{K:PySem.W.Frag}{mg:Str→Option Value}{base:Heap}{k:Nat}{f:Addr}{fd:FuncData}{ps:List Str}{sp:Sp}{x qual:Str}{st:Stmt}{N:List Str}(F:Fun K x qual st f fd)(S:zV N ps (zO st))(len:∀vs H Q E,sp vs H Q E→vs.length=ps.length)
  (hbody:∀(cdv:Value)(A:Around)(outer:List Env)(s:Shared)(H:Hp)(vs:List V)(Q:VK)(E:XK),RoomH k (A.deeper (envOfC qual (zO st) s.heap.objs.size f cdv))→sp vs H Q E→
   ∃t,PSs (cxH P w K mg base N qual (zO st) f cdv A outer s H) (yV st) t∧t {nx:=fun _ H'=>Q .non H',rt:=Q} (qI N vs) H):FnOkH P w K mg base (k+1) f fd ps sp:=by
 obtain⟨oc,od,kV,doc,pm,an,cdv,ct,osl,rfl,lk,hcd⟩:=F.ex;refine⟨len,fun A outer s H args us vs Q E hr hn0 e0 hb r hsp=>?_⟩;have hl:=len _ _ _ _ hsp;have KX:K.In s.heap:=e0.mod.kin.keeps fun b o e=>(e0.bs b o e).1;have lim:s.heap.NoLimit:=e0.mod.nolimit.keeps fun b o e=>(e0.bs b o e).1;have hkind:∀y∈ps.zip us,(zO st).names.lookup y.1=some .local∨((zO st).names.lookup y.1=some .cell∧((cellsFrom (s.heap.objs.size+1) (zO st).names []).lookup y.1).isSome=true):=fun⟨n,v⟩ hy=>by
  rcases S.par n (bO hy).1 with q | q
  ·exact .inl q
  ·exact .inr ⟨q,PySem.W.cellsFrom_some _ _ _ (.inl q)⟩
 refine codeAny_call_function hr.depth (KX _ _ lk) rfl S.co S.gen rfl (PySem.W.codeRec_of KX hcd) (hb _ _ _ _ ?_);refine wpAny_newFunctionEnv_cells S.kind hkind fun env he s1 x=>?_;subst he;refine⟨lim.keeps x.toInCall.keep,codeAny_func ?_⟩;obtain⟨t,ht,hq⟩:=hbody cdv A outer s H vs Q E (hr.deeper _) hsp;have e0':Env0 P w K mg base {A with handled:=none} outer s H:=⟨e0.frames,e0.mod,e0.bs,e0.bsz,e0.funs,e0.frf,e0.hok,e0.bare⟩;have I0:Inv (zBk CX0 P w K mg base N qual (zO st) f cdv {A with handled:=none} outer s H E0) [] (qI N vs) H s1:=zEk S rfl e0' hl r x;have ok:=I0.ok;have I:Inv (cxH P w K mg base N qual (zO st) f cdv A outer s H) [] (qI N vs) H s1:=
  ⟨⟨ok.mod,ok.kind,ok.glob,ok.blt,ok.above,ok.inj,ok.has,ok.cab,⟨(fun z=>nomatch z),fun _=>hn0⟩,ok.frames,ok.stk,ok.exf,ok.bs,ok.bsz,ok.noex,ok.exfs,ok.funs,ok.frf⟩,I0.os,I0.bare,I0.base,I0.loc,I0.cell,I0.free,I0.freeC,I0.pin,I0.hok,I0.len⟩
 refine pV (ht [] s1 (qI N vs) H _ I hq) (fun fl s' hs=>?_) fun e s' hs=>False.elim hs;have fin:∀{σ':St}{H':Hp}{v:V}{u:Value},Inv (cxH P w K mg base N qual (zO st) f cdv A outer s H) [] σ' H' s'→RelV v u→Q v H'→CE outer P w H s Q u s':=
  fun {σ' H' v u} J rv q=>⟨v,H',J.os,J.bare,J.base,J.hok,rv,q⟩
 cases fl with
 | ret u=>
  obtain⟨v,σ',H',J,rv,q⟩:=hs;exact fin J rv q
 | next=>
  obtain⟨σ',H',J,q⟩:=hs;exact fin (v:=V.non) (u:=Value.none) J rfl q
 | brk=>
  obtain⟨_,_,_,q⟩:=hs;exact False.elim q
 | cont=>
  obtain⟨_,_,_,q⟩:=hs;exact False.elim q
def HC(X:Cx):Prop:=∀(pins:List (Addr×Obj))(σ:St)(H:Hp)(s:Shared),Inv X pins σ H s→HnAt X.A s.heap H (frs X.stack) []
theorem zWr{X:Cx}(hc:X.cool=true):HC X:=fun pins σ H s I v e=>by
 obtain⟨x,o,C,vs,a,h1,h2,h3,h4,h5⟩:=I.hnAt hc v e;refine⟨x,o,C,vs,a,h1,h2,h3,h4, ?_⟩;rcases h5 with⟨h5,h6,h7⟩| h5
 ·obtain⟨x',o',C',vs',a',g1,_⟩:=I.ok.hd.2 hc v e
  rw[a] at a';cases a';exact .inl ⟨h5,I.notStk (nQ (mX (mW g1) I.ok.above)) h6,fun z=>nomatch z⟩
 ·exact .inr h5
structure Dh(P:Program)(w:World)(K:PySem.W.Frag)(mg:Str→Option Value)(base:Heap)(k:Nat)(x:Str)(ps:List Str)(sp:Sp):Prop where
 ex:∃(f:Addr)(fd:FuncData),FnOkH P w K mg base k f fd ps sp∧Binds K fd ps []∧PySem.W.keepIn K (.ref f)=true∧mg x=some (.ref f)
section
variable{X:Cx}{k j:Nat}{x:Str}{ps:List Str}{sp:Sp}{e:Expr}{es:List Expr}{t:TA}{p pos:Pos}
theorem gC(D:Dh X.prog X.w X.K X.mg X.base k x ps sp)(hr:RoomH j X.A)(hj:k≤j)(hg:Gl X x)(ha:PA X (e::es) t)(hdb:(x==("__debug__" :Str))=false:=by decide)(hn:HC X:=by first | exact zWr rfl | assumption)
  (he:starEach (e::es) X.env=(false,eval e X.env)::starEach es X.env:=by rfl) (hpl:(backTo pos (starEach es X.env)).any (·.1)=false:=by rfl):PE X (.Call (.Name x p) (e::es) [] pos) (jQ sp [] E0 t):=by
 obtain⟨f,fd,F,hb,hk,hm⟩:=D.ex;intro pins s σ H Q I h;refine pW (wS I hg hm ?_ hdb);refine cM (h₀:=X.base) I.ok.mod.kin hk (thn (ha pos pins s σ H _ I h) fun us s1 ⟨vs,H1,I1,r,q⟩=>⟨I1.kIn, ?_⟩) he hpl;have q:sp (vs++ []) H1 Q E0:=q;rw[mN] at q;have hl:(us++ []).length=ps.length:=by rw[mN,←r.length];exact F.len _ _ _ _ q
 have hbt:=hb s1 us I1.kIn hl;rw[mN] at hbt;refine sE (rP (F.run X.A X.stack s1 H1 ⟨us,[]⟩ us vs Q E0 (hr.mono hj) (hn _ _ _ _ I1) I1.env0 hbt r q) fun r s' hq=>?_)
 cases r with
 | error e=>exact False.elim hq
 | ok fl=>
  cases fl with
  | ret u=>exact I1.after hq
  | next=>exact False.elim hq
  | brk=>exact False.elim hq
  | cont=>exact False.elim hq
end
end L2
namespace L2
open PySem PySem.Spec PyProof.Rows PySem.W
section
variable{M:Model}{A:Around}{E:Value→Shared→Prop}{s:Shared}{env:Env}{outer:List Env}{x T L:Addr}{C a0 fl:Value}{d:Option Addr}{base:Heap}{Q:Unit→Shared→Prop}{φ:Value→Prop}
end
section
variable{X:Cx}{E:XK}{EE:Value→Shared→Prop}{s:Shared}{e:Value}{cs:List Addr}{φ:Value→Prop}
end
end L2
namespace L2
open PySem PySem.Spec PyProof.Rows PySem.W
section
variable{X:Cx}{E:XK}
end
section
variable{X:Cx}{scope:Scope}{own:List Str}{F:List (Str×Nat)}{elt tg iter:Expr}{ifs:List Expr}{pos:Pos}{wi:TI}{g:TG}{tt:TT}{te:TE}{E:XK}
end
end L2
namespace L2
open PySem PySem.Spec PyProof.Rows PySem.W PySem.Builtin PySem.Builtin.ObjectAttr
structure Xp(K:Frag)(nm:Str)(C B:Addr):Prop where
 obj:∃(N:Addr)(o:Obj),K.lookup C=some o∧zVr nm C N (.ref B::veMro) o∧nsOkIn K N=true∧nsIn K N "__init__" =some none
 tl:tailIn K veMro (.ref B::veMro)=true
 kp:keepIn K (.ref C)=true
section
variable{X:Cx}{C B:Addr}{nm:Str}
theorem zOd{pins:List (Addr×Obj)}{σ:St}{H:Hp}{s:Shared}{Qx:Value→Shared→Prop}{EE:Value→Shared→Prop}{us:List Value}(c:Xp X.K nm C B)(hex:X.ex= [])(I:Inv X pins σ H s)(hl:us.length≤100)
  (q:∀x s',X.s₀.heap.get? x=none→H x=none→Inv X pins σ (upd H x (exO x C none)) s'→Qx (.ref x) s'):wpAny (model X.prog X.w) X.A (call (.ref C) us) Qx EE s:=by
 obtain⟨N,o,lk,⟨q',bs,hdct,sn,sub,ab,col,dd,k0,k1,k2,k3,k5,rfl⟩,hns,hni⟩:=c.obj;have hT:=tail_of_in I.kIn c.tl;have hC:=I.kIn _ _ lk;have hn:s.heap.Ns N (s.heap.nsMap N):=.of_isNs (isNs_of_in I.kIn hns);have hi:s.heap.nsMap N "__init__" =none:=nsMap_none_of_in I.kIn hns hni;have I1:=I;obtain⟨h,g,dr,t,os⟩:=s;refine wpAny_call_exc_subT PySem.F.excBase_ValueError hT hC hn hi (fun h' x hm=>?_) (by rw[mJ];lia);obtain⟨t',ht,_⟩:=hm.there;have nn:∀b o,h.get? b=some o→b≠x:=fun b o e z=>by rw[z,hm.new] at e;cases e
 have hHx:H x=none:=by
  cases e:H x with
  | none=>rfl
  | some o=>
   obtain⟨ob,hob⟩:=ObjOk.got (I1.hok x o e);rw[hm.new] at hob;cases hob
 have hx0:X.s₀.heap.get? x=none:=by
  cases e:X.s₀.heap.get? x with
  | none=>rfl
  | some o=>
   obtain⟨o',e'⟩:=I1.base.there x o e (by rw[hex];exact fun z=>nomatch z);rw[hm.new] at e';cases e'
 refine q x _ hx0 hHx ((I1.kept (t':=t) hm.keeps).track hHx hx0 (fun z=>?_) (fun y c e z=>?_) (fun p hp z=>?_) (zGx ht rfl rfl rfl))
 ·obtain⟨m,⟨o,_,_,ho,_⟩,_⟩:=I1.loc
  exact nn _ _ ho z.symm
 ·obtain⟨v,o,ho,_⟩:=I1.cell y c e
  exact nn _ _ ho z
 ·exact nn _ _ (I1.pin p hp).1 z
theorem zVt{H:Hp}{x:Addr}{o:HO}(hx:H x=none):drp (upd H x o) x=H:=by
 funext b
 by_cases z:b=x
 ·subst z;rw[zBy,hx]
 ·rw[jK z,zL z]
def qS(C:Addr)(E:XK)(t:TA):TS:=fun _ σ H=>t σ H fun vs H1=>vs.length≤100∧E (.ref C) none H1
structure Xr0(K:Frag)(mg:Str→Option Value)(cn:Str)(C:Addr):Prop where
 ex:∃(nm:Str)(B:Addr),Xp K nm C B∧mg cn=some (.ref C)
theorem vN{φ:Value→Prop}{E:XK}{cn:Str}{p pos rpos:Pos}{e:Expr}{es:List Expr}{t:TA}(R:Xr0 X.K X.mg cn C)(hg:Gl X cn)(hcalm:X.calm=true)(l:Lvs φ X E)(ha:PA X (e::es) t)(hdb:(cn==("__debug__" :Str))=false:=by decide)
  (he:starEach (e::es) X.env=(false,eval e X.env)::starEach es X.env:=by rfl) (hpl:(backTo pos (starEach es X.env)).any (·.1)=false:=by rfl):PS X (.Raise (some (.Call (.Name cn p) (e::es) [] pos)) none rpos) (qS C E t):=by
 intro pins s σ H D I h;obtain⟨nm,B,c,hm⟩:=R.ex;obtain⟨hs,hf,hex,hφ,hxe⟩:=l;rw[arm_exec_Raise];refine mD (sX ?_);show wpAny _ _ (raiseStmt X.env (some (do let v ←eval (.Call (.Name cn p) (e::es) [] pos) X.env;standAt rpos;pure v)) none) _ _ _;obtain⟨N,o,lk,hX,_⟩:=c.obj;refine zBs (nm:=nm) (C:=C) (N:=N) (bm:=.ref B::veMro) (by rw[tR,show veMro.contains (.type "BaseException")=true by decide,tX]) (I.ok.hd.1 hcalm) (mD ?_);refine pW (wS I hg hm ?_ hdb);refine callWith_K (h₀:=X.base) I.ok.mod.kin c.kp (thn (ha pos pins s σ H _ I h) fun us s1 ⟨vs,H1,I1,r,hv,q⟩=>⟨I1.kIn, ?_⟩) he hpl;refine zOd c hex I1 (by show us.length≤100;rw[←r.length];exact hv) fun x s2 hx0 hx I2=>?_;refine mD (sX (mO ?_));have hH:upd H1 x (exO x C none) x=some (exO x C none):=zF;obtain⟨vs',e1,h6,h1,h2⟩:=zCu I2 hH;refine⟨x,_,_,vs',rfl,I2.kIn _ _ lk,hX,e1,rfl,rfl,h1,hxe _ _ (zEh I2 hs hf hex hH hx0 hφ ?_)⟩;rw[zVt hx];exact q
end
section
variable{prog:Program}{w:World}{A:Around}{K:Frag}{C x:Addr}{ox:Obj}{od:Option Obj}{name:Str}{E:Value→Shared→Prop}{s:Shared}
theorem zXc{tk:Tok}{fill expr:Bool}{Q:Value→Shared→Prop}(G:gR K C)(hK:K.In s.heap)(I:InstAt s.heap x ox C od)
  (h:wpAny (model prog w) A.in1 (Builtin.«object.__getattribute__» ⟨[.ref x, .str name tk],[]⟩) (fun fin s'=>match fin with | .done (.ret v)=>wpAny (model prog w) A (handedOut v) Q E s' | _=>False) (fun _ _=>False) s):
  wpAny (model prog w) A (getAttrBy (.ref x) (.str name tk) fill expr) Q E s:=by
 have hb:Looks (model prog w) s.heap (hookBefore (.ref C)) none:=looks_hook hK (by rw[mK (by rfl)];exact G.gt);have ht:=I.type (M:=model prog w);unfold getAttrBy;refine pM (mD (ht _ _ _ _ (fun _ _ e=>e) (mD (looks_findIn hK G.ga _ _ _ _ (fun _ _ e=>e) ?_))));dsimp only;rw[show(onTheHeap (Value.ref C)&& Value.builtin "BaseException.__getattribute__" ==Value.builtin "object.__getattribute__")=false from by rw[show(Value.builtin "BaseException.__getattribute__" ==Value.builtin "object.__getattribute__")=false from by decide+kernel,aV],mG (by decide)];unfold getAttrByItsOwn;refine mD (hb _ _ _ _ (fun _ _ e=>e) (mD (tK (pM ?_))));unfold callGetattribute;rw[show(expr && onTheHeap (Value.builtin "BaseException.__getattribute__"))=false from aV _,mG (by decide)];unfold boundAndCalled;have FB:=PySem.F.attr_ValueError;rw[FB.ga.bind];refine mD (mO ?_);show wpAny _ _ (call (.builtin "BaseException.__getattribute__") [.ref x, .str name tk]) _ _ _;refine sE ?_;refine aE FB.ga.plain PySem.F.entry_bexc_ga ?_;refine @check_slot (model prog w) _ _ s "BaseException.__getattribute__" "BaseException" "__getattribute__" (.ref x) [.str name tk] [] _ (by decide+kernel) (by decide+kernel) (ht.andThen (looks_mroIn hK G.bx)) (PySem.F.args_bexc_ga (.ref x) (.str name tk)) ?_;refine pV h (fun fin s' z=>?_) fun _ _ z=>z.elim;rcases fin with(_ | _ | _ | _)| _<;>first | exact z | exact z.elim
theorem zLd(G:gR K C):findObj K C od "__class__" =some (.bind (.builtin "getset_descriptor.__get__") (.builtin "object.__class__")):=by
 obtain⟨cd,hc,_⟩:=any_some G.hd;unfold findObj;rw[hc,cW,G.cl,cW];simp[G.cg,G.ct]
theorem zJz{Q:Option Value→Shared→Prop}(G:gR K C)(hK:K.In s.heap)(I:InstAt s.heap x ox C od)(h:Q (some (.ref C)) {s with toks:=s.toks+1}):
  wpAny (model prog w) A (getAttr? (.ref x) "__class__") Q E s:=by
 have hf:=zLd (od:=od) G;unfold getAttr? getAttrBy?;refine mD (wpAny_mkText (mD (tK (zXc (s:={s with toks:=s.toks+1}) G hK I ?_))));obtain⟨hh',g,d,t,os⟩:=s;have L0:=I.type (M:=model prog w);have L1:=looks_find (M:=model prog w) hK I hf;unfold Builtin.«object.__getattribute__»;refine mD (mO (mD (mO (mD (L0.at (mD (L1.at ?_)))))));show wpAny _ _ (holding [Value.builtin "object.__class__"] (call (.builtin "getset_descriptor.__get__") [.builtin "object.__class__", .ref x, .ref C])>>=ret) _ _ _;refine mD (pM (sE (class_get (s:=⟨hh',g,d,t+1,os⟩) hK I G.ob ?_)));refine mO ?_;show wpAny _ _ (handedOut (.ref C)) _ _ _;rw[handedOut_of rfl];exact mO (mO h)
theorem zDq(G:gR K C):KitX K (.ref x) (.ref C) (fun h=>∃ox od,InstAt h x ox C od) where
 ty:=fun _ _ _ ⟨_,_,I⟩=>I.type
 it:=fun _ _ X _=>by
  obtain⟨cdD,hcD,_⟩:=any_some G.hd;unfold clsIn at hcD;split at hcD
  ·rename_i c' d' cd' sl' ho
   intro A' Q' E' s' k q;unfold isType loadHead;exact mD (wpAny_loadPart (k _ _ (X _ _ ho)) (mO q))
  ·cases hcD
 ne:=fun h tp dd its n sl X htp=>by
  obtain⟨cdD,hcD,_⟩:=any_some G.hd;refine Bool.eq_false_iff.mpr fun q=>?_;have e:C=tp:=Value.ref.inj (aT.mp q);subst e;unfold clsIn at hcD;split at hcD
  ·rename_i c' d' cd' sl' ho
   have z:=(X _ _ ho).symm.trans htp;cases z
  ·cases hcD
 ca:=fun X ⟨_,_,I⟩ k=>zJz G X I k
end
section
variable{X:Cx}{pins:List (Addr×Obj)}{σ:St}{H:Hp}{s:Shared}{x C:Addr}
end
section
variable{X:Cx}
end
end L2
namespace L2
open PySem
def nC(v:Value):Prop:=v= .none
def aC(_:Value):Prop:=True
end L2
namespace L2
open PySem PySem.Spec PyProof.Rows PySem.W
def zTk(X:Cx)(σ:St)(e:Expr)(t:TE):Prop:=
 ∀(pins:List (Addr×Obj))(s:Shared)(H:Hp)(Q:VK),Inv X pins σ H s→t σ H Q→wpAny (model X.prog X.w) X.A (eval e X.env) (EP X pins σ Q) X.xe s
def PSat(X:Cx)(σ:St)(st:List Stmt)(t:TS):Prop:=
 ∀(pins:List (Addr×Obj))(s:Shared)(H:Hp)(D:uZ),Inv X pins σ H s→t D σ H→wpAny (model X.prog X.w) X.A (execs st X.env) (SP X pins D) X.xe s
def zBz(CX:CXT)(X:Cx)(σ:St)(E:XK):Prop:=∀(pins:List (Addr×Obj))(H:Hp)(s:Shared)(e:Value)(s':Shared),Inv X pins σ H s→CX X.stack H s E e s'→X.xe e s'
section
variable{X:Cx}{CX:CXT}{k j:Nat}{f:Addr}{fd:FuncData}{ps:List Str}{sp:Sp}{dvs:List V}{ds:List Value}{E:XK}{x:Str}{p pos:Pos}{e:Expr}{es:List Expr}{t:TA}{te:TE}{σ:St}
theorem zSa{pins:List (Addr×Obj)}{H:Hp}{s:Shared}{Q:VK}{us:List Value}{vs:List V}(F:FnOk X.prog X.w X.K X.mg X.base CX k f fd ps sp)(hr:Room k X.A)(hb:Binds X.K fd ps ds)(hd:Vals dvs ds)(hx:zBz CX X σ E)
  (I:Inv X pins σ H s) (r:Vals vs us) (h:sp (vs++dvs) H Q E):wpAny (model X.prog X.w) X.A (call (.ref f) us) (EP X pins σ Q) X.xe s:=by
 have r2:Vals (vs++dvs) (us++ds):=r.append hd;have hl:(us++ds).length=ps.length:=by rw[←r2.length];exact F.len _ _ _ _ h
 refine sE (rP (F.run X.A X.stack s H ⟨us,[]⟩ (us++ds) (vs++dvs) Q E hr I.env0 (hb s us I.kIn hl) r2 h) fun r s' hq=>?_)
 cases r with
 | error e=>exact hx pins H s e s' I hq
 | ok fl=>
  cases fl with
  | ret u=>exact I.after hq
  | next=>exact False.elim hq
  | brk=>exact False.elim hq
  | cont=>exact False.elim hq
theorem zPz{φ:Value→Prop}(D:Dx φ X.prog X.w X.K X.mg X.base k x ps sp)(hr:Room j X.A)(hj:k≤j)(hg:Gl X x)(l:zBz (CXE φ X.prog X.w) X σ E)(ha:PA X (e::es) t)(hdb:(x==("__debug__" :Str))=false:=by decide)
  (he:starEach (e::es) X.env=(false,eval e X.env)::starEach es X.env:=by rfl) (hpl:(backTo pos (starEach es X.env)).any (·.1)=false:=by rfl):zTk X σ (.Call (.Name x p) (e::es) [] pos) (jQ sp [] E t):=by
 obtain⟨f,fd,h1,h2,h3,h4⟩:=D.ex;intro pins s H Q I h;refine pW (wS I hg h4 ?_ hdb);refine cM (h₀:=X.base) I.ok.mod.kin h3 (thn (ha pos pins s σ H _ I h) fun us s1 ⟨vs,H1,I1,r,q⟩=>⟨I1.kIn, ?_⟩) he hpl;exact zSa h1 (hr.mono hj) h2 .nil l I1 r q
theorem zIr(he:zTk X σ e te):PSat X σ [.Return (some e) pos] (zPj te):=by
 intro pins s H D I h;exact cS (wpAny_Return_some (thn (he pins s H _ I h) fun v s1 ⟨x,H1,I1,r1,q1⟩=>⟨x,σ,H1,I1,r1,q1⟩))
end
section
variable{X:Cx}{B:Addr}{bn:Str}{body suite:List Stmt}{b₀:Stmt}{bp hp pos:Pos}{tb:XK→TS}{ts:TS}{φ:Value→Prop}
end
end L2
namespace L2
open PySem PySem.Spec PyProof.Rows PySem.W
theorem FnOkH.fn{P:Program}{w:World}{K:Frag}{mg:Str→Option Value}{base:Heap}{k:Nat}{f:Addr}{fd:FuncData}{ps:List Str}{sp:Sp}(F:FnOkH P w K mg base k f fd ps sp):FnOk P w K mg base CX0 k f fd ps sp:=
 ⟨F.len,fun A outer s H args us vs Q E hr=>F.run A outer s H args us vs Q E ⟨hr.dp,hr.un⟩ (HnAt.none hr.hd)⟩
theorem Dh.dn{P:Program}{w:World}{K:Frag}{mg:Str→Option Value}{base:Heap}{k:Nat}{x:Str}{ps:List Str}{sp:Sp}(D:Dh P w K mg base k x ps sp):Dn P w K mg base k x ps sp:=by
 obtain⟨f,fd,F,a,b,c⟩:=D.ex;exact⟨f,fd,F.fn,a,b,c⟩
end L2
namespace L2
open PySem PySem.Spec PyProof.Rows PySem.W
def exN(x C:Addr)(d:Option Addr):HO:=.ext fun h=>∃(ob:Obj)(vs:Array Value),h.get? x=some ob∧ob.cls= .ref C∧ob.dict=d∧ob.data= .fields vs∧vs[2]? =some Value.none
theorem yAf{P:Program}{w:World}{H:Hp}{h:Heap}{x C:Addr}{d:Option Addr}{ob:Obj}{vs:Array Value}(e:h.get? x=some ob)(h1:ob.cls= .ref C)(h2:ob.dict=d)(h3:ob.data= .fields vs)(h4:vs[2]? =some Value.none):ObjOk P w H h x (exN x C d):=
 ⟨⟨ob,vs,e,h1,h2,h3,h4⟩,⟨_,e⟩,fun _ _ ⟨ob,vs,e,a⟩ k=>⟨ob,vs,k _ e,a⟩⟩
section
variable{X:Cx}{B:Addr}{bn n:Str}{i:Nat}{body suite:List Stmt}{b₀:Stmt}{bp hp pos:Pos}{tb:XK→TS}{ts:Addr→TS}{φ:Value→Prop}
def zTr(K:Frag)(B:Addr)(i len:Nat)(ts:Addr→TS)(D:uZ)(σ:St):XK:=fun C d H2=>∃Ca,C= .ref Ca∧exmOne K (.ref Ca) (.ref B)=some true∧
 ∀x o,H2 x=none→ts x {D with nx:=fun _ H'=>D.nx (List.replicate len none) H',bk:=fun _ H'=>D.bk (List.replicate len none) H',ct:=fun _ H'=>D.ct (List.replicate len none) H'} (σ.set i (some (.ref x))) (upd H2 x (.frz o (exN x Ca d)))
def zXe(K:Frag)(B:Addr)(i len:Nat)(tb:XK→TS)(ts:Addr→TS):TS:=fun D σ H=>tb (zTr K B i len ts D σ) D σ H
theorem zQe(hcalm:X.calm=true)(hgB:Gl X bn)(hmB:X.mg bn=some (.ref B))(hN:X.N.Nodup)(hi:X.N[i]? =some n)(hl:X.env.scope.names.lookup n=some .local)(hstk:X.stack=X.env::X.outer)(hf:X.env.frame=some X.env.locals)(hex:X.ex= [])
  (hb:∀pins W E σ,zBz (CXE φ X.prog X.w) (X.pend pins W) σ E→PSat (X.pend pins W) σ body (tb E)) (hφ:∀v,φ v→v= .none) (hsu:∀x,PSs (X.mark (.ref x)) (b₀::suite) (ts x)) (hdb:(bn==("__debug__" :Str))=false:=by decide):
  PS X (.Try body [.ExceptHandler (some (.Name bn bp)) (some n) (b₀::suite) hp] [] [] pos) (zXe X.K B i X.N.length tb ts):=by
 intro pins s σ H D I h;refine wpAny_Try_except ?_;have J:=hb pins (fun e s'=>∃H1 s1,Inv X pins σ H1 s1∧CXE φ X.prog X.w X.stack H1 s1 (zTr X.K B i X.N.length ts D σ) e s') (zTr X.K B i X.N.length ts D σ) σ
  (fun pins' H' s1 e s' I1 hx=>⟨H',s1,I1.unpend I.ok,hx⟩) [] s H D I.pend h
 refine pV J (fun f s1 q=>?_) fun e s1 ⟨H0,s0,I0,hx⟩=>?_
 ·cases f with
  | next=>obtain⟨σ',H',I',q⟩:=q;exact aJ ⟨σ',H',I'.unpend I.ok,q⟩
  | brk=>obtain⟨σ',H',I',q⟩:=q;exact⟨σ',H',I'.unpend I.ok,q⟩
  | cont=>obtain⟨σ',H',I',q⟩:=q;exact⟨σ',H',I'.unpend I.ok,q⟩
  | ret u=>obtain⟨v,σ',H',I',r,q⟩:=q;exact⟨v,σ',H',I'.unpend I.ok,r,q⟩
 obtain⟨x,T,C,d,a0,H',rfl,os,bare,un,hok,hx0,hT0,hHx,hHT,fl,Ca,rfl,hexm,q⟩:=hx;have I2:Inv X pins σ H' s1:=I0.call' os un hok bare (fun b z=>absurd z (by simp));have nfr:∀b,s0.heap.get? b=none→b∉frs X.stack:=fun b hb z=>by
  obtain⟨o,e,_⟩:=zGk I0.stack b z;rw[hb] at e;cases e
 have hfr:=I0.ok.frames;have nx:=nfr x hx0;have nT:=nfr T hT0;have st:=I2.stack;rw[hstk] at hfr;have nx':=nx;have nT':=nT;rw[hstk] at nx' nT' st;refine zMq hfr st hf nx' nT' fl fun h1 T1 f1 k1 n1=>?_;refine qE f1 fun h2 f2 k2=>?_;rw[←hstk] at k1;have hT1H:H' T1=none:=by
  cases e:H' T1 with
  | none=>rfl
  | some o=>
   obtain⟨ob,hob⟩:=ObjOk.got (I2.hok T1 o e);rw[n1] at hob;cases hob
 have hT10:s0.heap.get? T1=none:=by
  cases e:s0.heap.get? T1 with
  | none=>rfl
  | some o=>
   obtain⟨o',e'⟩:=un.there T1 o e (fun z=>nomatch z);rw[n1] at e';cases e'
 have k3:Kp (frs X.stack) [x,T,T1] s1.heap h2:=k1.trans (kQ k2 fun b hb=>nomatch hb) fun c hc=>by
  rcases hc with z | z
  ·rcases mF.mp z with z | z
   ·rw[z];simp
   ·rw[mS.mp z];simp
  ·rw[mS.mp z.1];simp
 have all0:∀b∈ [x,T,T1],s0.heap.get? b=none∧H' b=none:=fun b hb=>by
  rcases mF.mp hb with z | z
  ·rw[z];exact⟨hx0,hHx⟩
  ·rcases mF.mp z with z | z
   ·rw[z];exact⟨hT0,hHT⟩
   ·rw[mS.mp z];exact⟨hT10,hT1H⟩
 have I3:Inv X pins σ H' {s1 with heap:=h2}:=I0.call' (s':={s1 with heap:=h2}) os (zLu un k3 fun b hb=>(all0 b hb).1) (zGc hok k3 I2.stkFree fun b hb=>(all0 b hb).2) bare (fun b z=>absurd z (by simp));have LT:Looks (model X.prog X.w) h2 (typeOf (.ref x)) (.ref Ca):=by
  obtain⟨oe,vs,oT,ts',e1,e2,_⟩:=f2;exact e2▸(Looks.ld e1).andThen .now
 refine wpAny_handleBy_cons (codeAny_handlers_test ?_) (by intro z;cases z);refine wS (X:=X.mark (.ref x)) (I3.mark) hgB hmB ?_ hdb;refine exm_one (M:=model X.prog X.w) I3.kIn LT hexm _ _ _ {s1 with heap:=h2} (fun _ _ e=>e) ?_;refine codeAny_handlers_suite_as ?_;refine qE f2 fun h3 f3 k4=>?_;have k5:Kp (frs X.stack) [x,T,T1] s1.heap h3:=k3.trans (kQ k4 fun b hb=>nomatch hb) fun c hc=>by
  rcases hc with z | z
  ·exact z
  ·rw[mS.mp z.1];simp
 have I4:Inv X pins σ H' {s1 with heap:=h3}:=I0.call' (s':={s1 with heap:=h3}) os (zLu un k5 fun b hb=>(all0 b hb).1) (zGc hok k5 I2.stkFree fun b hb=>(all0 b hb).2) bare (fun b z=>absurd z (by simp));have hxs:X.s₀.heap.get? x=none:=by
  cases e:X.s₀.heap.get? x with
  | none=>rfl
  | some o=>
   obtain⟨o',e'⟩:=I0.base.there x o e (by rw[hex];exact fun z=>nomatch z);rw[hx0] at e';cases e'
 obtain⟨oe,vs,oT,ts',e1,e2,e3,e4,_,_,_,_,_,_,cx,e5,e6⟩:=f3;have e7:=hφ cx e6;subst e7;have I5:Inv X pins σ (upd H' x (.frz oe (exN x Ca d))) {s1 with heap:=h3}:=by
  refine I4.track hHx hxs (fun z=>?_) (fun y c e z=>?_) (fun p hp z=>?_) ⟨e1,yAf e1 e2 e3 e4 e5⟩
  ·obtain⟨m,⟨o,_,_,ho,_⟩,_⟩:=I0.loc
   rw[←z,hx0] at ho;cases ho
  ·obtain⟨v,o,ho,_⟩:=I0.cell y c e
   rw[z,hx0] at ho;cases ho
  ·have ho:=(I0.pin p hp).1
   rw[z,hx0] at ho;cases ho
 refine gT (v:=.ref x) I5 hN hi (.inl hl) rfl (fun s4 I7=>?_) (.inr hl);refine pV (hsu x pins s4 _ _ _ I7.mark (q x oe hHx)) (fun f s5 z=>?_) fun _ _ z=>False.elim z;have hcls:(X.env.scope.kind== .class ||(X.env.scope.kind== .module && X.env.locals !=X.env.globals))=false:=by rw[I.ok.kind];rfl
 cases f with
 | next=>
  obtain⟨σ5,H5,I8,q5⟩:=z;obtain⟨m,hn,_⟩:=I8.loc;exact cD hl hn hcls fun h' m' hn' hs'=>⟨_,H5,(I8.unmark I.ok).wiped hn' hs',q5⟩
 | brk=>
  obtain⟨σ5,H5,I8,q5⟩:=z;obtain⟨m,hn,_⟩:=I8.loc;exact cD hl hn hcls fun h' m' hn' hs'=>⟨_,H5,(I8.unmark I.ok).wiped hn' hs',q5⟩
 | cont=>
  obtain⟨σ5,H5,I8,q5⟩:=z;obtain⟨m,hn,_⟩:=I8.loc;exact cD hl hn hcls fun h' m' hn' hs'=>⟨_,H5,(I8.unmark I.ok).wiped hn' hs',q5⟩
 | ret u=>
  obtain⟨v,σ5,H5,I8,r5,q5⟩:=z;obtain⟨m,hn,_⟩:=I8.loc;exact cD hl hn hcls fun h' m' hn' hs'=>⟨v,_,H5,(I8.unmark I.ok).wiped hn' hs',r5,q5⟩
end
section
variable{X:Cx}{k j:Nat}{x:Str}{ps:List Str}{sp:Sp}{e:Expr}{es:List Expr}{t:TA}{p pos:Pos}{xa:Addr}
def zJx(xa:Addr)(sp:Sp)(t:TA):TE:=fun σ H Q=>t σ H fun vs H1=>(∃o C d,H1 xa=some (.frz o (exN xa C d)))∧sp vs H1 Q E0
theorem zYc(D:Dh X.prog X.w X.K X.mg X.base k x ps sp)(hxa:X.A.handled=some (.ref xa))(hr:RoomH j X.A)(hj:k≤j)(hg:Gl X x)(ha:PA X (e::es) t)(hdb:(x==("__debug__" :Str))=false:=by decide)
  (he:starEach (e::es) X.env=(false,eval e X.env)::starEach es X.env:=by rfl) (hpl:(backTo pos (starEach es X.env)).any (·.1)=false:=by rfl):PE X (.Call (.Name x p) (e::es) [] pos) (zJx xa sp t):=by
 obtain⟨f,fd,F,hb,hk,hm⟩:=D.ex;intro pins s σ H Q I h;refine pW (wS I hg hm ?_ hdb);refine cM (h₀:=X.base) I.ok.mod.kin hk (thn (ha pos pins s σ H _ I h) fun us s1 ⟨vs,H1,I1,r,⟨o,C,d,hz⟩,q⟩=>⟨I1.kIn, ?_⟩) he hpl;obtain⟨g,⟨ob,vs',e1,e2,e3,e4,e5⟩,_⟩:=(show ObjOk X.prog X.w H1 s1.heap xa (.frz o (exN xa C d)) from I1.hok xa _ hz);rw[g] at e1;cases e1;have hn:HnAt X.A s1.heap H1 (frs X.stack) []:=fun v ev=>by
  rw[hxa] at ev;cases ev;exact⟨xa,o,C,vs',rfl,g,e2,e4,e5, .inr ⟨_,hz⟩⟩
 have hl:(us++ []).length=ps.length:=by rw[mN,←r.length];exact F.len _ _ _ _ q
 have hbt:=hb s1 us I1.kIn hl;rw[mN] at hbt;refine sE (rP (F.run X.A X.stack s1 H1 ⟨us,[]⟩ us vs Q E0 (hr.mono hj) hn I1.env0 hbt r q) fun r s' hq=>?_)
 cases r with
 | error e=>exact False.elim hq
 | ok fl=>
  cases fl with
  | ret u=>exact I1.after hq
  | next=>exact False.elim hq
  | brk=>exact False.elim hq
  | cont=>exact False.elim hq
end
section
variable{X:Cx}{C:Addr}
def zUl(C:Addr)(f:Str)(ta:TE):TE:=fun σ H Q=>ta σ H fun v H1=>∃x o d fs n,v= .ref x∧H1 x=some (.frz o (exN x C (some d)))∧H1 d=some (.xd fs)∧fs.lookup f=some (.int n)∧Q (.int n) H1
theorem zFe{e:Expr}{f:Str}{ta:TE}{pos:Pos}(G:gR X.K C)(hf:findIn X.K (.ref C) f=some none)(he:PE X e ta)(hb:attributeBase e f X.env (eval e X.env)=eval e X.env:=by rfl):PE X (.Attribute e f pos) (zUl C f ta):=by
 intro pins s σ H Q I h;refine zNb hb (thn (he pins s σ H _ I h) fun u s1 ⟨v,H1,I1,rx,x,o,d,fs,n,ev,hx,hd,hl,q⟩=>?_);subst ev;obtain rfl:u=Value.ref x:=rx;obtain⟨g,⟨ob,vs,e1,e2,e3,e4,_⟩,_⟩:=(show ObjOk X.prog X.w H1 s1.heap x (.frz o (exN x C (some d))) from I1.hok x _ hx);obtain⟨mA,nn,r⟩:=I1.hok d _ hd;obtain⟨od,ho,hlk⟩:=uY nn;have J:InstAt s1.heap x ob C (some od):=⟨e1,e2,by unfold notCls;rw[e4],by rw[e3];exact ho⟩;have e1':=hlk f;have e2':=r f;rw[hl] at e2'
 cases hu:mA f with
 | none=>rw[hu] at e2';exact e2'.elim
 | some u=>
  rw[hu] at e2' e1';obtain⟨tk,rfl⟩:∃tk,u=Value.int n tk:=e2';refine zPb G I1.kIn J (findObj_own G.hd hf rfl e1') rfl ⟨.int n,H1,I1.tok _,⟨_,rfl⟩,q⟩
end
structure Dmx(φ:Value→Prop)(P:Program)(w:World)(K:PySem.W.Frag)(mg:Str→Option Value)(base:Heap)(k:Nat)(C:Addr)(m:Str)(ps:List Str)(sp:Sp):Prop where
 ex:∃(f:Addr)(fd:FuncData),Cls K C∧zIf K C m f∧FnOk P w K mg base (CXE φ P w) k f fd ps sp∧Binds K fd ps []
section
variable{X:Cx}{k j:Nat}{C:Addr}{x m:Str}{ps:List Str}{sp:Sp}{e o:Expr}{es:List Expr}{t:TA}{ta:TE}{p pos apos:Pos}{E:XK}
theorem qA{φ:Value→Prop}{pl:Sem Bool}(D:Dmx φ X.prog X.w X.K X.mg X.base k C m ps sp)(hr:Room j X.A)(hj:k≤j)(he:PE X o ta)(l:Lvs φ X E)(ha:PA X (e::es) t)
  (hst:starEach (e::es) X.env=(false,eval e X.env)::starEach es X.env:=by rfl) (hpl:(backTo pos (starEach es X.env)).any (·.1)=false:=by rfl)
  (ht:eval (.Call (.Attribute o m apos) (e::es) [] pos) X.env=(do
   let ov ←eval o X.env
   standAt apos.atName
   let (f,first) ←holding [ov] (getMethod ov m pl)
   callWith pos f first (backTo pos (starEach (e::es) X.env)) (backToKw pos (keywordEach [] X.env))):=by rfl):
  PE X (.Call (.Attribute o m apos) (e::es) [] pos) (zHt C m sp [] E ta t):=by
 obtain⟨f,fd,h1,h2,h3,h4⟩:=D.ex;exact zNe he h1 h2 h3 (hr.mono hj) h4 .nil (zXt l) ha hst hpl ht
end
end L2
namespace L2
open PySem PySem.Spec PyProof.Rows PySem.W
theorem zOr{X:Cx}:OpR X (compareOp .Gt) (fun x y H Q=>∃i j,x= .str i∧y= .str j∧Q (.bl (decide (j.cps.toList<i.cps.toList))) H):=by
 intro pins s σ H x y v u Q I rx ry h;obtain⟨i,j,rfl,rfl,q⟩:=h;obtain⟨t,rfl⟩:=rx;obtain⟨t',rfl⟩:=ry;exact P.gt_str (yN I q rfl)
end L2
namespace L2
open PySem PySem.Spec PyProof.Rows PySem.W
section
variable{X:Cx}{e:Expr}{es:List Expr}{te:TE}{t:TA}{σ:St}{pos:Pos}
def zWo(X:Cx)(σ:St)(es:List Expr)(t:TA):Prop:=
 ∀(pos:Pos)(pins:List (Addr×Obj))(s:Shared)(H:Hp)(Q:List V→Hp→Prop),Inv X pins σ H s→t σ H Q→wpAny (model X.prog X.w) X.A (spliced (backTo pos (starEach es X.env))) (AP X pins σ Q) X.xe s
theorem PA.at(h:PA X es t):zWo X σ es t:=fun pos pins s H Q I q=>h pos pins s σ H Q I q
theorem PE.at(h:PE X e te):zTk X σ e te:=fun pins s H Q I q=>h pins s σ H Q I q
theorem zDu(ha:zTk X σ e te)(hr:zWo X σ es t)(hs:starEach (e::es) X.env=(false,eval e X.env)::starEach es X.env:=by rfl):zWo X σ (e::es) (zAq te t):=by
 intro pos pins s H Q I h;rw[hs];show wpAny _ _ (spliced ((false,eval e X.env)::backTo pos (starEach es X.env))) _ _ s;refine aN (thn (ha pins s H _ I h) fun u s1 ⟨x,H1,I1,r1,q1⟩=>?_);exact thn (hr pos pins s1 H1 _ I1 q1) fun us s2 ⟨xs,H2,I2,r2,q2⟩=>⟨x::xs,H2,I2, .cons r1 r2,q2⟩
theorem zSz{x1}(h:zWo X σ es t):zTk X σ (.Tuple es x1 pos) (zOy t):=by
 intro pins s H Q I hq;refine wpAny_Tuple_spliced (thn (h pos pins s H _ I hq) fun us s1 ⟨xs,H1,I1,r,z,q⟩=>⟨by rw[←r.length];exact z, ?_⟩);have hf:H1 s1.heap.objs.size=none:=I1.hok.fresh (mL _);refine⟨.ref s1.heap.objs.size,upd H1 s1.heap.objs.size (.tup xs),I1.laid (t':=s1.toks) (fun b u e=>mI _ e) (mL _) ?_,rfl,q _ hf⟩;exact⟨z,us,r,⟨_,nI _ rfl,rfl,_,rfl⟩⟩
end
section
variable{X:Cx}{pins:List (Addr×Obj)}{σ:St}{H:Hp}{s:Shared}{x C:Addr}
def CaughtZ(H:Hp)(x C:Addr):Prop:=∃o,H x=some (.frz o (exN x C none))∨∃d fs,H x=some (.frz o (exN x C (some d)))∧H d=some (.xd fs)
theorem CaughtZ.inst(h:CaughtZ H x C)(I:Inv X pins σ H s):∃ob od,InstAt s.heap x ob C od:=by
 obtain⟨o,h |⟨d,fs,h,hd⟩⟩:=h
 ·obtain⟨g,⟨ob,vs,e1,e2,e3,e4,_⟩,_⟩:=(show ObjOk X.prog X.w H s.heap x (.frz o (exN x C none)) from I.hok x _ h)
  refine⟨ob,none,⟨e1,e2, ?_,by rw[e3];trivial⟩⟩;unfold notCls;rw[e4]
 ·obtain⟨g,⟨ob,vs,e1,e2,e3,e4,_⟩,_⟩:=(show ObjOk X.prog X.w H s.heap x (.frz o (exN x C (some d))) from I.hok x _ h)
  obtain⟨mA,nn,r⟩:=I.hok d _ hd;obtain⟨od,ho,hlk⟩:=uY nn;exact⟨ob,some od,⟨e1,e2,by unfold notCls;rw[e4],by rw[e3];exact ho⟩⟩
theorem kN:wK X (.builtin "isinstance") (fun vs H Q=>∃x C D b,vs= [.ref x, .ref D]∧CaughtZ H x C∧gR X.K C∧kitOne X.K (.ref C) (.ref D)=some b∧Q (.bl b) H):=by
 intro pins s σ H xs us Q I r h;obtain⟨x,C,D,b,rfl,hc,G,hk,q⟩:=h;obtain⟨u,w',rfl,ru,rw'⟩:=zHb r;cases (show u=Value.ref x from ru);cases (show w'=Value.ref D from rw');obtain⟨ob,od,J⟩:=hc.inst I;exact kia_one (zDq G) I.kIn ⟨ob,od,J⟩ hk (by intro z;cases z) fun tk=>⟨.bl b,H,I.tok _,rfl,q⟩
theorem zPi{T:String}:wK X (.builtin "isinstance") (fun vs H Q=>∃x C b,vs= [.ref x, .ty T]∧CaughtZ H x C∧gR X.K C∧kitOne X.K (.ref C) (.type T)=some b∧Q (.bl b) H):=by
 intro pins s σ H xs us Q I r h;obtain⟨x,C,b,rfl,hc,G,hk,q⟩:=h;obtain⟨u,w',rfl,ru,rw'⟩:=zHb r;cases (show u=Value.ref x from ru);cases (show w'=Value.type T from rw');obtain⟨ob,od,J⟩:=hc.inst I;exact kia_one (zDq G) I.kIn ⟨ob,od,J⟩ hk (by intro z;cases z) fun tk=>⟨.bl b,H,I.tok _,rfl,q⟩
end
end L2
namespace L2
open PySem PySem.Spec PyProof.Rows
theorem pS{X:Cx}{pos pos':Pos}{x:Str}{e:Expr}{te:TE}(i:Nat)(hN:X.N.Nodup)(he:PE X e te)(hi:X.N[i]? =some x:=by rfl)(hx:Loc X.env.scope x:=by exact pR rfl)(hs:swapsWith e (some (.Name x pos')) pos.line X.env=pure false:=by rfl)(hf:X.fn x=true∨X.env.scope.names.lookup x=some .local:=by first | exact .inl rfl | exact .inr rfl | assumption):PS X (.Assign [.Name x pos'] e pos) (zGy te (qC i)):=zAc hN hi hx he hs hf
theorem pD{X:Cx}{k j:Nat}{x:Str}{ps:List Str}{sp:Sp}{e:Expr}{es:List Expr}{t:TA}{p pos:Pos}(D:Dn X.prog X.w X.K X.mg X.base k x ps sp)(hr:Room j X.A)(ha:PA X (e::es) t)(hj:k≤j:=by first | decide | lia)(hg:Gl X x:=by rfl)(hdb:(x==("__debug__" :Str))=false:=by decide)
  (he:starEach (e::es) X.env=(false,eval e X.env)::starEach es X.env:=by rfl) (hpl:(backTo pos (starEach es X.env)).any (·.1)=false:=by rfl):PE X (.Call (.Name x p) (e::es) [] pos) (jQ sp [] E0 t):=pe_cd D hr hj hg ha hdb he hpl
theorem pI{X:Cx}{x0 x:Str}{T:String}{e:Expr}{te:TE}{p p2 pos:Pos}(h0:X.mg x0=none)(b0:bootBuiltins x0=some (.builtin "isinstance"))(hm:X.mg x=none)(hb:bootBuiltins x=some (.type T))(he:PE X e te)(hT:T∈tyL:=by decide)(g1:Gl X x0:=by rfl)(g2:Gl X x:=by rfl)(hn0:x0≠ "__name__":=by decide)(hd0:(x0==("__debug__" :Str))=false:=by decide)(hn:x≠ "__name__":=by decide)(hd:(x==("__debug__" :Str))=false:=by decide)
  (h1:starEach [e, .Name x p2] X.env=(false,eval e X.env)::starEach [.Name x p2] X.env:=by rfl) (h2:(backTo pos (starEach [.Name x p2] X.env)).any (·.1)=false:=by rfl):PE X (.Call (.Name x0 p) [e, .Name x p2] [] pos) (tCB (fun xs H Q=>∃x t,xs= [x, .ty T]∧tyS H x=some t∧Q (.bl (wD t T)) H) (zAq te (zAq (tC (.ty T)) zJf))):=
 zP (zCp hT) g1 h0 b0 (zA he (zA (vJ (v:=.ty T) g2 hm hb rfl hn hd) zE) h1) hn0 hd0 h1 h2
theorem len1{α:Type}{us:List α}(h:us.length=1):∃a,us= [a]:=
 match us,h with
 | [a],_=>⟨a,rfl⟩
theorem len2{α:Type}{us:List α}(h:us.length=2):∃a b,us= [a,b]:=
 match us,h with
 | [a,b],_=>⟨a,b,rfl⟩
theorem len3{α:Type}{us:List α}(h:us.length=3):∃a b c,us= [a,b,c]:=
 match us,h with
 | [a,b,c],_=>⟨a,b,c,rfl⟩
end L2
section
open PySem L2
local macro_rules | `(tactic| walk_at "b") => `(tactic| (intro _ F; refine F.binds ?_; intro _ _ _ _ _ _ us hl; first | (obtain ⟨_,e⟩ := len1 hl; subst e; rfl) | (obtain ⟨_,_,e⟩ := len2 hl; subst e; rfl) | (obtain ⟨_,_,_,e⟩ := len3 hl; subst e; rfl) | (obtain ⟨_,_,_,_,e⟩ := len4 hl; subst e; rfl) | (cases List.eq_nil_of_length_eq_zero hl; rfl)))
local macro_rules | `(tactic| walk_at "ln") => `(tactic| (intro vs H Q E h; repeat (first | (obtain ⟨e,_⟩ := h; subst e; rfl) | (obtain ⟨_,h⟩ := h))))
local macro_rules | `(tactic| walk_at "rd3") => `(tactic| first | (dsimp only [zOa,zBp,zOg,zWw,zXi,zHq,gF,zQg,zIk,zHn,zHg,zNm,zJo,zIs,zMz,kX,zVl,zHj,zGy,qC,zPj,zMg,zTj,zIo,tOp,tUn,zKx,tC,jQ,zAq,zJf,zHs,tB,zQs,tOr,zSn,zIn,zQm,zJj,tIf,tCB,tBM,kX,zDv,zHv,gX,tSl,zCi,zQd,zJq,zRq,zOy,zIv,zBi,uU,rI0,rI,rU,rEq,rNe,zIm,zRw,zHa,zPs,zSr,CMul,zQl,zKf,List.getElem?_cons_zero,List.getElem?_cons_succ,List.set_cons_zero,List.set_cons_succ,List.map_cons,List.map_nil,List.length_cons,List.length_nil,Nat.reduceAdd,Option.join_some,Option.join_none]; try walk_at "rd3s") | walk_at "rd3s")
local macro_rules | `(tactic| walk_at "rd3s") => `(tactic| simp only [zOa,zBp,zOg,zWw,zXi,zHq,gF,zQg,zIk,zHn,zHg,zNm,zJo,zIs,zMz,kX,zRz,zXu,zIl,zVl,zHj,zGy,qC,zPj,zMg,zTj,zIo,tOp,tUn,zKx,tC,jQ,zAq,zJf,zHs,tB,zQs,tOr,zSn,zIn,zQm,zJj,tIf,tCB,tBM,kX,zDv,zHv,gX,tSl,zCi,zQd,zJq,zRq,zOy,zLm,zIv,zBi,uU,rI0,rI,rU,rEq,rNe,zIm,zRw,zHa,zPs,zSr,CMul,zQl,zKf,List.append_nil,List.getElem?_cons_zero,List.getElem?_cons_succ,List.set_cons_zero,List.set_cons_succ,List.map_cons,List.map_nil,List.length_cons,List.length_nil,sizeLine_eq,Nat.reduceAdd,Nat.reduceLeDiff,Option.join_some,Option.join_none,Option.some.injEq,V.int.injEq,V.str.injEq,V.bl.injEq,V.ref.injEq,V.ty.injEq,List.cons.injEq,and_true,true_and,and_self,exists_eq_left',exists_eq_left,exists_and_left,exists_and_right,decide_eq_true_eq,Bool.not_eq_eq_eq_not,Bool.not_true,Bool.not_false,decide_eq_false_iff_not,Int.reduceLT,Int.reduceLE,Int.reduceNeg,Int.reducePow,Int.reduceAdd,Int.reduceSub,Int.reduceMul,Int.reduceToNat,zHl,Nat.reduceLT,Nat.reducePow,or_true,true_or,if_true,if_false,Bool.false_eq_true,ite_true,ite_false,reduceCtorEq])
local macro_rules | `(tactic| walk_at "rd6") => `(tactic| first | (dsimp only [yAs,yAd,zFd,zHt,zLq,zZy,zOa,zBp,zOg,zWw,zXi,zHq,gF,zQg,zIk,zHn,zHg,zNm,zJo,zIs,zMz,kX,zVl,zHj,zGy,qC,zPj,zMg,zTj,zIo,tOp,tUn,zKx,tC,jQ,zAq,zJf,zHs,tB,zQs,tOr,zSn,zIn,zQm,zJj,tIf,tCB,tBM,kX,zDv,zHv,gX,tSl,zCi,zQd,zJq,zRq,zOy,zIv,zBi,uU,rI0,rI,rU,rEq,rNe,zIm,zRw,zHa,zPs,zSr,CMul,zQl,zKf,List.getElem?_cons_zero,List.getElem?_cons_succ,List.set_cons_zero,List.set_cons_succ,List.map_cons,List.map_nil,List.length_cons,List.length_nil,Nat.reduceAdd,Option.join_some,Option.join_none]; try walk_at "rd6s") | walk_at "rd6s")
local macro_rules | `(tactic| walk_at "rd6s") => `(tactic| simp only [yAs,yAd,zFd,zHt,zLq,zZy,zOa,zBp,zOg,zWw,zXi,zHq,gF,zQg,zIk,zHn,zHg,zNm,zJo,zIs,zMz,kX,zRz,zXu,zIl,zVl,zHj,zGy,qC,zPj,zMg,zTj,zIo,tOp,tUn,zKx,tC,jQ,zAq,zJf,zHs,tB,zQs,tOr,zSn,zIn,zQm,zJj,tIf,tCB,tBM,kX,zDv,zHv,gX,tSl,zCi,zQd,zJq,zRq,zOy,zLm,zIv,zBi,uU,rI0,rI,rU,rEq,rNe,zIm,zRw,zHa,zPs,zSr,CMul,zQl,zKf,List.append_nil,List.getElem?_cons_zero,List.getElem?_cons_succ,List.set_cons_zero,List.set_cons_succ,List.map_cons,List.map_nil,List.length_cons,List.length_nil,sizeLine_eq,Nat.reduceAdd,Nat.reduceLeDiff,Option.join_some,Option.join_none,Option.some.injEq,V.int.injEq,V.str.injEq,V.bl.injEq,V.ref.injEq,V.ty.injEq,List.cons.injEq,and_true,true_and,and_self,exists_eq_left',exists_eq_left,exists_and_left,exists_and_right,decide_eq_true_eq,Bool.not_eq_eq_eq_not,Bool.not_true,Bool.not_false,decide_eq_false_iff_not,Int.reduceLT,Int.reduceLE,Int.reduceNeg,Int.reducePow,Int.reduceAdd,Int.reduceSub,Int.reduceMul,Int.reduceToNat,zHl,Nat.reduceLT,Nat.reducePow,or_true,true_or,if_true,if_false,Bool.false_eq_true,ite_true,ite_false,reduceCtorEq])
local macro_rules | `(tactic| walk_at "sc") => `(tactic| exact ⟨rfl,rfl,rfl,by decide +kernel,rfl,by decide +kernel,by decide +kernel⟩)
local macro_rules | `(tactic| walk_at "st") => `(tactic| simp only [qI,List.map_cons,List.map_nil,List.length_cons,List.length_nil,Nat.reduceAdd,Nat.reduceSub,List.replicate_succ,List.replicate_zero,List.cons_append,List.nil_append])
local macro_rules | `(tactic| walk_at "wu") => `(tactic| with_unfolding_all rfl)
namespace K27
open PySem L2
seal L2.PSs L2.PS L2.PE L2.PT L2.PW L2.PA L2.PI L2.PG L2.PGs L2.PPs L2.PTs
def top(i:Nat):Stmt:=PySem.Challenge.pw_cabinet_k27_whole_any_row_read.main.body.getD i (.Pass ⟨0,0,0,0⟩)
abbrev zSy:Stmt:=top 38
abbrev zZe:Stmt:=top 42
def zKd(K:W.Frag):Sp:=fun vs H Q _=>∃(a:Addr)(ns:List Int)(k:Int),vs= [.ref a, .int k]∧SqL K H a (ns.map V.int)∧ns.length≤63∧0≤k∧k<1000000∧∀H',Same H H'→Q (.int (uB ns k)) H'
theorem vZ{K:W.Frag}{H:Hp}{Q:VK}{E:XK}{a:Addr}{ns:List Int}{k:Int}(hS:SqL K H a (ns.map V.int))(h63:ns.length≤63)(h0:0≤k)(h1:k<1000000)(q:∀H',Same H H'→Q (.int (uB ns k)) H'):
  zKd K [.ref a, .int k] H Q E:=⟨a,ns,k,rfl,hS,h63,h0,h1,q⟩
section
variable{P:Program}{w:World}{K:W.Frag}{mg:Str→Option Value}{base:Heap}{f:Addr}{fd:FuncData}
theorem scCell:zV ["_law_script","_law_k","_law_more"] ["_law_script","_law_k"] (zO zSy):=by walk_at "sc"
theorem zXl(F:Fun K "_law_cell" "_law_cell" zSy f fd)(B:Bl mg):FnOk P w K mg base CX0 1 f fd ["_law_script","_law_k"] (zKd K):=by
 refine F.ok scCell (by walk_at "ln") fun c A o s H vs Q E hr h=>?_;obtain⟨a,ns,k,rfl,hS,h63,h0,h1,q⟩:=h;have nd:=scCell.nd;have hu0:=hr.units0;refine⟨_,(zB (pS 2 nd (zI wO (pv 1) zC))
  (zB (zR (zK (zNn hu0) (pv 0) (yF zE) (zJ _)) (zB (pS 2 nd (zI yD (pv 2) (zI wO (zI zZ (pv 1) (zP yH rfl B.len yK (zA (pv 0) zE))) zC)))
  (zG (pS 2 nd (zI zY (zI yD (pv 2) (zI wO (zQ zX (pv 0) (zI zY (pv 1) (zP yH rfl B.len yK (zA (pv 0) zE))) (fun _ _=>rfl)) zC)) zC)))) zM)
  (zG (zN (zI zY (zI yD (zI zZ (zI wO (pv 2) (pv 2)) zC) (zI wO zC (pv 2))) zC))))), ?_⟩
 walk_at "st";walk_at "rd3";intro p hp;have hS':=(zH hp (.lst [])).seq hS;refine zSo hS' (SqL.of zF) (zPm ns) rfl ⟨_,rfl, ?_⟩;rw[zQo]
 by_cases hn:ns= []
 ·subst hn
  refine jR ⟨.inl (by lia), ?_⟩;exact q _ (zH hp _)
 ·have hpos:0<ns.length:=cB.mpr hn
  have e1:(ns.map V.int).isEmpty=false:=by cases ns with | nil=>exact absurd rfl hn | cons _ _=>rfl
  rw[mK rfl,e1];have hl:(ns.map V.int).length=ns.length:=mZ _;have hm0:0≤k % (ns.length:Int):=sG _ (by lia);have hm1:k % (ns.length:Int)<ns.length:=sT _ (by lia);refine gK ⟨ns.map V.int,hS',by rw[hl];lia,ns.map V.int,hS',by rw[hl];lia, ?_⟩;rw[hl];refine zW hS' (uK (d:=.int 0) hm0 (by rw[hl];exact hm1)) ⟨ns.getD (k % ns.length).toNat 0, ?_, .inl ?_, ?_⟩
  ·simp[List.getD,pP]
  ·generalize (k*7919+k / ns.length*104729+ns.getD (k % ns.length).toNat 0*48271)=z
   lia
  ·have e:uB ns k=_:=rfl
   have e2:uB ns k=(((k*7919+k / ns.length*104729+ns.getD (k % ns.length).toNat 0*48271)% 1000003*((k*7919+k / ns.length*104729+ns.getD (k % ns.length).toNat 0*48271)% 1000003)/ 11+13*((k*7919+k / ns.length*104729+ns.getD (k % ns.length).toNat 0*48271)% 1000003))% 1000003):=by
    unfold uB;rw[mG hn]
   rw[←e2];exact q _ (zH hp _)
def zXy:Sp:=fun vs H Q _=>∃(m:Int),vs= [.int m]∧0≤m∧m<2000000∧∀H',Same H H'→Q (.int (zDo m)) H'
theorem scNum:zV ["_law_more"] ["_law_more"] (zO zZe):=by walk_at "sc"
theorem yBc(F:Fun K "_law_number_by" "_law_number_by" zZe f fd):FnOk P w K mg base CX0 1 f fd ["_law_more"] zXy:=by
 refine F.ok scNum (by walk_at "ln") fun c A o s H vs Q E hr h=>?_;obtain⟨m,rfl,h0,h1,q⟩:=h;have nd:=scNum.nd;refine⟨_,(zB (zR (zK zS (zI zY (pv 0) zC) zC (zJ _)) (zG (zN (zI jO (zI zY (zI zZ (pv 0) zC) zC) zC))) zM)
  (zB (zR (zK zS (zI zY (pv 0) zC) zC (zJ _)) (zG (zN (zI jO (zI zY (zI qO (pv 0) zC) (zI yD (zI wO zC (zI qO zC zC)) zC)) (zI qO zC zC)))) zM)
  (zG (zN (zQ zX (yF (zA (zI qO zC zC) (zA (wQ xN (zI qO zC zC)) (zA (zI jO (zI qO zC zC) zC) (zA zC (zA zC (zA (wQ xN zC) (zA (zI qO zC zC) (zA zC zE))))))))) (zI zY (zI zZ (pv 0) zC) zC) (fun _ _=>rfl)))))), ?_⟩
 walk_at "st";walk_at "rd3";unfold zDo at q;split
 ·rename_i hc
  rw[mK hc] at q;exact q _ (Same.refl H)
 ·rename_i hc
  rw[mG hc] at q;split
  ·rename_i hd
   rw[mK hd] at q;exact⟨by lia,q _ (Same.refl H)⟩
  ·rename_i hd
   rw[mG hd] at q;intro p hp;refine zW (SqL.of zF) (uK (d:=.int 0) (by lia) (by simp only[mE,nA];lia)) ?_;have e:([V.int 1000000000000,V.int (-1000000000000),V.int 999999999999,V.int 0,V.int 1,V.int (-1),V.int 100000000000,V.int 999]:List V).getD (m / 3 % 8).toNat (.int 0)= .int (([1000000000000,-1000000000000,999999999999,0,1,-1,100000000000,999]:List Int).getD (m / 3 % 8).toNat 0):=by
    rcases(by lia:m / 3 % 8=0∨m / 3 % 8=1∨m / 3 % 8=2∨m / 3 % 8=3∨m / 3 % 8=4∨m / 3 % 8=5∨m / 3 % 8=6∨m / 3 % 8=7) with e | e | e | e | e | e | e | e<;>rw[e]<;>rfl
   rw[e];exact q _ (zH hp _)
abbrev zUo:Stmt:=top 39
def zSt:Sp:=fun vs H Q _=>∃(m:Int),vs= [.int m]∧0≤m∧m<2000000∧∀H',Same H H'→Q (.str (tx (zHc m))) H'
theorem scName:zV ["_law_more","_law_letters","_law_size","_law_at","_law_word","_law_step","_law_rest"] ["_law_more"] (zO zUo):=by walk_at "sc"
theorem zVy(F:Fun K "_law_name_by" "_law_name_by" zUo f fd)(B:Bl mg):FnOk P w K mg base CX0 1 f fd ["_law_more"] zSt:=by
 refine F.ok scName (by walk_at "ln") fun c A o s H vs Q E hr h=>?_;obtain⟨m,rfl,h0,h1,q⟩:=h;have nd:=scName.nd;refine⟨_,(zB (zAc (i:=1) nd rfl (bB rfl) zD)
  (zB (pS 2 nd (zQ zX (yF (zA zC (zA (zI yD zC (zI zY (zI zZ (pv 0) zC) zC)) (zA (zI yD zC (zI zY (zI zZ (pv 0) zC) zC)) zE)))) (zI zY (pv 0) zC) (fun _ _=>rfl)))
  (zB (zR (zK zS (zI zY (zI zZ (pv 0) zC) zC) zC (zJ _)) (zB (pS 3 nd (zI zY (zI zZ (pv 0) zC) (pv 2)))
  (zB (pS 4 nd (zI yW (zI yW (zI xJ zD (pv 3)) (zQ xK (pv 1) (zI zY (zI zZ (pv 0) zC) zC) (fun _ _=>rfl))) (zI xJ zD (zI jO (zI jO (pv 2) (pv 3)) zC))))
  (zG (zN (pv 4))))) zM)
  (zB (zAc (i:=5) nd rfl (bB rfl) (zI yD zC (zI zY (zI zZ (pv 0) zC) zC)))
  (zB (pS 6 nd (xQ pG tZ aA zGs zD (zA (wT (own:=["_law_j"]) (F:=[("_law_letters",1),("_law_more",0),("_law_step",5)]) ⟨rfl,by walk_at "wu",by walk_at "wu",by walk_at "wu",(.cons rfl rfl rfl (.cons rfl rfl rfl (.cons rfl rfl rfl .nil)))⟩ rfl (vB rfl B.range (zA (zI jO (pv 2) zC) zE)) (fun _ _ _ _=>yO (i:=0) (by show(vP ["_law_j"] [("_law_letters",1),("_law_more",0),("_law_step",5)]).Nodup;decide+kernel) rfl (pR rfl)) (fun _ _ _ _=>wF) (fun _ _ _ _=>(zQ xK (pv 1) (zI zY (zI yD (zI zZ (pv 2) zC) (zI wO (pv 0) (pv 3))) zC) (fun _ _=>rfl)))) zE)))
  (zG (zN (zI yW (zQ xK (pv 1) (zI zY (zI zZ (pv 0) zC) zC) (fun _ _=>rfl)) (pv 6))))))))), ?_⟩
 walk_at "st";walk_at "rd3";intro p hp;obtain⟨n1,n12⟩:=zNf m;refine zW (SqL.of zF) (zVp m) ?_;simp only[ts_a,qK,zTn];unfold zHc at q;generalize zAh m=n at*;split
 ·rename_i hc
  rw[mK hc] at q;have a0:=sG (m / 72) (show n≠0 by lia);have a1:=sT (m / 72) (show 0<n by lia);refine⟨n,rfl,by lia,by decide,by lia,by lia,xA (by decide) (by rw[zBe];exact zGl (by lia) (by lia)) ⟨_,rfl, ?_,n,rfl,by decide,by lia,by lia, ?_, ?_⟩⟩
  ·rw[zU,zU];simp only[mU,pO];lia
  ·rw[xX,zU,zU];simp only[mC,mU,pO];lia
  ·rw[xX,xX]
   exact q _ (zH hp _)
 ·rename_i hc
  rw[mG hc] at q;refine⟨rfl,n,rfl,by lia,by lia,uG (fun i ys H'=>Same (upd H p (.lst [V.int 1,V.int (1+m / 3 % 4),V.int (1+m / 3 % 12)])) H'∧ys=((zCq m i).map fun c=>tx [c]).map V.str) (by rw[mJ];lia) ⟨Same.refl _,rfl⟩ ?_ ?_⟩
  ·rintro i ys H' hi _ ⟨hs,rfl⟩
   walk_at "rd3";refine⟨.inl (by lia),xA (by decide) (by rw[zBe];exact zGl (by lia) (by lia)) ⟨hs, ?_⟩⟩;unfold zCq;rw[zKe];simp
  ·rintro ys H' hl ⟨hs,rfl⟩ p' hp'
   have hrl:(zCq m (n - 1).toNat).length=(n - 1).toNat:=by simp[zCq]
   refine⟨p',(zCq m (n - 1).toNat).map fun c=>tx [c],rfl,rfl,SqL.of zF,by rw[qB];lia,xA (by decide) (by rw[zBe];exact zGl (by lia) (by lia)) ⟨_,rfl,_,rfl, ?_, ?_⟩⟩
   ·rw[qB,zU,zU,pO];lia
   ·rw[qB,xX]
    exact q _ ((zH hp _).trans (hs.trans (zH hp' _)))
abbrev zLg:Stmt:=top 40
abbrev zQk:Stmt:=top 41
abbrev zSi:Stmt:=top 45
def zLn:Sp:=fun vs H Q _=>vs= []∧Q (.str (tx wJ)) H
theorem scSigns:zV ["_law_some"] [] (zO zLg):=by walk_at "sc"
theorem zTq(F:Fun K "_law_signs" "_law_signs" zLg f fd):FnOk P w K mg base CX0 1 f fd [] zLn:=by
 refine F.ok scSigns (by walk_at "ln") fun c A o s H vs Q E hr h=>?_;obtain⟨rfl,q⟩:=h;have nd:=scSigns.nd;refine⟨_,(zB (pS 0 nd zD)
  (zG (zN (zI yW (pv 0) zD)))), ?_⟩
 walk_at "st";walk_at "rd3";refine⟨by decide, ?_⟩;rw[yBd];exact q
def zKp:Sp:=fun vs H Q _=>∃(m:Int),vs= [.int m]∧0≤m∧m<2000000∧∀(x:List Nat),zCx x=true→∀H',Same H H'→Q (.str (tx x)) H'
theorem scText:zV ["_law_more","_law_signs_here","_law_rest","_law_size","_law_half","_law_step"] ["_law_more"] (zO zQk):=by walk_at "sc"
theorem zWs(F:Fun K "_law_text_by" "_law_text_by" zQk f fd)(B:Bl mg)(G_law_signs:Dn P w K mg base 1 "_law_signs" [] zLn):FnOk P w K mg base CX0 2 f fd ["_law_more"] zKp:=by
 refine F.ok scText (by walk_at "ln") fun c A o s H vs Q E hr h=>?_;obtain⟨m,rfl,h0,h1,q⟩:=h;have nd:=scText.nd;refine⟨_,(zB (zAc (i:=1) nd rfl (bB rfl) (zYh G_law_signs hr (by lia) rfl))
  (zB (pS 2 nd (zI zZ (pv 0) zC))
  (zB (pS 3 nd (zQ zX (yF (zA (zI zY (pv 2) zC) (zA (zI zY (pv 2) zC) (zA (zI zY (pv 2) zC) zE)))) (zI zY (pv 0) zC) (fun _ _=>rfl)))
  (zB (zR (zK zS (zI zY (zI zZ (pv 0) zC) zC) zC (zJ _)) (zB (pS 4 nd (zI zZ (pv 3) zC))
  (zG (zN (zI yW (zI xJ zD (pv 4)) (zI xJ (zQ xK (pv 1) (zI zY (zI zZ (pv 0) zC) zC) (fun _ _=>rfl)) (zI jO (pv 3) (pv 4))))))) zM)
  (zB (zAc (i:=5) nd rfl (bB rfl) (zI yD zC (zI zY (zI zZ (pv 0) zC) zC)))
  (zG (zN (xQ pG tZ aA zGs zD (zA (wT (own:=["_law_j"]) (F:=[("_law_signs_here",1),("_law_more",0),("_law_step",5)]) ⟨rfl,by walk_at "wu",by walk_at "wu",by walk_at "wu",(.cons rfl rfl rfl (.cons rfl rfl rfl (.cons rfl rfl rfl .nil)))⟩ rfl (vB rfl B.range (zA (pv 3) zE)) (fun _ _ _ _=>yO (i:=0) (by show(vP ["_law_j"] [("_law_signs_here",1),("_law_more",0),("_law_step",5)]).Nodup;decide+kernel) rfl (pR rfl)) (fun _ _ _ _=>wF) (fun _ _ _ _=>(zQ xK (pv 1) (zI zY (zI yD (zI zZ (pv 2) zC) (zI wO (pv 0) (pv 3))) zC) (fun _ _=>rfl)))) zE))))))))), ?_⟩
 walk_at "st";walk_at "rd3";refine⟨rfl,fun p hp=>?_⟩;obtain⟨v,hv,hm⟩:=wZ (xs:=[V.int (m / 5 % 4),V.int (m / 5 % 9),V.int (m / 5 % 31)]) (i:=m % 3) (by lia) (by simp only[mE,nA];lia);obtain⟨n,rfl,n0,n30⟩:∃n:Int,v= .int n∧0≤n∧n≤30:=by
  simp only[mF,nP,rD] at hm;rcases hm with rfl | rfl | rfl<;>exact⟨_,rfl,by lia,by lia⟩
 refine zW (SqL.of zF) hv ?_;simp only[ts_q,qK,zTn];split
 ·obtain⟨c,hc,hcl⟩:=zSk (i:=m / 465 % 94) (by lia) (by lia)
  refine⟨n,rfl,by decide,by lia,by lia,xA (by decide) hc ⟨n,rfl,_,rfl,(show(1:Nat)≤1000 by decide),by lia,by lia, ?_, ?_⟩⟩
  ·rw[yJ,qK,zU,zU];simp only[mU];lia
  ·rw[yJ,qK,xX]
   refine q _ (zEj ?_ ?_) _ (zH hp _)
   ·simp only[mC,mU];lia
   ·intro d hd
    simp only[pA,rA] at hd;rcases hd with⟨_,rfl⟩|⟨_,rfl⟩
    ·exact zKi
    ·exact hcl
 ·refine⟨rfl,n,rfl,by lia,by lia,uG (fun i ys H'=>Same (upd H p (.lst [V.int (m / 5 % 4),V.int (m / 5 % 9),V.int (m / 5 % 31)])) H'∧∃cs:List Nat,ys=(cs.map fun c=>tx [c]).map V.str∧cs.length=i∧∀c∈cs,c∈wJ) (by rw[mJ];lia) ⟨Same.refl _,[],rfl,rfl,fun _ h=>nomatch h⟩ ?_ ?_⟩
  ·rintro i ys H' hi _ ⟨hs,cs,rfl,hl,hcs⟩
   walk_at "rd3";obtain⟨c,hc,hcl⟩:=zSk (i:=(m / 7+(0+(i:Int))*(1+m / 13 % 93))% 94) (by lia) (by lia);refine⟨.inl (by lia),xA (by decide) hc ⟨hs,cs++ [c],by simp,by simp[hl], ?_⟩⟩;intro d hd;rcases pA.mp hd with z | z
   ·exact hcs d z
   ·rw[mS.mp z];exact hcl
  ·rintro ys H' hl ⟨hs,cs,rfl,hlen,hcs⟩ p' hp'
   refine⟨p',cs.map fun c=>tx [c],rfl,rfl,SqL.of zF,by rw[qB];lia, ?_⟩;rw[qB];exact q _ (zEj (by lia) hcs) _ ((zH hp _).trans (hs.trans (zH hp' _)))
def zZi(x:List Nat):Prop:=∃c r,x=c::r∧c∈letL∧(∀d∈r,d∈letL++yX)∧r.length≤19
def zTo:Sp:=fun vs H Q _=>∃(m:Int),vs= [.int m]∧0≤m∧m<2000000∧∀(x:List Nat),zZi x→∀H',Same H H'→Q (.str (tx x)) H'
theorem scWord:zV ["_law_more","_law_letters","_law_size","_law_rest"] ["_law_more"] (zO zSi):=by walk_at "sc"
theorem zWg(F:Fun K "_law_word_by" "_law_word_by" zSi f fd)(B:Bl mg):FnOk P w K mg base CX0 1 f fd ["_law_more"] zTo:=by
 refine F.ok scWord (by walk_at "ln") fun c A o s H vs Q E hr h=>?_;obtain⟨m,rfl,h0,h1,q⟩:=h;have nd:=scWord.nd;refine⟨_,(zB (zAc (i:=1) nd rfl (bB rfl) zD)
  (zB (pS 2 nd (zQ zX (yF (zA zC (zA (zI yD zC (zI zY (zI zZ (pv 0) zC) zC)) (zA (zI yD zC (zI zY (zI zZ (pv 0) zC) zC)) zE)))) (zI zY (pv 0) zC) (fun _ _=>rfl)))
  (zB (zVq (i:=3) nd rfl (pR rfl) (own:=["_law_j"]) (F:=[("_law_letters",1),("_law_more",0)]) ⟨rfl,by walk_at "wu",by walk_at "wu",by walk_at "wu",(.cons rfl rfl rfl (.cons rfl rfl rfl .nil))⟩ rfl (vB rfl B.range (zA (zI jO (pv 2) zC) zE)) (fun _ _ _ _=>yO (i:=0) (by show(vP ["_law_j"] [("_law_letters",1),("_law_more",0)]).Nodup;decide+kernel) rfl (pR rfl)) (fun _ _ _ _=>wF) (fun _ _ _ _=>(zQ xK (pv 1) (zI zY (zI yD (zI zZ (pv 2) zC) (zI wO (zI wO (pv 0) (pv 0)) (zI yD zC (zI zY (zI zZ (pv 2) zC) zC)))) zC) (fun _ _=>rfl))))
  (zG (zN (zI yW (zQ xK (pv 1) (zI zY (zI zZ (pv 0) zC) zC) (fun _ _=>rfl)) (xQ pG tZ aA zGs zD (zA (pv 3) zE)))))))), ?_⟩
 walk_at "st";walk_at "rd3";intro p hp;obtain⟨v,hv,hm⟩:=wZ (xs:=[V.int 1,V.int (1+m / 3 % 5),V.int (1+m / 3 % 20)]) (i:=m % 3) (by lia) (by simp only[mE,nA];lia);obtain⟨n,rfl,n1,n12⟩:∃n:Int,v= .int n∧1≤n∧n≤20:=by
  simp only[mF,nP,rD] at hm;rcases hm with rfl | rfl | rfl<;>exact⟨_,rfl,by lia,by lia⟩
 refine zW (SqL.of zF) hv ?_;refine⟨n,rfl,by lia,by lia,uG (fun i ys H'=>Same (upd H p (.lst [V.int 1,V.int (1+m / 3 % 5),V.int (1+m / 3 % 20)])) H'∧∃cs:List Nat,ys=(cs.map fun c=>tx [c]).map V.str∧cs.length=i∧∀c∈cs,c∈letL++yX) (by rw[mJ];lia) ⟨Same.refl _,[],rfl,rfl,fun _ h=>nomatch h⟩ ?_ ?_⟩
 ·rintro i ys H' hi _ ⟨hs,cs,rfl,hl,hcs⟩
  walk_at "rd3";obtain⟨c,hc,hcl⟩:=yAr (i:=(m / 7+(0+(i:Int))*(0+(i:Int))*(1+m / 11 % 35))% 36) (by lia) (by lia);refine⟨.inl (by lia), .inr (by lia),xA (by decide) (by rw[zBe];exact hc) ⟨hs,cs++ [c],by simp,by simp[hl], ?_⟩⟩;intro d hd;rcases pA.mp hd with z | z
  ·exact hcs d z
  ·rw[mS.mp z];exact hcl
 ·rintro ys H' hl ⟨hs,cs,rfl,hlen,hcs⟩ p' hp'
  obtain⟨c,hc,hcl⟩:=zSu (i:=m / 60 % 26) (by lia) (by lia);refine xA (by decide) (by rw[zBe];exact hc) ⟨rfl,p',cs.map fun c=>tx [c],rfl,rfl,SqL.of zF,by rw[qB];lia, ?_⟩;rw[qB];refine⟨_,rfl,_,rfl,by rw[zU,zU,pO];lia, ?_⟩;rw[xX];exact q _ ⟨c,cs,rfl,hcl,hcs,by lia⟩ _ ((zH hp _).trans (hs.trans (zH hp' _)))
abbrev zGv:Stmt:=top 10
def zUs(t:String):V:=if t= "NoneType" then .str "nothing" else if t= "bool" then .str "truth" else if t= "int" then .str "number" else if t= "str" then .str "text" else if t= "list" then .str "row" else if t= "dict" then .str "record" else .non
def zTa:Sp:=fun vs H Q _=>∃(v:V)(t:String),vs= [v]∧tyS H v=some t∧∀H',Same H H'→Q (zUs t) H'
theorem zMc{H:Hp}{v:V}(h:tyS H v=some "NoneType"):v= .non:=by
 cases v with
 | non=>rfl
 | ref a=>
  have h':(match H a with | some (.lst _)=>some "list" | some (.tup _)=>some "tuple" | some (.dK _)=>some "dict" | _=>none)=some "NoneType":=h
  split at h'<;>first | exact absurd (nV h') (by decide)| cases h'
 | bl b=>exact absurd (nV h) (by decide)
 | int b=>exact absurd (nV h) (by decide)
 | str b=>exact absurd (nV h) (by decide)
 | byt b=>cases h
 | flt b=>cases h
 | ty b=>cases h
theorem zTy{H:Hp}{v:V}{t:String}{Q:VK}(ht:tyS H v=some t)(q:Q (zUs t) H):
  if v=V.non then Q (V.str (Str.ofString "nothing")) H else∃x,tyS H v=some x∧if wD x "bool" =true then Q (V.str (Str.ofString "truth")) H else
   ∃x,tyS H v=some x∧if wD x "int" =true then Q (V.str (Str.ofString "number")) H else∃x,tyS H v=some x∧if wD x "str" =true then Q (V.str (Str.ofString "text")) H else
   ∃x,tyS H v=some x∧if wD x "list" =true then Q (V.str (Str.ofString "row")) H else∃x,tyS H v=some x∧if wD x "dict" =true then Q (V.str (Str.ofString "record")) H else Q V.non H:=by
 have hm:=zFl ht;simp only[ht,Option.some.injEq,bW]
 by_cases hv:v= .non
 ·subst hv;cases ht;rw[mK rfl];exact q
 ·rw[mG hv]
  simp only[tyL,mF,nP,rD] at hm;rcases hm with rfl | rfl | rfl | rfl | rfl | rfl | rfl
  ·exact absurd (zMc ht) hv
  all_goals (simpa [wD,zUs] using q)
theorem scKindOf:zV ["thing"] ["thing"] (zO zGv):=by walk_at "sc"
theorem zJs(F:Fun K "kind_of" "kind_of" zGv f fd)(B:Bl mg):FnOk P w K mg base CX0 1 f fd ["thing"] zTa:=by
 refine F.ok scKindOf (by walk_at "ln") fun c A o s H vs Q E hr h=>?_;obtain⟨v,t,rfl,ht,q⟩:=h;have nd:=scKindOf.nd;refine⟨_,(zB (zR (zFm (zUm (pv 0))) (zG (zN zD)) zM)
  (zB (zR (yT (pI B.isinstance zT B.bool zEw (pv 0))) (zG (zN zD)) zM)
  (zB (zR (yT (pI B.isinstance zT B.int xO (pv 0))) (zG (zN zD)) zM)
  (zB (zR (yT (pI B.isinstance zT B.str uV (pv 0))) (zG (zN zD)) zM)
  (zB (zR (yT (pI B.isinstance zT B.list qG (pv 0))) (zG (zN zD)) zM)
  (zB (zR (yT (pI B.isinstance zT B.dict gU (pv 0))) (zG (zN zD)) zM)
  (zG (zN jC)))))))), ?_⟩
 walk_at "st";walk_at "rd3";exact zTy ht (q H (Same.refl H))
theorem iP{c A B:Prop} [Decidable c] (h:c) (a:A):if c then A else B:=by rw[mK h];exact a
theorem iN{c A B:Prop} [Decidable c] (h:¬c) (b:B):if c then A else B:=by rw[mG h];exact b
abbrev zZv:Stmt:=top 12
abbrev yAv:Stmt:=top 24
abbrev zVw:Stmt:=top 22
abbrev zNg:Stmt:=top 25
structure Ms(mg:Str→Option Value):Prop where
 LETTERS:∃t,mg "LETTERS" =some (.str (Str.ofString "abcdefghijklmnopqrstuvwxyz") t)
 FIGURES:∃t,mg "FIGURES" =some (.str (Str.ofString "0123456789") t)
 NAME_SIGNS:∃t,mg "NAME_SIGNS" =some (.str (Str.ofString "abcdefghijklmnopqrstuvwxyz0123456789") t)
 MARKS:∃t,mg "MARKS" =some (.str (Str.ofString "[]{},:") t)
 MOST_IN_NAME:∃t,mg "MOST_IN_NAME" =some (.int 12 t)
 MOST_IN_TEXT:∃t,mg "MOST_IN_TEXT" =some (.int 30 t)
 MOST_IN_ROW:∃t,mg "MOST_IN_ROW" =some (.int 60 t)
 MOST_IN_RECORD:∃t,mg "MOST_IN_RECORD" =some (.int 30 t)
 MOST_DEPTH:∃t,mg "MOST_DEPTH" =some (.int 8 t)
 MOST_SIZE:∃t,mg "MOST_SIZE" =some (.int 200 t)
 MOST_SIGNS:∃t,mg "MOST_SIGNS" =some (.int 20000 t)
 MOST_IN_NUMBER:∃t,mg "MOST_IN_NUMBER" =some (.int 14 t)
theorem zUz:Str.ofString "abcdefghijklmnopqrstuvwxyz" =tx letL:=by decide+kernel
theorem zFj:Str.ofString "0123456789" =tx yX:=by decide+kernel
theorem zQc:Str.ofString "abcdefghijklmnopqrstuvwxyz0123456789" =tx (letL++yX):=by decide+kernel
theorem zKq:Str.ofString "[]{},:" =tx mkL:=by decide+kernel
theorem zCd:Str.ofString "'" =tx [39]:=by decide+kernel
theorem zXs:Str.ofString "''" =tx [39,39]:=by decide+kernel
theorem zDy:Str.ofString "-" =tx [45]:=by decide+kernel
theorem zXv:Str.ofString " " =tx [32]:=by decide+kernel
def kS:Nat→Str
 | 0=>Str.ofString "number"
 | 1=>Str.ofString "word"
 | 2=>Str.ofString "text"
 | _=>Str.ofString "mark"
def zJa:Sp:=fun vs H Q _=>∃c:Nat,vs= [.str (tx [c])]∧∀H',Same H H'→Q (.bl (decide (c∈wJ))) H'
theorem zGp(c:Nat):c∈wJ↔32≤c∧c≤126∧c≠37:=by
 unfold wJ;rw[cX,sF];constructor
 ·rintro⟨⟨i,hi,rfl⟩,h⟩
  have:=List.mem_range.mp hi;simp at h
  lia
 ·rintro⟨h1,h2,h3⟩
  exact⟨⟨c - 32,List.mem_range.mpr (by lia),by lia⟩,by simp[h3]⟩
theorem scSgn:zV ["sign"] ["sign"] (zO zZv):=by walk_at "sc"
theorem zZb(F:Fun K "is_text_sign" "is_text_sign" zZv f fd)(B:Bl5 mg):FnOkH P w K mg base 1 f fd ["sign"] zJa:=by
 refine F.okh scSgn (by walk_at "ln") fun c A o s H vs Q E hr h=>?_;obtain⟨c,rfl,q⟩:=h;have nd:=scSgn.nd;refine⟨_,(zG (zN (wI (zVn zEt zEt zD (pv 0) zD) (xL (yA vE (zP zTm rfl B.ord yAh (zA (pv 0) zE)) zC (zJ _)))))), ?_⟩;walk_at "st";walk_at "rd3";have e1:ts (Str.ofString " ")= [32]:=by decide+kernel
 have e2:ts (Str.ofString "~")= [126]:=by decide+kernel
 have e3:ts (tx [c])= [c]:=rfl;have e4:(↑((#[c]:Array Nat).getD 0 0):Int)=(c:Int):=rfl;have l1:∀a b:Nat,([a]:List Nat)< [b]↔a<b:=fun a b=>by
  constructor
  ·intro h
   cases h with
   | rel h=>exact h
   | cons h=>cases h
  ·exact fun h=>.rel h
 have z:=q H (Same.refl H);rw[e1,e2,e3,e4]
 by_cases c1:c<32
 ·refine⟨false,by rw[nB ((l1 _ _).mpr c1)];rfl,jR ?_⟩
  rw[mM (fun h=>by have:=(zGp c).mp h;lia)] at z;exact z
 ·refine⟨true,by rw[mM (fun h=>c1 ((l1 _ _).mp h))];rfl,gK ?_⟩
  by_cases c2:126<c
  ·refine⟨false,by rw[nB ((l1 _ _).mpr c2)];rfl,jR ?_⟩
   rw[mM (fun h=>by have:=(zGp c).mp h;lia)] at z;exact z
  ·refine⟨true,by rw[mM (fun h=>c2 ((l1 _ _).mp h))];rfl,gK ⟨rfl, ?_⟩⟩
   have e:decide (c∈wJ)= !decide ((c:Int)=37):=by
    rw[tP,cN,zGp];simp
    lia
   rw[e] at z;exact z
def zCl:Sp:=fun vs H Q _=>∃(L S:List Nat)(n:Nat),vs= [.str (tx L), .int n, .str (tx S)]∧n≤L.length∧L.length≤100000∧Q (.int ((n+jH S (L.drop n):Nat):Int)) H
theorem scRun:zV ["text","at","signs","end"] ["text","at","signs"] (zO yAv):=by walk_at "sc"
theorem yAj(F:Fun K "run_end" "run_end" yAv f fd)(B:Bl mg):FnOkH P w K mg base 1 f fd ["text","at","signs"] zCl:=by
 refine F.okh scRun (by walk_at "ln") fun c A o s H vs Q E hr h=>?_;obtain⟨L,S,n,rfl,hn,hL,q⟩:=h;have nd:=scRun.nd;refine⟨_,(zB (pS 3 nd (pv 1))
  (zB (wN PassesOwn.never (PW.pt (wA (zK jP (pv 3) (zP yG rfl B.len yK (zA (pv 0) zE)) (zJ _)) (xV (zK vC (zQ xK (pv 0) (pv 3) (fun _ _=>rfl)) (pv 2) (by with_unfolding_all rfl))))) (zG (yAi (i:=3) nd rfl (pR rfl) zC yAn)))
  (zG (zN (pv 3))))), ?_⟩
 walk_at "st";walk_at "rd3";refine⟨fun m σ H'=>∃j:Nat,j≤jH S (L.drop n)∧σ= [some (.str (tx L)),some (.int n),some (.str (tx S)),some (.int ((n+j:Nat):Int))]∧H'=H∧m=L.length - (n+j),⟨_,0,rK _,rfl,rfl,rfl⟩, ?_⟩;rintro m σ H' ⟨j,hj,rfl,rfl,rfl⟩;have hr1:=zWj S (L.drop n);rw[nL] at hr1;walk_at "rd3";have hlen:(tx L).length=L.length:=zU L;rw[hlen];refine⟨by lia, ?_⟩
 by_cases c:((n+j:Nat):Int)<(L.length:Int)
 ·obtain⟨d,hd⟩:∃d,L[n+j]? =some d:=⟨_,pY (by lia)⟩
  have hd2:(L.drop n)[j]? =some d:=by rw[rQ];exact hd
  have hlt:=zVx hd2 hj;refine iP c (xA (by rw[hlen,mJ];lia) (yE (j:=n+j) hd) ⟨d,rfl, ?_⟩);rw[yJ]
  by_cases hm:d∈S
  ·refine iP hm ⟨fun σ' H''=>σ'= [some (.str (tx L)),some (.int n),some (.str (tx S)),some (.int ((n+(j+1):Nat):Int))]∧H''=H', ?_, ?_⟩
   ·rintro σ' H'' ⟨rfl,rfl⟩
    exact⟨_,by have:=hlt.mp hm;lia,j+1,hlt.mp hm,rfl,rfl,rfl⟩
   ·simp only[tAug,ipI]
    walk_at "rd3"
    lia
  ·have e:j=jH S (L.drop n):=by
    have:¬j<jH S (L.drop n):=fun z=>hm (hlt.mpr z)
    lia
   refine iN hm ?_;rw[e];exact q
 ·have e:j=jH S (L.drop n):=by lia
  refine iN c ?_;rw[e];exact q
def zRg:Sp:=fun vs H Q _=>∃(L r:List Nat)(n c k:Nat),vs= [.str (tx L), .int n]∧L.drop n=c::r∧zNi k c∧L.length≤100000∧Q (.str (kS k)) H
theorem scKAt:zV ["text","at","sign"] ["text","at"] (zO zVw):=by walk_at "sc"
theorem tx1{c d:Nat}:V.str (tx [c])=V.str (tx [d])↔c=d:=by
 constructor
 ·intro h
  have:=congrArg ts (V.str.inj h);rw[yJ,yJ] at this;exact(List.cons.inj this).1
 ·rintro rfl;rfl
theorem uC{L r:List Nat}{n c:Nat}(h:L.drop n=c::r):L[n]? =some c:=by
 have:=congrArg (fun l:List Nat=>l[0]?) h
 simpa [rQ] using this
theorem zUq(F:Fun K "kind_at" "kind_at" zVw f fd)(B:Bl mg)(M:Ms mg):FnOkH P w K mg base 1 f fd ["text","at"] zRg:=by
 refine F.okh scKAt (by walk_at "ln") fun c A o s H vs Q E hr h=>?_;obtain⟨L,r,n,c,k,rfl,hd,hk,hL,q⟩:=h;have nd:=scKAt.nd;refine⟨_,(zB (pS 2 nd (zQ xK (pv 0) (pv 1) (fun _ _=>rfl)))
  (zB (zR (PW.pt (jS (zK zS (pv 2) zD (zJ _)) (vX (zK vC (pv 2) (kY rfl M.FIGURES) (by with_unfolding_all rfl))))) (zG (zN zD)) zM)
  (zB (zR (zK vC (pv 2) (kY rfl M.LETTERS) (by with_unfolding_all rfl)) (zG (zN zD)) zM)
  (zB (zR (zK zS (pv 2) zD (zJ _)) (zG (zN zD)) zM)
  (zB (zR (zK vC (pv 2) (kY rfl M.MARKS) (by with_unfolding_all rfl)) (zG (zN zD)) zM)
  (zG yAx)))))), ?_⟩
 walk_at "st";walk_at "rd3";refine xA (by rw[zU,mJ];lia) (yE (j:=n) (uC hd)) ?_;rw[zUz,zFj,zKq,zCd,zDy];simp only[tx1,yJ];refine⟨nJ, ?_⟩;rcases hk with⟨rfl,hc⟩|⟨rfl,hc⟩|⟨rfl,rfl⟩|⟨rfl,hc⟩
 ·by_cases h45:c=45
  ·exact iP h45 q
  ·exact iN h45 ⟨c,rfl,iP (hc.resolve_left h45) q⟩
 ·have:=zQz c hc
  exact iN this.1 ⟨c,rfl,iN this.2.1 ⟨c,rfl,iP hc q⟩⟩
 ·exact iN zPg.1 ⟨_,rfl,iN zPg.2.1 ⟨_,rfl,iN zPg.2.2 ⟨nJ,iP rfl q⟩⟩⟩
 ·have:=zYd c hc
  exact iN this.1 ⟨c,rfl,iN this.2.1 ⟨c,rfl,iN this.2.2.1 ⟨nJ,iN this.2.2.2 ⟨c,rfl,iP hc q⟩⟩⟩⟩
def zPo:Sp:=fun vs H Q _=>∃(L s fs r:List Nat)(n:Nat),vs= [.str (tx L), .int n]∧L.drop n=s++fs++r∧(s= []∨s= [45])∧fs≠ []∧(∀c∈fs,c∈yX)∧Stops 0 r∧L.length≤100000∧∀H',Same H H'→Q (.int ((n+(s++fs).length:Nat):Int)) H'
theorem scNEnd:zV ["text","at","first","end"] ["text","at"] (zO zNg):=by walk_at "sc"
theorem zWf(F:Fun K "number_end" "number_end" zNg f fd)(B:Bl mg)(M:Ms mg)(Grun_end:Dh P w K mg base 1 "run_end" ["text","at","signs"] zCl):FnOkH P w K mg base 2 f fd ["text","at"] zPo:=by
 refine F.okh scNEnd (by walk_at "ln") fun c A o s H vs Q E hr h=>?_;obtain⟨L,s,fs,r,n,rfl,hd,hs,hn,hf,hst,hL,q⟩:=h;have nd:=scNEnd.nd;refine⟨_,(zB (pS 2 nd (vQ (zK zS (zQ xK (pv 0) (pv 1) (fun _ _=>rfl)) zD (zJ _)) (zI yD (pv 1) zC) (pv 1)))
  (zB (pS 3 nd (gC Grun_end hr (by lia) rfl (zA (pv 0) (zA (pv 2) (zA (kY rfl M.FIGURES) zE)))))
  (zB (zR (zK zS (pv 3) (pv 2) (zJ _)) uW zM)
  (zG (zN (pv 3)))))), ?_⟩
 walk_at "st";walk_at "rd3";rw[zDy,zFj];have hst':∀c r',r=c::r'→c∉yX:=fun c r' e=>hst c r' e;have hfl:0<fs.length:=cB.mpr hn;have hdl:=congrArg List.length hd;rw[nL,mC,mC] at hdl;have q:=q _ (Same.refl _);rcases hs with rfl | rfl
 ·obtain⟨d,fs',rfl⟩:=rG hn
  have hd':L.drop n=d::(fs'++r):=hd;refine xA (by rw[zU,mJ];lia) (yE (j:=n) (uC hd')) ⟨rfl, ?_⟩;simp only[tx1];refine iN (zLi d (hf d mH)).1 ⟨L,yX,n,rfl,by lia,hL,rfl, ?_⟩;rw[hd,nH,wP hf hst'];exact iN (fun z=>by have:=V.int.inj z;simp only[mE] at this;lia) q
 ·have hd':L.drop n=45::(fs++r):=hd
  simp only[mE,nA] at hdl;refine xA (by rw[zU,mJ];lia) (yE (j:=n) (uC hd')) ⟨rfl, ?_⟩;simp only[tx1];refine iP nJ ⟨L,yX,n+1,by rw[cZ];rfl,by lia,hL,rfl, ?_⟩;have e:L.drop (n+1)=fs++r:=by
   rw[←nS,hd'];rfl
  rw[e,wP hf hst'];have e2:n+1+fs.length=n+([45]++fs).length:=by rw[mC];simp only[mE,nA];lia
  rw[e2];exact iN (fun z=>by have:=V.int.inj z;rw[mC] at this;simp only[mE,nA] at this;lia) q
abbrev zIz:Stmt:=top 26
abbrev zFh:Stmt:=top 23
abbrev zLe:Stmt:=top 27
abbrev zMm:Stmt:=top 21
theorem jM:∀y:List Nat,∃u x2,y=u++x2∧39∉u∧(x2= []∨∃y',x2=39::y')
 | []=>⟨[],[],rfl,(fun h=>nomatch h), .inl rfl⟩
 | c::y=>by
  by_cases h:c=39
  ·exact⟨[],c::y,rfl,(fun h=>nomatch h), .inr ⟨y,by rw[h]⟩⟩
  ·obtain⟨u,x2,e,hu,hx⟩:=jM y
   exact⟨c::u,x2,by rw[e];rfl,fun z=>(mF.mp z).elim (fun z=>h z.symm) hu,hx⟩
theorem zBx(y:List Nat):dbl (39::y)=39::39::dbl y:=by rw[zCr];rfl
theorem dq{u x2:List Nat}(hu:39∉u)(hx:x2= []∨∃y',x2=39::y')(r:List Nat):∃rest,dbl (u++x2)++39::r=u++39::rest:=by
 rw[xG,xP hu];rcases hx with rfl |⟨y,rfl⟩
 ·exact⟨r,by rw[zLt,mN]⟩
 ·exact⟨39::dbl y++39::r,by rw[zBx,nE];rfl⟩
def zVb:Sp:=fun vs H Q _=>∃(L x r:List Nat)(n:Nat),vs= [.str (tx L), .int n]∧L.drop n=39::(dbl x++39::r)∧(∀c∈x,c∈wJ)∧Stops 2 r∧L.length≤100000∧∀H',Same H H'→Q (.int ((n+2+(dbl x).length:Nat):Int)) H'
theorem scTEnd:zV ["text","at","close"] ["text","at"] (zO zIz):=by walk_at "sc"
theorem zWl(F:Fun K "text_end" "text_end" zIz f fd)(B:Bl mg)(Gis_text_sign:Dh P w K mg base 1 "is_text_sign" ["sign"] zJa):FnOkH P w K mg base 2 f fd ["text","at"] zVb:=by
 refine F.okh scTEnd (by walk_at "ln") fun c A o s H vs Q E hr h=>?_;obtain⟨L,x,r,n,rfl,hd,hx,hst,hL,q⟩:=h;have nd:=scTEnd.nd;refine⟨_,(zB (pS 2 nd (xQ pG rZ sA kM (pv 0) (zA zD (zA (zI yD (pv 1) zC) zE))))
  (zB (wN PassesOwn.never (PW.pt (wA (zK zUk (pv 2) zC (zJ _)) (xV (zK zS (xI vY (pv 0) (yU (zI yD (pv 2) zC)) (yU (zI yD (pv 2) zC))) zD (zJ _))))) (zG (pS 2 nd (xQ pG rZ sA kM (pv 0) (zA zD (zA (zI yD (pv 2) zC) zE))))))
  (zB (zR (zK jP (pv 2) zC (zJ _)) uW zM)
  (zB (zR (qM (yT (zP (wR rfl) rfl B.all jE (zA (wT (own:=["sign"]) (F:=[]) ⟨rfl,by walk_at "wu",by walk_at "wu",by walk_at "wu", .nil⟩ rfl (zBw (xI vY (pv 0) (yU (zI yD (pv 1) zC)) (yU (pv 2)))) (fun _ _ _ _=>yO (i:=0) (by show(vP ["sign"] []).Nodup;decide+kernel) rfl (pR rfl)) (fun _ _ _ _=>wF) (fun _ _ _ _=>(gC Gis_text_sign hr (by lia) rfl (zA (pv 0) zE)))) zE)))) uW zM)
  (zG (zN (zI yD (pv 2) zC))))))), ?_⟩
 walk_at "st";walk_at "rd3";have hd1:L.drop (n+1)=dbl x++39::r:=by rw[←nS,hd];rfl
 have hln:(tx L).length=L.length:=zU L;have hdl:=congrArg List.length hd1;rw[nL,mC,mE] at hdl;have hsz:(tx L).length≤sizeLine:=by rw[hln,mJ];lia
 obtain⟨u0,x20,e0,hu0,hx0⟩:=jM x;obtain⟨rest0,hr0⟩:=dq hu0 hx0 r;refine⟨rfl,tx L,tx [39],n+1,rfl,by rw[zCd], ?_⟩;rw[show((n:Int)+1)=((n+1:Nat):Int) by lia,vT (hd1.trans (by rw[e0];exact hr0)) hu0];refine⟨fun m σ H'=>∃x1 u x2,x=x1++(u++x2)∧39∉u∧(x2= []∨∃y,x2=39::y)∧σ= [some (.str (tx L)),some (.int n),some (.int ((n+1+(dbl x1).length+u.length:Nat):Int))]∧H'=H∧m=x2.length,⟨_,[],u0,x20,e0,hu0,hx0,rfl,rfl,rfl⟩, ?_⟩;rintro m σ H' ⟨x1,u,x2,ex,hu,hx2,rfl,rfl,rfl⟩;walk_at "rd3";generalize hk:n+1+(dbl x1).length+u.length=k;have hdk:L.drop k=dbl x2++39::r:=by
  rw[←hk,←nS,←nS,hd1,ex,xG,xG,xP hu];simp only[nE,tF]
 refine iP (by lia) ⟨_,rfl,hsz,rfl, ?_⟩;rw[show((k:Int)+1)=((k+1:Nat):Int) by lia,show((k:Int)+2)=((k+2:Nat):Int) by lia,xS,yJ,zCd];have hsl:(L.take (k+2)).drop (k+1)=(L.drop (k+1)).take 1:=by
  rw[sO];congr 1;lia
 have hd2:L.drop (k+1)=(dbl x2++39::r).drop 1:=by rw[←nS,hdk]
 rw[hsl,hd2];rcases hx2 with rfl |⟨y,rfl⟩
 ·refine iN ?_ ?_
  ·intro z
   have z:=congrArg ts (V.str.inj z);rw[yJ,yJ] at z;have z:r.take 1= [39]:=z
   cases r with
   | nil=>cases z
   | cons c r'=>
    have:c=39:=by simpa using z
    exact hst c r' rfl (by rw[this];decide)
  rw[mN] at ex;have hdx:dbl x=dbl x1++u:=by rw[ex,xG,xP hu]
  refine iN (by lia) ⟨_,rfl,hsz, ?_⟩;rw[show((n:Int)+1)=((n+1:Nat):Int) by lia,xS,yJ];have hsl2:(L.take k).drop (n+1)=dbl x:=by
   rw[sO,hd1,←hk,hdx,show n+1+(dbl x1).length+u.length - (n+1)=(dbl x1++u).length by rw[mC];lia,tG]
  rw[hsl2];have hds:∀c∈dbl x,c∈wJ:=fun c hc=>by
   obtain⟨d,hd',hc⟩:=List.mem_flatMap.mp hc;unfold rpl at hc;split at hc
   ·have:c=39:=by simpa using hc
    rw[this];exact zKi
   ·rw[mS.mp hc];exact hx d hd'
  have hdl2:(ts (tx (dbl x))).length≤100000:=by rw[yJ];lia
  refine⟨_,rfl,zDh (fun i ys H''=>Same H' H''∧ys=(((ts (tx (dbl x))).take i).map fun c=>decide (c∈wJ)).map V.bl) (by rw[mJ];lia) ⟨Same.refl _,rfl⟩ ?_ ?_⟩
  ·rintro i d ys H'' hd' _ ⟨hS,rfl⟩
   walk_at "rd3";refine⟨d,rfl,fun H3 g3=>⟨hS.trans g3, ?_⟩⟩;rw[vL hd'];simp only[pK,mY,pX]
  ·rintro ys H'' hl' ⟨hS,rfl⟩ p hp
   rw[sP];refine⟨p,rfl,_,SqL.of zF,iN ?_ ?_⟩
   ·rw[yJ]
    intro z;rw[aQ] at z;have:(dbl x).all (_root_.id∘fun c=>decide (c∈wJ))=true:=pH.mpr fun c hc=>nB (hds c hc);rw[this] at z;cases z
   ·have z:=q _ (hS.trans (zH hp (.lst (((ts (tx (dbl x))).map fun c=>decide (c∈wJ)).map V.bl))))
    have e:n+2+(dbl x).length=k+1:=by rw[hdx,mC,←hk];lia
    rw[e] at z;exact z
 ·obtain⟨u',x2',e',hu',hx'⟩:=jM y
  obtain⟨rest',hr'⟩:=dq hu' hx' r;have hd3:L.drop (k+2)=u'++39::rest':=by
   rw[←nS,hdk,zBx,←hr',←e'];rfl
  refine iP (by rfl) ⟨fun σ' H''=>σ'= [some (.str (tx L)),some (.int n),some (.int ((k+2+u'.length:Nat):Int))]∧H''=H', ?_,rfl,tx L,tx [39],_,rfl,rfl, ?_⟩
  ·rintro σ' H'' ⟨rfl,rfl⟩
   have hl:=congrArg List.length e';rw[mC] at hl;refine⟨x2'.length,by rw[mE];lia,x1++(u++ [39]),u',x2', ?_,hu',hx', ?_,rfl,rfl⟩
   ·rw[ex,e'];simp only[nE,nU,nH]
   ·congr 5
    rw[xG,xG,xP hu,←hk,mC,mC];rw[show(dbl [39]).length=2 from rfl]
    lia
  ·rw[vT hd3 hu']
   exact⟨rfl,rfl⟩
theorem jZ:(kS 1≠kS 0)∧(kS 2≠kS 0)∧(kS 3≠kS 0)∧(kS 0≠kS 1)∧(kS 2≠kS 1)∧(kS 3≠kS 1)∧(kS 0≠kS 2)∧(kS 1≠kS 2)∧(kS 3≠kS 2):=by decide+kernel
def zFc:Sp:=fun vs H Q _=>∃(L r:List Nat)(t:Tk)(n:Nat),vs= [.str (kS t.1), .str (tx L), .int n]∧L.drop n=shw t++r∧OkTk t∧Stops t.1 r∧L.length≤100000∧∀H',Same H H'→Q (.int ((n+(shw t).length:Nat):Int)) H'
theorem scTkEnd:zV ["kind","text","at"] ["kind","text","at"] (zO zFh):=by walk_at "sc"
theorem zJl(F:Fun K "token_end" "token_end" zFh f fd)(M:Ms mg)(Gnumber_end:Dh P w K mg base 2 "number_end" ["text","at"] zPo)(Grun_end:Dh P w K mg base 1 "run_end" ["text","at","signs"] zCl)(Gtext_end:Dh P w K mg base 2 "text_end" ["text","at"] zVb):FnOkH P w K mg base 3 f fd ["kind","text","at"] zFc:=by
 refine F.okh scTkEnd (by walk_at "ln") fun c A o s H vs Q E hr h=>?_;obtain⟨L,r,t,n,rfl,hd,hok,hst,hL,q⟩:=h;have nd:=scTkEnd.nd;refine⟨_,(zB (zR (zK zS (pv 0) zD (zJ _)) (zG (zN (gC Gnumber_end hr (by lia) rfl (zA (pv 1) (zA (pv 2) zE))))) zM)
  (zB (zR (zK zS (pv 0) zD (zJ _)) (zG (zN (gC Grun_end hr (by lia) rfl (zA (pv 1) (zA (pv 2) (zA (kY rfl M.NAME_SIGNS) zE)))))) zM)
  (zB (zR (zK zS (pv 0) zD (zJ _)) (zG (zN (gC Gtext_end hr (by lia) rfl (zA (pv 1) (zA (pv 2) zE))))) zM)
  (zG (zN (zI yD (pv 2) zC)))))), ?_⟩
 walk_at "st";walk_at "rd3";rw[show Str.ofString "number" =kS 0 from rfl,show Str.ofString "word" =kS 1 from rfl,show Str.ofString "text" =kS 2 from rfl,zQc];obtain⟨k,x⟩:=t;obtain⟨_,h⟩:=hok;have hdl:=congrArg List.length hd;rw[nL,mC] at hdl;rcases h with⟨hk,s,fs,e,hs,hn,hf⟩|⟨hk,c,r',e,hc,hr'⟩|⟨hk,hx⟩|⟨hk,c,e,hc⟩
 ·have hk:k=0:=hk
  have e:x=s++fs:=e;subst hk e;exact iP rfl ⟨L,s,fs,r,n,rfl,hd,hs,hn,hf,hst,hL,q⟩
 ·have hk:k=1:=hk
  have e:x=c::r':=e;subst hk e;refine iN jZ.1 (iP rfl ⟨L,letL++yX,n,rfl, ?_,hL, ?_⟩)
  ·have:0<(shw (1,c::r')).length:=sU _
   lia
  ·have hd:L.drop n=(c::r')++r:=hd
   rw[hd,wP (fun d hd=>(mF.mp hd).elim (fun z=>by rw[z];exact kH hc) (hr' d)) fun d r'' e=>hst d r'' e];exact q _ (Same.refl _)
 ·have hk:k=2:=hk
  subst hk;have hd:L.drop n=39::(dbl x++39::r):=by rw[hd];show 39::(dbl x++ [39])++r=_;rw[nU,nE];rfl
  refine iN jZ.2.1 (iN jZ.2.2.2.2.1 (iP rfl ⟨L,x,r,n,rfl,hd,hx,hst,hL,fun H' g=>?_⟩));have e:n+2+(dbl x).length=n+(shw (2,x)).length:=by
   show _=n+(39::(dbl x++ [39])).length;rw[mE,mC];simp only[mE,nA];lia
  rw[e];exact q _ g
 ·have hk:k=3:=hk
  have e:x= [c]:=e;subst hk e;refine iN jZ.2.2.1 (iN jZ.2.2.2.2.2.1 (iN jZ.2.2.2.2.2.2.2.2 ?_));exact q _ (Same.refl _)
def zFv:Sp:=fun vs H Q _=>∃t:Tk,vs= [.str (kS t.1), .str (tx (shw t))]∧OkTk t∧Q (.str (tx t.2)) H
theorem scStrOf:zV ["kind","signs"] ["kind","signs"] (zO zLe):=by walk_at "sc"
theorem zTg(L:List Nat):Txt.slice (tx (39::(L++ [39]))) (some 1) (some (-1))=tx L:=by
 have e:Txt.slice (tx (39::(L++ [39]))) (some 1) (some (-1))=Txt.slice (tx (39::(L++ [39]))) (some ((1:Nat):Int)) (some ((L.length+1:Nat):Int)):=by
  unfold Txt.slice;have:PySem.Builtin.Str.strSliceIndices (some 1) (some (-1)) 1 (tx (39::(L++ [39]))).length=PySem.Builtin.Str.strSliceIndices (some ((1:Nat):Int)) (some ((L.length+1:Nat):Int)) 1 (tx (39::(L++ [39]))).length:=by
   rw[zU];unfold PySem.Builtin.Str.strSliceIndices;have hl:((39::(L++ [39])).length:Int)=L.length+2:=by
    rw[mE,mC];simp only[mE,nA];lia
   dsimp only;rw[hl]
   congr 1
   simp only[show(1:Int)>0 from by decide,tL,show((-1:Int)<0) from by decide,mG (show¬(((L.length+1:Nat):Int)<0) by lia)]
   lia
  rw[this]
 rw[e,xS,yJ]
 congr 1
 rw[aG,List.drop_succ_cons,rY,tG]
theorem zUt(F:Fun K "string_of" "string_of" zLe f fd):FnOkH P w K mg base 1 f fd ["kind","signs"] zFv:=by
 refine F.okh scStrOf (by walk_at "ln") fun c A o s H vs Q E hr h=>?_;obtain⟨t,rfl,hok,q⟩:=h;have nd:=scStrOf.nd;refine⟨_,(zB (zR (zK zS (pv 0) zD (zJ _)) (zG (zN (zKk (i:=1) rfl (by first | exact pR rfl | exact bB (pR rfl)| exact bB (bB rfl)) (by decide+kernel) (by decide+kernel)))) zM)
  (zG (zN (pv 1)))), ?_⟩
 walk_at "st";walk_at "rd3";rw[show Str.ofString "text" =kS 2 from rfl];have hln:=hok.len;obtain⟨k,x⟩:=t;obtain⟨hl,h⟩:=hok
 by_cases c:k=2
 ·subst c
  refine iP rfl ⟨_,rfl,by rw[zU];lia, ?_⟩;rw[zXs,zCd];show Q (V.str (Txt.replace (Txt.slice (tx (39::(dbl x++ [39]))) (some 1) (some (-1))) (tx [39,39]) (tx [39]))) H;rw[zTg,zOk];exact q
 ·have e:shw (k,x)=x:=by unfold shw;rw[mG c]
  rw[e];refine iN ?_ q;rcases h with⟨a,_⟩|⟨a,_⟩|⟨a,_⟩|⟨a,_⟩
  ·have a:k=0:=a
   subst a;exact jZ.2.2.2.2.2.2.1
  ·have a:k=1:=a
   subst a;exact jZ.2.2.2.2.2.2.2.1
  ·exact absurd a c
  ·have a:k=3:=a
   subst a;exact jZ.2.2.2.2.2.2.2.2
def tkT(t:Tk)(n:Nat):T:=.tup [.str (ts (kS t.1)), .str t.2, .int n]
def endT(n:Nat):T:=.tup [.str (ts (Str.ofString "end")), .str [], .int n]
def wY:Nat→List (Nat×Tk)→List T
 | _,[]=>[]
 | n,x::r=>tkT x.2 (n+x.1)::wY (n+x.1+(shw x.2).length) r
theorem uN(x:Nat×Tk)(r:List (Nat×Tk)):(lay (x::r)).length=x.1+(shw x.2).length+(lay r).length:=by
 show(List.replicate x.1 32++(shw x.2++lay r)).length=_;rw[mC,mC,mU];lia
theorem zDi:∀(n:Nat)(a b:List (Nat×Tk)),wY n (a++b)=wY n a++wY (n+(lay a).length) b
 | n,[],b=>rfl
 | n,x::a,b=>by
  show tkT x.2 (n+x.1)::wY (n+x.1+(shw x.2).length) (a++b)=_;rw[zDi,uN];show _=tkT x.2 (n+x.1)::(wY (n+x.1+(shw x.2).length) a++_)
  congr 3
  lia
theorem zMb{k c:Nat}(h:zNi k c):c∉ [32]:=by
 have hl:(32:Nat)∉letL∧(32:Nat)∉yX∧(32:Nat)∉mkL:=by decide+kernel
 intro z;rw[mS] at z;subst z;rcases h with⟨_,h | h⟩|⟨_,h⟩|⟨_,h⟩|⟨_,h⟩
 ·cases h
 ·exact hl.2.1 h
 ·exact hl.1 h
 ·cases h
 ·exact hl.2.2 h
def kA(c:List (Nat×Tk))(e:Nat):Nat:=match c with
 | []=>e
 | x::_=>x.1
theorem zEq{c:List (Nat×Tk)}{e:Nat}(hok:∀y∈c,OkTk y.2):jH [32] (lay c++List.replicate e 32)=kA c e:=by
 cases c with
 | nil=>
  have:=wP (S:=[32]) (x:=List.replicate e 32) (r:=[]) (fun c hc=>by rw[(rA.mp hc).2];exact mH) (fun c r' e=>nomatch e);rw[mN,mU] at this;exact this
 | cons x c=>
  have e1:lay (x::c)++List.replicate e 32=List.replicate x.1 32++(shw x.2++lay c++List.replicate e 32):=by
   show List.replicate x.1 32++(shw x.2++lay c)++_=_;rw[nE]
  rw[e1,wP (fun c hc=>by rw[(rA.mp hc).2];exact mH) ?_,mU];rfl;intro d r' e2;obtain⟨h,r,e3,hk,_⟩:=qP (hok x mH);rw[e3] at e2;rw[←(List.cons.inj e2).1];exact zMb hk
theorem gI{H:Hp}{d:Addr}{o:HO}{t:T}{xs:List V}{us:List T}(hd:Rep H (.ref d) t)(hs:T.szs us<T.sz t)(h:Reps H xs us):Reps (upd H d o) xs us:=
 Reps.away _ _ h fun z=>by
  obtain⟨t',h1,h2⟩:=Occs.sub _ _ h z;have e:=Rep.one _ _ _ hd h1;subst e
  lia
theorem zGi{H0 H':Hp}{p0 p:Addr}{xs ys:List V}{us ts:List T}(g:Same H0 H')(h0:H0 p0=none)(hp0:H' p0=some (.lst xs))(hR:Reps H' xs us)(hp:H' p=none)(hy:∀Hx:Hp,Reps Hx ys ts):
  Same H0 (upd (upd H' p (.tup ys)) p0 (.lst (xs++ [.ref p])))∧Reps (upd (upd H' p (.tup ys)) p0 (.lst (xs++ [.ref p]))) (xs++ [.ref p]) (us++ [.tup ts]):=by
 have s1:=zH hp (.tup ys);have hne:p≠p0:=fun z=>by subst z;rw[hp] at hp0;cases hp0
 refine⟨(g.trans s1).put h0 _,Reps.append ?_ (gI (t:=.lst us) ⟨p0,xs,rfl,s1 _ _ hp0,Reps.same s1 _ _ hR⟩ (sN _) (Reps.same s1 _ _ hR))⟩;exact(show Reps _ [V.ref p] [T.tup ts] from⟨_,[],rfl,⟨p,ys,rfl,by rw[zL hne];exact zF,hy _⟩,rfl⟩)
theorem zBb(Hx:Hp)(z:Str)(y:List Nat)(n:Nat):Reps Hx [V.str z,V.str (tx y),V.int n] [.str (ts z), .str y, .int n]:=⟨_,_,rfl,(show V.str z=V.str (tx (ts z)) by rw[vH]),_,_,rfl,rfl,_,_,rfl,rfl,rfl⟩
def zKb:Sp:=fun vs H Q _=>∃(r:List (Nat×Tk))(e:Nat),vs= [.str (tx (lay r++List.replicate e 32))]∧(∀y∈r,OkTk y.2)∧Chn r∧r.length≤1000∧(lay r++List.replicate e 32).length≤100000∧∀v H',Same H H'→Rep H' v (.lst (wY 0 r++ [endT (lay r++List.replicate e 32).length]))→Q v H'
theorem scToks:zV ["text","found","at","kind","end"] ["text"] (zO zMm):=by walk_at "sc"
theorem zMx(F:Fun K "tokens" "tokens" zMm f fd)(B:Bl mg)(Grun_end:Dh P w K mg base 1 "run_end" ["text","at","signs"] zCl)(Gkind_at:Dh P w K mg base 1 "kind_at" ["text","at"] zRg)(Gtoken_end:Dh P w K mg base 3 "token_end" ["kind","text","at"] zFc)(Gstring_of:Dh P w K mg base 1 "string_of" ["kind","signs"] zFv):FnOkH P w K mg base 4 f fd ["text"] zKb:=by
 refine F.okh scToks (by walk_at "ln") fun c A o s H vs Q E hr h=>?_;obtain⟨r,e,rfl,hok,hch,hr1,hL,q⟩:=h;have nd:=scToks.nd;refine⟨_,(zB (pS 1 nd (yF zE))
  (zB (pS 2 nd (gC Grun_end hr (by lia) rfl (zA (pv 0) (zA zC (zA zD zE)))))
  (zB (wN PassesOwn.never (zK jP (pv 2) (zP yG rfl B.len yK (zA (pv 0) zE)) (zJ _)) (zB (pS 3 nd (gC Gkind_at hr (by lia) rfl (zA (pv 0) (zA (pv 2) zE))))
  (zB (pS 4 nd (gC Gtoken_end hr (by lia) rfl (zA (pv 3) (zA (pv 0) (zA (pv 2) zE)))))
  (zB (yY (xQ nN nW nZ xH (pv 1) (zA (yP (zA (pv 3) (zA (gC Gstring_of hr (by lia) rfl (zA (pv 3) (zA (xI vY (pv 0) (yU (pv 2)) (yU (pv 4))) zE))) (zA (pv 2) zE)))) zE)))
  (zG (pS 2 nd (gC Grun_end hr (by lia) rfl (zA (pv 0) (zA (pv 4) (zA zD zE))))))))))
  (zB (yY (xQ nN nW nZ xH (pv 1) (zA (yP (zA zD (zA zD (zA (zP yG rfl B.len yK (zA (pv 0) zE)) zE)))) zE)))
  (zG (zN (pv 1))))))), ?_⟩
 generalize hLL:lay r++List.replicate e 32=L at hL q⊢;walk_at "st";walk_at "rd3";rw[zXv];intro p0 hp0;refine⟨L,[32],0,rfl,rK _,hL, ?_⟩;have hln:(tx L).length=L.length:=zU L;have hsz:(tx L).length≤sizeLine:=by rw[hln,mJ];lia
 rw[rY,rX,←hLL,zEq hok,hLL];refine⟨fun m σ H'=>∃a c k o1 o2 xs,r=a++c∧k=(lay a).length+kA c e∧σ= [some (.str (tx L)),some (.ref p0),some (.int ((k:Nat):Int)),o1,o2]∧Same H H'∧H' p0=some (.lst xs)∧Reps H' xs (wY 0 a)∧xs.length=a.length∧m=c.length,⟨_,[],r,kA r e,none,none,[],rfl,(rX _).symm,rfl,zH hp0 _,zF,rfl,rfl,rfl⟩, ?_⟩;rintro m σ H' ⟨a,c,k,o1,o2,xs,rfl,hk,rfl,g,hp,hR,hxl,rfl⟩;have hdk:L.drop (lay a).length=lay c++List.replicate e 32:=by rw[←hLL,jD,nE,tF]
 have hdl:=congrArg List.length hdk;rw[nL,mC,mU] at hdl;rw[mC] at hr1;walk_at "rd3";rw[hln]
 cases c with
 | nil=>
  have hk:k=(lay a).length+e:=hk;have e0:(lay ([]:List (Nat×Tk))).length=0:=rfl;have hkL:k=L.length:=by
   have:=congrArg List.length hLL;rw[mN,mC,mU] at this
   lia
  refine⟨by lia,iN (by lia) ⟨.inl ⟨rfl,_,SqL.of hp⟩,by lia,fun p hpn=>?_⟩⟩;obtain⟨g1,g2⟩:=zGi g hp0 hp hR hpn (fun Hx=>zBb Hx (Str.ofString "end") [] L.length);refine⟨p0,xs,_,rfl,rfl,zH hpn _ _ _ hp,by rw[mJ];lia,q _ _ g1 ⟨p0,_,rfl,zF, ?_⟩⟩;rw[mN];exact g2
 | cons x c=>
  have hk:k=(lay a).length+x.1:=hk;have hx:=hok x (by simp);have hst:Stops x.2.1 (lay c++List.replicate e 32):=zBm hok hch;obtain⟨h1,r1,e1,hhk,_⟩:=qP hx;have hdk2:L.drop k=shw x.2++(lay c++List.replicate e 32):=by
   rw[hk,←nS,hdk];show List.drop x.1 (List.replicate x.1 32++(shw x.2++lay c)++List.replicate e 32)=_;rw[nE,nE];exact dA mU
  have hpos:0<(shw x.2).length:=by rw[e1];exact sU _
  have hdl2:=congrArg List.length hdk2;rw[nL,mC] at hdl2;have hk2:(lay (a++ [x])).length=k+(shw x.2).length:=by
   rw[jD,mC,uN,hk];show _+(_+_+0)=_
   lia
  refine⟨by lia,iP (by lia) ⟨fun σ' H''=>∃o1 o2 ys,σ'= [some (.str (tx L)),some (.ref p0),some (.int (((lay (a++ [x])).length+kA c e:Nat):Int)),o1,o2]∧Same H H''∧H'' p0=some (.lst ys)∧Reps H'' ys (wY 0 (a++ [x]))∧ys.length=(a++ [x]).length, ?_, ?_⟩⟩
  ·rintro σ' H'' ⟨o1,o2,ys,rfl,g',h1,h2,h3⟩
   exact⟨c.length,sN _,a++ [x],c,by rw[nE];rfl,⟨_,_,rfl⟩,g',_,h1,h2,h3,rfl⟩
  ·refine⟨L,_,k,h1,x.2.1,rfl,by rw[hdk2,e1];rfl,hhk,hL,L,_,x.2,k,rfl,hdk2,hx,hst,hL,fun H1 g1=>⟨.inl ⟨rfl,_,SqL.of (g1 _ _ hp)⟩,_,rfl,tx L,rfl,hsz, ?_⟩⟩
   rw[xS,yJ];have hsl:(L.take (k+(shw x.2).length)).drop k=shw x.2:=by
    rw[sO,hdk2,show k+(shw x.2).length - k=(shw x.2).length by lia,tG]
   rw[hsl];refine⟨x.2,rfl,hx,fun p hpn=>?_⟩;obtain⟨g3,g4⟩:=zGi (g.trans g1) hp0 (g1 _ _ hp) (Reps.same g1 _ _ hR) hpn (fun Hx=>zBb Hx (kS x.2.1) x.2.2 k);refine⟨p0,xs,_,rfl,rfl,zH hpn _ _ _ (g1 _ _ hp),by rw[mJ];simp only[mE] at hr1;lia,L,[32],k+(shw x.2).length,rfl,by lia,hL, ?_⟩;have hd3:L.drop (k+(shw x.2).length)=lay c++List.replicate e 32:=by rw[←nS,hdk2,tF]
   rw[hd3,zEq fun y hy=>hok y (by simp[hy]),←hk2];refine⟨_,_,_,rfl,g3,zF, ?_,by rw[mC,mC,hxl];rfl⟩;rw[zDi];have e5:wY (0+(lay a).length) [x]= [.tup [.str (ts (kS x.2.1)), .str x.2.2, .int k]]:=by
    show[tkT x.2 (0+(lay a).length+x.1)]=_;rw[rX,←hk];rfl
   rw[e5];exact g4
abbrev yAk:Stmt:=top 46
theorem zEp:∀c∈ [48,49,50,51,52,53,54,55,56,57],c∈yX:=by decide+kernel
def zCb(i:Int):List Nat:=ts (Str.ofString (toString i))
theorem zIc(n:Nat):zCb n=(Nat.toDigits 10 n).map Char.toNat:=by
 show ts (Str.ofString (Nat.repr n))=_;rw[Nat.repr_eq_ofList_toDigits,W.Fast.ofString_ofList]
theorem uL{i:Int}(h:0≤i):zCb i≠ []∧∀c∈zCb i,c∈yX:=by
 obtain⟨n,rfl⟩:=rT h;rw[zIc];refine⟨fun z=>Nat.toDigits_ne_nil (List.map_eq_nil_iff.mp z),fun c hc=>?_⟩;obtain⟨d,hd,rfl⟩:=sF.mp hc;have h:=Nat.isDigit_of_mem_toDigits (by decide) (by decide) hd;have:48≤d.toNat∧d.toNat≤57:=by
  unfold Char.isDigit at h;simp only[rC,pQ] at h;exact⟨h.1,h.2⟩
 refine zEp _ ?_;simp only[mF,nP,rD]
 lia
theorem zBd{i:Int}(h:0≤i)(h1:i<10 ^ 60):(zCb i).length≤60:=by
 obtain⟨n,rfl⟩:=rT h;rw[zIc,mZ];exact(Nat.length_toDigits_le_iff (by decide) (by decide)).mpr (by lia)
theorem zSd(i:Int):Str.ofString (toString i)=tx (zCb i):=(vH _).symm
theorem zKw{i:Int}(h0:0≤i)(h:i<10 ^ 60):i.natAbs.log2<1920:=by
 by_cases hz:i.natAbs=0
 ·rw[hz];decide
 ·rw[Nat.log2_lt hz]
  have:i.natAbs<10 ^ 60:=by lia
  exact mX (Nat.lt_trans this (show 10 ^ 60<2 ^ 200 by decide)) (tD (n:=2) (by decide) (by decide))
theorem pow9{i:Int}(h0:0≤i)(h:i≤125000):0≤i ^ 9∧i ^ 9<10 ^ 60:=by
 refine⟨Int.pow_nonneg h0, ?_⟩;obtain⟨n,rfl⟩:=rT h0;have hn:n≤125000:=by lia
 have:=Nat.pow_le_pow_left hn 9;have e:((n:Int))^ 9=((n ^ 9:Nat):Int):=by rw[Int.natCast_pow]
 rw[e];have h2:(125000:Nat)^ 9<10 ^ 60:=by decide
 lia
theorem yC{K:W.Frag}{H:Hp}{a:Addr}{xs:List V}{i:Int}{v:V}{Q:VK}(h1:SqT K H a xs)(h2:atI xs i=some v)(q:Q v H):zNu K (.ref a) (.int i) H Q:=⟨a,xs,i,v,rfl,rfl,h1,h2,q⟩
theorem ts_0:ts (Str.ofString "0")= [48]:=by decide+kernel
theorem ts_mi:ts (Str.ofString "-")= [45]:=by decide+kernel
theorem OkTk.k{t:Tk}(h:OkTk t):t.1∈ [0,1,2,3]:=by
 rcases h.2 with⟨a,_⟩|⟨a,_⟩|⟨a,_⟩|⟨a,_⟩<;>rw[a]<;>decide
def zQt:Sp:=fun vs H Q _=>∃(m:Int),vs= [.int m]∧0≤m∧m<1000003∧∀(p:Addr)(t:Tk)(H':Hp),Same H H'→H' p=some (.tup [.str (kS t.1), .str (tx t.2)])→OkTk t→(t.1=2→t.2.length≤60)→Q (.ref p) H'
theorem scTok:zV ["_law_more","_law_kind","_law_cell_here","_law_figures"] ["_law_more"] (zO yAk):=by walk_at "sc"
theorem zZk(F:Fun K "_law_token_by" "_law_token_by" yAk f fd)(B:Bl mg)(G_law_word_by:Dn P w K mg base 1 "_law_word_by" ["_law_more"] zTo)(G_law_text_by:Dn P w K mg base 2 "_law_text_by" ["_law_more"] zKp):FnOk P w K mg base CX0 3 f fd ["_law_more"] zQt:=by
 refine F.ok scTok (by walk_at "ln") fun c A o s H vs Q E hr h=>?_;obtain⟨m,rfl,h0,h1,q⟩:=h;have nd:=scTok.nd;refine⟨_,(zB (pS 1 nd (zI zY (pv 0) zC))
  (zB (pS 2 nd (zI zZ (pv 0) zC))
  (zB (zR (zK jP (pv 1) zC (zJ _)) (zB (pS 3 nd (zQ zX (yF (zA (yM vI rfl B.str uV (zA (zI zY (pv 2) zC) zE)) (zA (zI yW (zI xJ zD (zI zY (pv 2) zC)) (yM vI rfl B.str uV (zA (zI zZ (pv 2) zC) zE))) (zA (yM vI rfl B.str uV (zA (zI qO (pv 2) zC) zE)) zE)))) (zI zY (pv 2) zC) (fun _ _=>rfl)))
  (zG (zN (yP (zA zD (zA (zI yW (zI xJ zD (zI zZ (zI zY (zI zZ (pv 2) zC) zC) zC)) (pv 3)) zE)))))) zM)
  (zB (zR (zK jP (pv 1) zC (zJ _)) (zG (zN (yP (zA zD (zA (zQ zX (yF (zA (zQ zX (yF (zA zD (zA zD (zA zD zE)))) (zI zY (zI zZ (pv 2) zC) zC) (fun _ _=>rfl)) (zA (pD G_law_word_by hr (zA (zI zZ (pv 2) zC) zE)) zE))) (zI zY (pv 2) zC) (fun _ _=>rfl)) zE))))) zM)
  (zB (zR (zK jP (pv 1) zC (zJ _)) (zG (zN (yP (zA zD (zA (zI xJ (pD G_law_text_by hr (zA (pv 2) zE)) (zI yD zC (zI zZ (zI zY (zI zZ (pv 2) zC) zC) zC))) zE))))) zM)
  (zG (zN (yP (zA zD (zA (zQ xK zD (zI zY (pv 2) zC) (fun _ _=>rfl)) zE)))))))))), ?_⟩
 walk_at "st";walk_at "rd3";have hc0:0≤m / 8:=by lia
 have hc1:m / 8≤125000:=by lia
 generalize m / 8=c at hc0 hc1⊢;obtain⟨p90,p91⟩:=pow9 hc0 hc1
 by_cases k2:m % 8<2
 ·obtain⟨a1,a2⟩:=uL (i:=c % 1000) (by lia)
  have a3:=zBd (i:=c % 1000) (by lia) (by lia);obtain⟨b1,b2⟩:=uL (i:=c / 4) (by lia);have b3:=zBd (i:=c / 4) (by lia) (by lia);obtain⟨d1,d2⟩:=uL p90;have d3:=zBd p90 p91;simp only[zSd,ts_0,ts_mi,qK];refine iP k2 ⟨zKw (by lia) (by lia),by decide,by lia,by lia,zKw (by lia) (by lia), ?_,by lia,zKw p90 p91,fun p1 hp1=>?_⟩
  ·rw[zU,zU,mU];lia
  rw[xX];obtain⟨v,hv,hm⟩:=wZ (xs:=[V.str (tx (zCb (c % 1000))),V.str (tx (List.replicate (c % 4).toNat 48++zCb (c / 4))),V.str (tx (zCb (c ^ 9)))]) (i:=c % 3) (by lia) (by simp only[mE,nA];lia);obtain⟨fs,rfl,f1,f2,f3⟩:∃fs,v= .str (tx fs)∧fs≠ []∧(∀x∈fs,x∈yX)∧fs.length≤70:=by
   simp only[mF,nP,rD] at hm;rcases hm with rfl | rfl | rfl
   ·exact⟨_,rfl,a1,a2,by lia⟩
   ·refine⟨_,rfl, ?_,fun x hx=>?_, ?_⟩
    ·intro z
     exact b1 (List.append_eq_nil_iff.mp z).2
    ·rcases pA.mp hx with z | z
     ·rw[(rA.mp z).2];exact zEp _ mH
     ·exact b2 x z
    ·rw[mC,mU];lia
   ·exact⟨_,rfl,d1,d2,by lia⟩
  have s1:=zH hp1 (.lst [V.str (tx (zCb (c % 1000))),V.str (tx (List.replicate (c % 4).toNat 48++zCb (c / 4))),V.str (tx (zCb (c ^ 9)))]);refine zW (SqL.of zF) hv ⟨by decide,by lia,by lia,_,rfl, ?_,fun p2 hp2=>?_⟩
  ·rw[zU,zU,mU];lia
  rw[xX];refine q p2 (0,List.replicate (c / 5 % 3 / 2).toNat 45++fs) _ (s1.trans (zH hp2 _)) zF ⟨?_, .inl ⟨rfl,List.replicate (c / 5 % 3 / 2).toNat 45,fs,rfl, ?_,f1,f2⟩⟩ (fun z=>absurd (show(0:Nat)=2 from z) (by decide))
  ·show(List.replicate (c / 5 % 3 / 2).toNat 45++fs).length≤100
   rw[mC,mU];lia
  ·rcases(show(c / 5 % 3 / 2).toNat=0∨(c / 5 % 3 / 2).toNat=1 by lia) with z | z<;>rw[z]
   ·exact .inl rfl
   ·exact .inr rfl
 refine iN k2 ?_
 by_cases k4:m % 8<4
 ·refine iP k4 fun p1 hp1=>?_
  have e1:=zF (H:=H) (a:=p1) (o:=.lst [V.str (Str.ofString "none"),V.str (Str.ofString "yes"),V.str (Str.ofString "no")]);have s1:=zH hp1 (.lst [V.str (Str.ofString "none"),V.str (Str.ofString "yes"),V.str (Str.ofString "no")]);generalize upd H p1 _=H1 at s1 e1⊢;obtain⟨v,hv,hm⟩:=wZ (xs:=[V.str (Str.ofString "none"),V.str (Str.ofString "yes"),V.str (Str.ofString "no")]) (i:=c / 2 % 3) (by lia) (by simp only[mE,nA];lia);have w3:∃x,v= .str (tx x)∧OkTk (1,x):=by
   have wd:∀(z:Str)(c:Nat)(r:List Nat),ts z=c::r→c∈letL→(∀d∈r,d∈letL++yX)→r.length≤90→∃x,V.str z= .str (tx x)∧OkTk (1,x):=fun z c r e h1 h2 h3=>⟨ts z,by rw[vH],by show(ts z).length≤100;rw[e,mE];lia, .inr (.inl ⟨rfl,c,r,e,h1,h2⟩)⟩;simp only[mF,nP,rD] at hm;rcases hm with rfl | rfl | rfl
   ·exact wd _ 110 [111,110,101] (by decide+kernel) (by decide+kernel) (by decide+kernel) (by decide)
   ·exact wd _ 121 [101,115] (by decide+kernel) (by decide+kernel) (by decide+kernel) (by decide)
   ·exact wd _ 110 [111] (by decide+kernel) (by decide+kernel) (by decide+kernel) (by decide)
  obtain⟨x,rfl,hx⟩:=w3;refine zW (SqL.of e1) hv ⟨c / 2,rfl,by lia,by lia,fun y hy H2 g2 p3 hp3=>?_⟩;have hy':OkTk (1,y):=by
   obtain⟨d,r,e,h1,h2,h3⟩:=hy;exact⟨by show y.length≤100;rw[e,mE];lia, .inr (.inl ⟨rfl,d,r,e,h1,h2⟩)⟩
  have s3:=zH hp3 (.lst [V.str (tx x),V.str (tx y)]);obtain⟨v,hv2,hm2⟩:=wZ (xs:=[V.str (tx x),V.str (tx y)]) (i:=c % 2) (by lia) (by simp only[mE,nA];lia);refine zW (SqL.of zF) hv2 fun p4 hp4=>?_;simp only[mF,nP,rD] at hm2;rcases hm2 with rfl | rfl
  ·exact q p4 (1,x) _ (s1.trans (g2.trans (s3.trans (zH hp4 _)))) zF hx (fun z=>absurd (show(1:Nat)=2 from z) (by decide))
  ·exact q p4 (1,y) _ (s1.trans (g2.trans (s3.trans (zH hp4 _)))) zF hy' (fun z=>absurd (show(1:Nat)=2 from z) (by decide))
 refine iN k4 ?_
 by_cases k6:m % 8<6
 ·refine iP k6 ⟨c,rfl,by lia,by lia,fun x hx H1 g1=>?_⟩
  have hx':=hx;unfold zCx at hx';simp only[rC,pQ,pH] at hx';refine⟨_,rfl,by rw[zU];lia,by lia,by lia,fun p2 hp2=>?_⟩;rw[yJ];refine q p2 (2,(List.replicate (1+c / 97 % 5 / 3).toNat x).flatten) _ (g1.trans (zH hp2 _)) zF ⟨?_, .inr (.inr (.inl ⟨rfl,fun d hd=>?_⟩))⟩ (fun _=>?_)
  ·show((List.replicate (1+c / 97 % 5 / 3).toNat x).flatten).length≤100
   rw[zLz];have:(1+c / 97 % 5 / 3).toNat≤2:=by lia
   have:=Nat.mul_le_mul this hx'.1
   lia
  ·obtain⟨l,hl,hd⟩:=List.mem_flatten.mp hd
   rw[(rA.mp hl).2] at hd;exact hx'.2 d hd
  ·show((List.replicate (1+c / 97 % 5 / 3).toNat x).flatten).length≤60
   rw[zLz];have:(1+c / 97 % 5 / 3).toNat≤2:=by lia
   have:=Nat.mul_le_mul this hx'.1
   lia
 ·refine iN k6 ?_
  obtain⟨d,hd,hm⟩:=wZ (xs:=mkL) (i:=c % 6) (by lia) (by show c % 6<6;lia);rw[zKq];refine xA (by decide) (by rw[yJ];exact hd) fun p2 hp2=>?_;exact q p2 (3,[d]) _ (zH hp2 _) zF ⟨(show 1≤100 by decide), .inr (.inr (.inr ⟨rfl,d,rfl,hm⟩))⟩ (fun z=>absurd (show(3:Nat)=2 from z) (by decide))
end
end K27
namespace K27
open PySem L2 PySem.W
def clsFn(s:Stmt):Stmt:=match s with
 | .ClassDef _ _ _ (f::_) _ _ _ _ _ _ _=>f
 | _=>s
abbrev vA:Stmt:=clsFn (top 17)
theorem zWc:zV ["self","text","at"] ["self","text","at"] (zO vA):=by walk_at "sc"
section
variable{P:Program}{w:World}{K:PySem.W.Frag}{mg:Str→Option Value}{base:Heap}{C B fI dT:Addr}{nm:Str}{oc kV doc pm cdv ct:Value}{od an:Option Addr}{osl:Array (Option Value)}
theorem zSg(lk:K.lookup fI=some ⟨oc,od, .func (fnOf "__init__" "BadText.__init__" (xC vA) (yV vA) (zO vA) (.ref dT) kV doc pm an cdv ct),osl⟩)(hcd:codeIn K cdv "BadText.__init__" =true)(c:zJw K nm C B fI)(b:zUa K B)(hmB:mg "CabinetError" =some (.ref B)):
  FnOk P w K mg base CX0 1 fI (fnOf "__init__" "BadText.__init__" (xC vA) (yV vA) (zO vA) (.ref dT) kV doc pm an cdv ct) ["self","text","at"] (zAy C):=by
 refine zTt (k:=0) lk hcd zWc (fun vs H Q E h=>?_) fun A outer s H vs Q E hr h=>?_
 ·obtain⟨x,v0,v,rfl,_⟩:=h
  rfl
 obtain⟨x,v0,v,rfl,hx,q⟩:=h;refine⟨_,(zB (yY (zPp c b rfl hmB (zA (pv 0) (zA (pv 1) zE)))) (zG (zXm c (pv 2) (pv 0)))), ?_⟩;refine⟨.ref x,rfl,v0,rfl,x,v0,rfl,hx,v,rfl, .ref x,rfl,x,rfl,hx,fun d hd=>q d hd⟩
theorem zJb{o:Obj}{items:Array Value}{n:Nat}(hd:K.lookup dT=some o)(hs:o.data= .seq items n)(h1:items.size=1):Binds K (fnOf "__init__" "BadText.__init__" (xC vA) (yV vA) (zO vA) (.ref dT) kV doc pm an cdv ct) ["self","text","at"] []:=fun s us hK hl=>by
 rw[mN] at hl⊢;obtain⟨l⟩:=items
 match l,h1 with
 | [i0],_=>
  match us,hl with
  | [a,b,c],_=>exact binds_K hK rfl hd hs rfl rfl
end
end K27
namespace K27
open PySem L2
seal L2.PSs L2.PS L2.PE L2.PT L2.PW L2.PA L2.PI L2.PG L2.PGs L2.PPs L2.PTs
def XBad(C:Addr)(n:Nat)(H:Hp)(E:XK):Prop:=∀d H',Same H H'→H' d=some (.xd [("at", .int n)])→E (.ref C) (some d) H'
theorem XBad.of{C:Addr}{n:Nat}{H H1:Hp}{E:XK}{d:Addr}(h:XBad C n H E)(g:Same H H1)(hd:H1 d=none):E (.ref C) (some d) (upd H1 d (.xd [("at", .int n)])):=h d _ (g.trans (zH hd _)) zF
theorem XBad.same{C:Addr}{n:Nat}{H H1:Hp}{E:XK}(h:XBad C n H E)(g:Same H H1):XBad C n H1 E:=fun d H' g'=>h d H' (g.trans g')
def zCn(c:Nat):Prop:=c≠45∧c∉yX∧c∉letL∧c≠39∧c∉mkL
section
variable{P:Program}{w:World}{K:W.Frag}{mg:Str→Option Value}{base:Heap}{f:Addr}{fd:FuncData}{C:Addr}
def zUi(C:Addr):Sp:=fun vs H _ E=>∃(L r:List Nat)(n c:Nat),vs= [.str (tx L), .int n]∧L.drop n=c::r∧zCn c∧L.length≤100000∧XBad C n H E
theorem zVv(F:Fun K "kind_at" "kind_at" zVw f fd)(B:Bl mg)(M:Ms mg)(RBadText:Xr P w K mg base 1 "BadText" C):FnOk P w K mg base (CXE nC P w) 3 f fd ["text","at"] (zUi C):=by
 refine F.okx scKAt (by walk_at "ln") fun c A o s H vs Q E hr h=>?_;obtain⟨L,r,n,c,rfl,hd,hc,hL,q⟩:=h;have nd:=scKAt.nd;refine⟨_,(zB (pS 2 nd (zQ xK (pv 0) (pv 1) (fun _ _=>rfl)))
  (zB (zR (PW.pt (jS (zK zS (pv 2) zD (zJ _)) (vX (zK vC (pv 2) (kY rfl M.FIGURES) (by with_unfolding_all rfl))))) (zG (zN zD)) zM)
  (zB (zR (zK vC (pv 2) (kY rfl M.LETTERS) (by with_unfolding_all rfl)) (zG (zN zD)) zM)
  (zB (zR (zK zS (pv 2) zD (zJ _)) (zG (zN zD)) zM)
  (zB (zR (zK vC (pv 2) (kY rfl M.MARKS) (by with_unfolding_all rfl)) (zG (zN zD)) zM)
  (zG (xY RBadText hr (by lia) rfl rfl lvs (zA zD (zA (pv 1) zE))))))))), ?_⟩
 walk_at "st";walk_at "rd3";refine xA (by rw[zU,mJ];lia) (yE (j:=n) (uC hd)) ?_;rw[zUz,zFj,zKq,zCd,zDy];simp only[tx1,yJ];obtain⟨h1,h2,h3,h4,h5⟩:=hc;refine⟨nJ,iN h1 ⟨c,rfl,iN h2 ⟨c,rfl,iN h3 ⟨nJ,iN h4 ⟨c,rfl,iN h5 ?_⟩⟩⟩⟩⟩;exact⟨_,rfl,_,_,rfl,fun d hd=>q.of (Same.refl _) hd⟩
def zGn(C:Addr):Sp:=fun vs H _ E=>∃(L r:List Nat)(n:Nat),vs= [.str (tx L), .int n]∧L.drop n=45::r∧(∀c r',r=c::r'→c∉yX)∧L.length≤100000∧XBad C n H E
theorem run0{S r:List Nat}(h:∀c r',r=c::r'→c∉S):jH S r=0:=by
 have:=wP (S:=S) (x:=[]) (r:=r) (fun c hc=>nomatch hc) h;exact this
theorem zTb(F:Fun K "number_end" "number_end" zNg f fd)(B:Bl mg)(M:Ms mg)(Grun_end:Dn P w K mg base 1 "run_end" ["text","at","signs"] zCl)(RBadText:Xr P w K mg base 1 "BadText" C):FnOk P w K mg base (CXE nC P w) 3 f fd ["text","at"] (zGn C):=by
 refine F.okx scNEnd (by walk_at "ln") fun c A o s H vs Q E hr h=>?_;obtain⟨L,r,n,rfl,hd,hst,hL,q⟩:=h;have nd:=scNEnd.nd;refine⟨_,(zB (pS 2 nd (vQ (zK zS (zQ xK (pv 0) (pv 1) (fun _ _=>rfl)) zD (zJ _)) (zI yD (pv 1) zC) (pv 1)))
  (zB (pS 3 nd (pD Grun_end hr (zA (pv 0) (zA (pv 2) (zA (kY rfl M.FIGURES) zE)))))
  (zB (zR (zK zS (pv 3) (pv 2) (zJ _)) (zG (xY RBadText hr (by lia) rfl rfl lvs (zA zD (zA (pv 1) zE)))) zM)
  (zG (zN (pv 3)))))), ?_⟩
 walk_at "st";walk_at "rd3";rw[zDy,zFj];have hdl:=congrArg List.length hd;rw[nL,mE] at hdl;refine xA (by rw[zU,mJ];lia) (yE (j:=n) (uC hd)) ⟨rfl, ?_⟩;simp only[tx1];refine iP nJ ⟨L,yX,n+1,by rw[cZ];rfl,by lia,hL,rfl, ?_⟩;have e:L.drop (n+1)=r:=by
  rw[←nS,hd];rfl
 rw[e,run0 hst];refine iP (by rw[cZ];rfl) ?_;exact⟨_,rfl,_,_,rfl,fun d hd=>q.of (Same.refl _) hd⟩
theorem zPl{L u:List Nat}{lo:Nat}(h:L.drop lo=u)(hlo:lo≤L.length)(hu:39∉u):Txt.find3 (tx L) (tx [39]) (lo:Int)= -1:=by
 have hln:(tx L).length=L.length:=zU L;have hl:fromIndex (tx L).length (lo:Int)=lo:=by
  unfold fromIndex;rw[mG (by lia)]
  lia
 have hg:∀j,(tx L).cps.getD (lo+j) 0=u.getD j 0:=fun j=>by
  rw[←h];show L.toArray.getD (lo+j) 0=_;simp[rF]
 have hul:=congrArg List.length h;rw[nL] at hul;rcases StrLaws.find3_spec (tx L) 39 (lo:Int) with⟨e,_⟩|⟨k,e,k1,k2,k3,k4⟩
 ·exact e
 ·rw[hl] at k1
  obtain⟨j,rfl⟩:=Nat.exists_eq_add_of_le k1;have hj:j<u.length:=by lia
  rw[hg,rF,pY hj] at k3;exact absurd (by rw[←show u[j]=39 from k3];exact aD hj) hu
theorem zUn{L u x2:List Nat}{lo:Nat}(h:L.drop lo=u++dbl x2)(hlo:lo≤L.length)(hu:39∉u)(hx2:x2= []∨∃y,x2=39::y):Txt.find3 (tx L) (tx [39]) (lo:Int)=if x2= [] then -1 else((lo+u.length:Nat):Int):=by
 rcases hx2 with rfl |⟨y,rfl⟩
 ·rw[mK rfl]
  rw[zLt,mN] at h;exact zPl h hlo hu
 ·rw[mG (by simp)]
  rw[zBx] at h;exact vT h hu
def zLo(C:Addr):Sp:=fun vs H _ E=>∃(L x r:List Nat)(n:Nat),vs= [.str (tx L), .int n]∧L.drop n=39::(dbl x++39::r)∧(∃c∈x,c∉wJ)∧Stops 2 r∧L.length≤100000∧XBad C n H E
theorem zPq(F:Fun K "text_end" "text_end" zIz f fd)(B:Bl mg)(Gis_text_sign:Dn P w K mg base 1 "is_text_sign" ["sign"] zJa)(RBadText:Xr P w K mg base 1 "BadText" C):FnOk P w K mg base (CXE nC P w) 3 f fd ["text","at"] (zLo C):=by
 refine F.okx scTEnd (by walk_at "ln") fun c A o s H vs Q E hr h=>?_;obtain⟨L,x,r,n,rfl,hd,hx,hst,hL,q⟩:=h;have nd:=scTEnd.nd;refine⟨_,(zB (pS 2 nd (xQ pG rZ sA kM (pv 0) (zA zD (zA (zI yD (pv 1) zC) zE))))
  (zB (wN PassesOwn.leaving (PW.pt (wA (zK zUk (pv 2) zC (zJ _)) (xV (zK zS (xI vY (pv 0) (yU (zI yD (pv 2) zC)) (yU (zI yD (pv 2) zC))) zD (zJ _))))) (zG (pS 2 nd (xQ pG rZ sA kM (pv 0) (zA zD (zA (zI yD (pv 2) zC) zE))))))
  (zB (zR (zK jP (pv 2) zC (zJ _)) (zG (xY RBadText hr (by lia) rfl rfl lvs (zA zD (zA (pv 1) zE)))) zM)
  (zB (zR (qM (yT (zP (wR rfl) rfl B.all jE (zA (wT (own:=["sign"]) (F:=[]) ⟨rfl,by walk_at "wu",by walk_at "wu",by walk_at "wu", .nil⟩ rfl (zBw (xI vY (pv 0) (yU (zI yD (pv 1) zC)) (yU (pv 2)))) (fun _ _ _ _=>yO (i:=0) (by show(vP ["sign"] []).Nodup;decide+kernel) rfl (pR rfl)) (fun _ _ _ _=>wF) (fun _ _ _ _=>(pD Gis_text_sign hr (zA (pv 0) zE)))) zE)))) (zG (xY RBadText hr (by lia) rfl rfl lvs (zA zD (zA (pv 1) zE)))) zM)
  (zG (zN (zI yD (pv 2) zC))))))), ?_⟩
 walk_at "st";walk_at "rd3";have hd1:L.drop (n+1)=dbl x++39::r:=by rw[←nS,hd];rfl
 have hln:(tx L).length=L.length:=zU L;have hdl:=congrArg List.length hd1;rw[nL,mC,mE] at hdl;have hsz:(tx L).length≤sizeLine:=by rw[hln,mJ];lia
 obtain⟨u0,x20,e0,hu0,hx0⟩:=jM x;obtain⟨rest0,hr0⟩:=dq hu0 hx0 r;refine⟨rfl,tx L,tx [39],n+1,rfl,by rw[zCd], ?_⟩;rw[show((n:Int)+1)=((n+1:Nat):Int) by lia,vT (hd1.trans (by rw[e0];exact hr0)) hu0];refine⟨fun m σ H'=>∃x1 u x2,x=x1++(u++x2)∧39∉u∧(x2= []∨∃y,x2=39::y)∧σ= [some (.str (tx L)),some (.int n),some (.int ((n+1+(dbl x1).length+u.length:Nat):Int))]∧H'=H∧m=x2.length,⟨_,[],u0,x20,e0,hu0,hx0,rfl,rfl,rfl⟩, ?_⟩;rintro m σ H' ⟨x1,u,x2,ex,hu,hx2,rfl,rfl,rfl⟩;walk_at "rd3";generalize hk:n+1+(dbl x1).length+u.length=k;have hdk:L.drop k=dbl x2++39::r:=by
  rw[←hk,←nS,←nS,hd1,ex,xG,xG,xP hu];simp only[nE,tF]
 refine iP (by lia) ⟨_,rfl,hsz,rfl, ?_⟩;rw[show((k:Int)+1)=((k+1:Nat):Int) by lia,show((k:Int)+2)=((k+2:Nat):Int) by lia,xS,yJ,zCd];have hsl:(L.take (k+2)).drop (k+1)=(L.drop (k+1)).take 1:=by
  rw[sO];congr 1;lia
 have hd2:L.drop (k+1)=(dbl x2++39::r).drop 1:=by rw[←nS,hdk]
 rw[hsl,hd2];rcases hx2 with rfl |⟨y,rfl⟩
 ·refine iN ?_ ?_
  ·intro z
   have z:=congrArg ts (V.str.inj z);rw[yJ,yJ] at z;have z:r.take 1= [39]:=z
   cases r with
   | nil=>cases z
   | cons c r'=>
    have:c=39:=by simpa using z
    exact hst c r' rfl (by rw[this];decide)
  rw[mN] at ex;have hdx:dbl x=dbl x1++u:=by rw[ex,xG,xP hu]
  refine iN (by lia) ⟨_,rfl,hsz, ?_⟩;rw[show((n:Int)+1)=((n+1:Nat):Int) by lia,xS,yJ];have hsl2:(L.take k).drop (n+1)=dbl x:=by
   rw[sO,hd1,←hk,hdx,show n+1+(dbl x1).length+u.length - (n+1)=(dbl x1++u).length by rw[mC];lia,tG]
  rw[hsl2];have hds:¬∀c∈dbl x,c∈wJ:=fun z=>by
   obtain⟨c,hc,hn⟩:=hx;refine hn (z c (List.mem_flatMap.mpr ⟨c,hc, ?_⟩));unfold rpl;split
   ·rename_i e;exact absurd zKi (by rw[e] at hn;exact hn)
   ·exact List.mem_singleton_self c
  have hdl2:(ts (tx (dbl x))).length≤100000:=by rw[yJ];lia
  refine⟨_,rfl,zDh (fun i ys H''=>Same H' H''∧ys=(((ts (tx (dbl x))).take i).map fun c=>decide (c∈wJ)).map V.bl) (by rw[mJ];lia) ⟨Same.refl _,rfl⟩ ?_ ?_⟩
  ·rintro i d ys H'' hd' _ ⟨hS,rfl⟩
   walk_at "rd3";refine⟨d,rfl,fun H3 g3=>⟨hS.trans g3, ?_⟩⟩;rw[vL hd'];simp only[pK,mY,pX]
  ·rintro ys H'' hl' ⟨hS,rfl⟩ p hp
   rw[sP];refine⟨p,rfl,_,SqL.of zF,iP ?_ ?_⟩
   ·rw[yJ]
    have:(dbl x).all (_root_.id∘fun c=>decide (c∈wJ))=false:=by
     rw[List.all_eq_false];refine Classical.byContradiction fun z=>hds fun c hc=>Classical.byContradiction fun hn=>z ⟨c,hc, ?_⟩;show¬(decide (c∈wJ)=true);rw[cN];exact hn
    rw[aQ,this]
   ·exact⟨_,rfl,_,_,rfl,fun d hd=>q.of (hS.trans (zH hp _)) hd⟩
 ·obtain⟨u',x2',e',hu',hx'⟩:=jM y
  obtain⟨rest',hr'⟩:=dq hu' hx' r;have hd3:L.drop (k+2)=u'++39::rest':=by
   rw[←nS,hdk,zBx,←hr',←e'];rfl
  refine iP (by rfl) ⟨fun σ' H''=>σ'= [some (.str (tx L)),some (.int n),some (.int ((k+2+u'.length:Nat):Int))]∧H''=H', ?_,rfl,tx L,tx [39],_,rfl,rfl, ?_⟩
  ·rintro σ' H'' ⟨rfl,rfl⟩
   have hl:=congrArg List.length e';rw[mC] at hl;refine⟨x2'.length,by rw[mE];lia,x1++(u++ [39]),u',x2', ?_,hu',hx', ?_,rfl,rfl⟩
   ·rw[ex,e'];simp only[nE,nU,nH]
   ·congr 5
    rw[xG,xG,xP hu,←hk,mC,mC];rw[show(dbl [39]).length=2 from rfl]
    lia
  ·rw[vT hd3 hu']
   exact⟨rfl,rfl⟩
def zMa(C:Addr):Sp:=fun vs H _ E=>∃(L x:List Nat)(n:Nat),vs= [.str (tx L), .int n]∧L.drop n=39::dbl x∧L.length≤100000∧XBad C n H E
theorem zUf(F:Fun K "text_end" "text_end" zIz f fd)(B:Bl mg)(Gis_text_sign:Dn P w K mg base 1 "is_text_sign" ["sign"] zJa)(RBadText:Xr P w K mg base 1 "BadText" C):FnOk P w K mg base (CXE nC P w) 3 f fd ["text","at"] (zMa C):=by
 refine F.okx scTEnd (by walk_at "ln") fun c A o s H vs Q E hr h=>?_;obtain⟨L,x,n,rfl,hd,hL,q⟩:=h;have nd:=scTEnd.nd;refine⟨_,(zB (pS 2 nd (xQ pG rZ sA kM (pv 0) (zA zD (zA (zI yD (pv 1) zC) zE))))
  (zB (wN PassesOwn.leaving (PW.pt (wA (zK zUk (pv 2) zC (zJ _)) (xV (zK zS (xI vY (pv 0) (yU (zI yD (pv 2) zC)) (yU (zI yD (pv 2) zC))) zD (zJ _))))) (zG (pS 2 nd (xQ pG rZ sA kM (pv 0) (zA zD (zA (zI yD (pv 2) zC) zE))))))
  (zB (zR (zK jP (pv 2) zC (zJ _)) (zG (xY RBadText hr (by lia) rfl rfl lvs (zA zD (zA (pv 1) zE)))) zM)
  (zB (zR (qM (yT (zP (wR rfl) rfl B.all jE (zA (wT (own:=["sign"]) (F:=[]) ⟨rfl,by walk_at "wu",by walk_at "wu",by walk_at "wu", .nil⟩ rfl (zBw (xI vY (pv 0) (yU (zI yD (pv 1) zC)) (yU (pv 2)))) (fun _ _ _ _=>yO (i:=0) (by show(vP ["sign"] []).Nodup;decide+kernel) rfl (pR rfl)) (fun _ _ _ _=>wF) (fun _ _ _ _=>(pD Gis_text_sign hr (zA (pv 0) zE)))) zE)))) (zG (xY RBadText hr (by lia) rfl rfl lvs (zA zD (zA (pv 1) zE)))) zM)
  (zG (zN (zI yD (pv 2) zC))))))), ?_⟩
 walk_at "st";walk_at "rd3";have hd1:L.drop (n+1)=dbl x:=by rw[←nS,hd];rfl
 have hln:(tx L).length=L.length:=zU L;have hdl:=congrArg List.length hd;rw[nL,mE] at hdl;have hsz:(tx L).length≤sizeLine:=by rw[hln,mJ];lia
 obtain⟨u0,x20,e0,hu0,hx0⟩:=jM x;refine⟨rfl,tx L,tx [39],n+1,rfl,by rw[zCd], ?_⟩;rw[show((n:Int)+1)=((n+1:Nat):Int) by lia,zUn (hd1.trans (by rw[e0,xG,xP hu0])) (by lia) hu0 hx0];refine⟨fun m σ H'=>∃x1 u x2,x=x1++(u++x2)∧39∉u∧(x2= []∨∃y,x2=39::y)∧σ= [some (.str (tx L)),some (.int n),some (.int (if x2= [] then -1 else((n+1+(dbl x1).length+u.length:Nat):Int)))]∧H'=H∧m=x2.length,⟨_,[],u0,x20,e0,hu0,hx0,rfl,rfl,rfl⟩, ?_⟩;rintro m σ H' ⟨x1,u,x2,ex,hu,hx2,rfl,rfl,rfl⟩;walk_at "rd3";generalize hk:n+1+(dbl x1).length+u.length=k;have hdk:L.drop k=dbl x2:=by
  rw[←hk,←nS,←nS,hd1,ex,xG,xG,xP hu];simp only[tF]
 rcases hx2 with rfl |⟨y,rfl⟩
 ·rw[mK rfl]
  refine iN (by decide) (iP (by decide) ?_);exact⟨_,rfl,_,_,rfl,fun d hd=>q.of (Same.refl _) hd⟩
 ·rw[mG (show¬(39::y=([]:List Nat)) by simp)]
  refine iP (by lia) ⟨_,rfl,hsz,rfl, ?_⟩;rw[show((k:Int)+1)=((k+1:Nat):Int) by lia,show((k:Int)+2)=((k+2:Nat):Int) by lia,xS,yJ,zCd];have hsl:(L.take (k+2)).drop (k+1)=(L.drop (k+1)).take 1:=by
   rw[sO];congr 1;lia
  have hd2:L.drop (k+1)=(dbl (39::y)).drop 1:=by rw[←nS,hdk]
  rw[hsl,hd2,zBx];obtain⟨u',x2',e',hu',hx'⟩:=jM y;have hd3:L.drop (k+2)=u'++dbl x2':=by
   rw[←nS,hdk,zBx,e',xG,xP hu'];rfl
  have hk2:k+2≤L.length:=by
   have:=congrArg List.length hdk;rw[zBx,nL,mE,mE] at this
   lia
  refine iP (by rfl) ⟨fun σ' H''=>σ'= [some (.str (tx L)),some (.int n),some (.int (if x2'= [] then -1 else((k+2+u'.length:Nat):Int)))]∧H''=H', ?_,rfl,tx L,tx [39],_,rfl,rfl, ?_⟩
  ·rintro σ' H'' ⟨rfl,rfl⟩
   have hl:=congrArg List.length e';rw[mC] at hl;refine⟨x2'.length,by rw[mE];lia,x1++(u++ [39]),u',x2', ?_,hu',hx', ?_,rfl,rfl⟩
   ·rw[ex,e'];simp only[nE,nU,nH]
   ·have e5:n+1+(dbl (x1++(u++ [39]))).length+u'.length=k+2+u'.length:=by
     rw[xG,xG,xP hu,←hk,mC,mC];rw[show(dbl [39]).length=2 from rfl]
     lia
    rw[e5]
  ·rw[zUn hd3 hk2 hu' hx']
   exact⟨rfl,rfl⟩
abbrev zMr(C:Addr):Sp:=fun vs H Q E=>zLo C vs H Q E∨zMa C vs H Q E
def zHm(C:Addr):Sp:=fun vs H Q E=>∃(k:Nat)(L:List Nat)(n:Nat),vs= [.str (kS k), .str (tx L), .int n]∧((k=0∧zGn C [.str (tx L), .int n] H Q E)∨(k=2∧zMr C [.str (tx L), .int n] H Q E))
theorem zNr(F:Fun K "token_end" "token_end" zFh f fd)(M:Ms mg)(Gnumber_endx:Dx nC P w K mg base 3 "number_end" ["text","at"] (zGn C))(Grun_end:Dn P w K mg base 1 "run_end" ["text","at","signs"] zCl)(Gtext_endx:Dx nC P w K mg base 3 "text_end" ["text","at"] (zMr C)):FnOk P w K mg base (CXE nC P w) 4 f fd ["kind","text","at"] (zHm C):=by
 refine F.okx scTkEnd (by walk_at "ln") fun c A o s H vs Q E hr h=>?_;obtain⟨k,L,n,rfl,h⟩:=h;have nd:=scTkEnd.nd;refine⟨_,(zB (zR (zK zS (pv 0) zD (zJ _)) (zG (zN (zIp Gnumber_endx hr (by lia) rfl lvs (zA (pv 1) (zA (pv 2) zE))))) zM)
  (zB (zR (zK zS (pv 0) zD (zJ _)) (zG (zN (pD Grun_end hr (zA (pv 1) (zA (pv 2) (zA (kY rfl M.NAME_SIGNS) zE)))))) zM)
  (zB (zR (zK zS (pv 0) zD (zJ _)) (zG (zN (zIp Gtext_endx hr (by lia) rfl lvs (zA (pv 1) (zA (pv 2) zE))))) zM)
  (zG (zN (zI yD (pv 2) zC)))))), ?_⟩
 walk_at "st";walk_at "rd3";rw[show Str.ofString "number" =kS 0 from rfl,show Str.ofString "word" =kS 1 from rfl,show Str.ofString "text" =kS 2 from rfl,zQc];rcases h with⟨rfl,h⟩|⟨rfl,h⟩
 ·exact iP rfl h
 ·exact iN jZ.2.1 (iN jZ.2.2.2.2.1 (iP rfl h))
theorem Stops.head{k:Nat}{u A B:List Nat}(h:Stops k (u++A))(hu:u≠ []):Stops k (u++B):=by
 obtain⟨d,u',rfl⟩:=rG hu;intro c r' e;rw[nU] at e;rw[←(List.cons.inj e).1];exact h d (u'++A) rfl
def BadT(y:List Nat):Prop:=(∃c r,y=c::r∧zCn c∧c≠32)∨(∃r,y=45::r∧∀c r',r=c::r'→c∉yX)∨(∃x r,y=39::(dbl x++39::r)∧(∃c∈x,c∉wJ)∧Stops 2 r)∨(∃x,y=39::dbl x)
theorem BadT.head{y:List Nat}(h:BadT y):∃c r,y=c::r∧c≠32:=by
 rcases h with⟨c,r,e,_,h⟩|⟨r,e,_⟩|⟨x,r,e,_⟩|⟨x,e⟩
 ·exact⟨c,r,e,h⟩
 ·exact⟨_,_,e,by decide⟩
 ·exact⟨_,_,e,by decide⟩
 ·exact⟨_,_,e,by decide⟩
theorem zCc{c:List (Nat×Tk)}{e:Nat}{y:List Nat}(hok:∀y∈c,OkTk y.2)(hy:BadT y):jH [32] (lay c++List.replicate e 32++y)=kA c e:=by
 cases c with
 | nil=>
  obtain⟨d,r,rfl,hd⟩:=hy.head;have:=wP (S:=[32]) (x:=List.replicate e 32) (r:=d::r) (fun c hc=>by rw[(rA.mp hc).2];exact mH) (fun c r' e=>by rw[←(List.cons.inj e).1,mS];exact hd);rw[mU] at this;exact this
 | cons x c=>
  have e1:lay (x::c)++List.replicate e 32++y=List.replicate x.1 32++(shw x.2++lay c++List.replicate e 32++y):=by
   show List.replicate x.1 32++(shw x.2++lay c)++_++_=_;simp only[nE]
  rw[e1,wP (fun c hc=>by rw[(rA.mp hc).2];exact mH) ?_,mU];rfl;intro d r' e2;obtain⟨h,r,e3,hk,_⟩:=qP (hok x mH);rw[e3] at e2;rw[←(List.cons.inj e2).1];exact zMb hk
theorem zZn{x:Nat×Tk}{c:List (Nat×Tk)}(hx:OkTk x.2):lay (x::c)≠ []:=fun z=>by
 have:=congrArg List.length z;rw[uN] at this;obtain⟨h,r,e3,_⟩:=qP hx;rw[e3] at this;simp only[mE,nA] at this
 lia
theorem zWa{a c:List (Nat×Tk)}{x:Nat×Tk}{e:Nat}{y:List Nat}(hok:∀y∈a++x::c,OkTk y.2)(hc:Chn (a++x::c))(hy:e=0→∀z,(a++x::c).getLast? =some z→Stops z.2.1 y):Stops x.2.1 (lay c++List.replicate e 32++y):=by
 cases c with
 | nil=>
  cases e with
  | zero=>exact hy rfl x (by simp)
  | succ e=>
   have h:=zBm (e:=e+1) hok hc;exact Stops.head (u:=List.replicate (e+1) 32) (A:=[]) (by rw[mN];exact h) (by simp)
 | cons z c=>
  have h:=zBm (e:=e) hok hc;rw[nE];exact Stops.head h (zZn (hok z (by simp)))
def zLr(C:Addr):Sp:=fun vs H _ E=>∃(r:List (Nat×Tk))(e:Nat)(y:List Nat),vs= [.str (tx (lay r++List.replicate e 32++y))]∧(∀y∈r,OkTk y.2)∧Chn r∧r.length≤1000∧(lay r++List.replicate e 32++y).length≤100000∧BadT y∧
 (e=0→∀z,r.getLast? =some z→Stops z.2.1 y)∧XBad C ((lay r).length+e) H E
theorem zPu(F:Fun K "tokens" "tokens" zMm f fd)(B:Bl mg)(Grun_end:Dn P w K mg base 1 "run_end" ["text","at","signs"] zCl)(Gkind_atx:Dx nC P w K mg base 3 "kind_at" ["text","at"] fun vs H Q E=>zRg vs H Q E∨zUi C vs H Q E)(Gtoken_endx:Dx nC P w K mg base 4 "token_end" ["kind","text","at"] fun vs H Q E=>zFc vs H Q E∨zHm C vs H Q E)(Gstring_of:Dn P w K mg base 1 "string_of" ["kind","signs"] zFv):FnOk P w K mg base (CXE nC P w) 5 f fd ["text"] (zLr C):=by
 refine F.okx scToks (by walk_at "ln") fun c A o s H vs Q E hr h=>?_;obtain⟨r,e,y,rfl,hok,hch,hr1,hL,hy,hyst,q⟩:=h;have nd:=scToks.nd;refine⟨_,(zB (pS 1 nd (yF zE))
  (zB (pS 2 nd (pD Grun_end hr (zA (pv 0) (zA zC (zA zD zE)))))
  (zB (wN PassesOwn.leaving (zK jP (pv 2) (zP yG rfl B.len yK (zA (pv 0) zE)) (zJ _)) (zB (pS 3 nd (zIp Gkind_atx hr (by lia) rfl lvs (zA (pv 0) (zA (pv 2) zE))))
  (zB (pS 4 nd (zIp Gtoken_endx hr (by lia) rfl lvs (zA (pv 3) (zA (pv 0) (zA (pv 2) zE)))))
  (zB (yY (xQ nN nW nZ xH (pv 1) (zA (yP (zA (pv 3) (zA (pD Gstring_of hr (zA (pv 3) (zA (xI vY (pv 0) (yU (pv 2)) (yU (pv 4))) zE))) (zA (pv 2) zE)))) zE)))
  (zG (pS 2 nd (pD Grun_end hr (zA (pv 0) (zA (pv 4) (zA zD zE))))))))))
  (zB (yY (xQ nN nW nZ xH (pv 1) (zA (yP (zA zD (zA zD (zA (zP yG rfl B.len yK (zA (pv 0) zE)) zE)))) zE)))
  (zG (zN (pv 1))))))), ?_⟩
 generalize hLL:lay r++List.replicate e 32++y=L at hL q⊢;walk_at "st";walk_at "rd3";rw[zXv];intro p0 hp0;refine⟨L,[32],0,rfl,rK _,hL, ?_⟩;have hln:(tx L).length=L.length:=zU L;have hsz:(tx L).length≤sizeLine:=by rw[hln,mJ];lia
 rw[rY,rX,←hLL,zCc hok hy,hLL];refine⟨fun m σ H'=>∃a c k o1 o2 xs,r=a++c∧k=(lay a).length+kA c e∧σ= [some (.str (tx L)),some (.ref p0),some (.int ((k:Nat):Int)),o1,o2]∧Same H H'∧H' p0=some (.lst xs)∧Reps H' xs (wY 0 a)∧xs.length=a.length∧m=c.length,⟨_,[],r,kA r e,none,none,[],rfl,(rX _).symm,rfl,zH hp0 _,zF,rfl,rfl,rfl⟩, ?_⟩;rintro m σ H' ⟨a,c,k,o1,o2,xs,rfl,hk,rfl,g,hp,hR,hxl,rfl⟩;have hdk:L.drop (lay a).length=lay c++List.replicate e 32++y:=by
  rw[←hLL,jD];simp only[nE,tF]
 have hdl:=congrArg List.length hdk;rw[nL,mC,mC,mU] at hdl;rw[mC] at hr1;walk_at "rd3";rw[hln]
 cases c with
 | nil=>
  have hk:k=(lay a).length+e:=hk;have e0:(lay ([]:List (Nat×Tk))).length=0:=rfl;rw[mN] at q;have hdk2:L.drop k=y:=by
   rw[hk,←nS,hdk];show List.drop e (List.replicate e 32++y)=_;exact dA mU
  have hyl:0<y.length:=by
   obtain⟨d,r,rfl,_⟩:=hy.head;exact sU _
  rw[←hk] at q;have q':XBad C k H' E:=q.same g;refine⟨by lia,iP (by lia) ⟨fun _ _=>False,(fun _ _ z=>False.elim z), ?_⟩⟩;rcases hy with⟨d,r,rfl,hd,_⟩|⟨r,rfl,hr'⟩|⟨x,r,rfl,hx,hst⟩|⟨x,rfl⟩
  ·exact .inr ⟨L,r,k,d,rfl,hdk2,hd,hL,q'⟩
  ·exact .inl ⟨L,r,k,45,0,rfl,hdk2, .inl ⟨rfl, .inl rfl⟩,hL, .inr ⟨0,L,k,rfl, .inl ⟨rfl,L,r,k,rfl,hdk2,hr',hL,q'⟩⟩⟩
  ·exact .inl ⟨L,_,k,39,2,rfl,hdk2, .inr (.inr (.inl ⟨rfl,rfl⟩)),hL, .inr ⟨2,L,k,rfl, .inr ⟨rfl, .inl ⟨L,x,r,k,rfl,hdk2,hx,hst,hL,q'⟩⟩⟩⟩
  ·exact .inl ⟨L,_,k,39,2,rfl,hdk2, .inr (.inr (.inl ⟨rfl,rfl⟩)),hL, .inr ⟨2,L,k,rfl, .inr ⟨rfl, .inr ⟨L,x,k,rfl,hdk2,hL,q'⟩⟩⟩⟩
 | cons x c=>
  have hk:k=(lay a).length+x.1:=hk;have hx:=hok x (by simp);have hst:Stops x.2.1 (lay c++List.replicate e 32++y):=zWa hok hch hyst;obtain⟨h1,r1,e1,hhk,_⟩:=qP hx;have hdk2:L.drop k=shw x.2++(lay c++List.replicate e 32++y):=by
   rw[hk,←nS,hdk];show List.drop x.1 (List.replicate x.1 32++(shw x.2++lay c)++List.replicate e 32++y)=_;simp only[nE];exact dA mU
  have hpos:0<(shw x.2).length:=by rw[e1];exact sU _
  have hdl2:=congrArg List.length hdk2;rw[nL,mC] at hdl2;have hk2:(lay (a++ [x])).length=k+(shw x.2).length:=by
   rw[jD,mC,uN,hk];show _+(_+_+0)=_
   lia
  refine⟨by lia,iP (by lia) ⟨fun σ' H''=>∃o1 o2 ys,σ'= [some (.str (tx L)),some (.ref p0),some (.int (((lay (a++ [x])).length+kA c e:Nat):Int)),o1,o2]∧Same H H''∧H'' p0=some (.lst ys)∧Reps H'' ys (wY 0 (a++ [x]))∧ys.length=(a++ [x]).length, ?_, ?_⟩⟩
  ·rintro σ' H'' ⟨o1,o2,ys,rfl,g',h1,h2,h3⟩
   exact⟨c.length,sN _,a++ [x],c,by rw[nE];rfl,⟨_,_,rfl⟩,g',_,h1,h2,h3,rfl⟩
  ·refine .inl ⟨L,_,k,h1,x.2.1,rfl,by rw[hdk2,e1];rfl,hhk,hL, .inl ⟨L,_,x.2,k,rfl,hdk2,hx,hst,hL,fun H1 g1=>⟨.inl ⟨rfl,_,SqL.of (g1 _ _ hp)⟩,_,rfl,tx L,rfl,hsz, ?_⟩⟩⟩
   rw[xS,yJ];have hsl:(L.take (k+(shw x.2).length)).drop k=shw x.2:=by
    rw[sO,hdk2,show k+(shw x.2).length - k=(shw x.2).length by lia,tG]
   rw[hsl];refine⟨x.2,rfl,hx,fun p hpn=>?_⟩;obtain⟨g3,g4⟩:=zGi (g.trans g1) hp0 (g1 _ _ hp) (Reps.same g1 _ _ hR) hpn (fun Hx=>zBb Hx (kS x.2.1) x.2.2 k);refine⟨p0,xs,_,rfl,rfl,zH hpn _ _ _ (g1 _ _ hp),by rw[mJ];simp only[mE] at hr1;lia,L,[32],k+(shw x.2).length,rfl,by lia,hL, ?_⟩;have hd3:L.drop (k+(shw x.2).length)=lay c++List.replicate e 32++y:=by rw[←nS,hdk2,tF]
   rw[hd3,zCc (fun y hy=>hok y (by simp[hy])) hy,←hk2];refine⟨_,_,_,rfl,g3,zF, ?_,by rw[mC,mC,hxl];rfl⟩;rw[zDi];have e5:wY (0+(lay a).length) [x]= [.tup [.str (ts (kS x.2.1)), .str x.2.2, .int k]]:=by
    show[tkT x.2 (0+(lay a).length+x.1)]=_;rw[rX,←hk];rfl
   rw[e5];exact g4
end
abbrev zYo:Stmt:=top 61
def uP(b:List Nat)(last:Bool):Prop:=b.length≤20∧(∃c b',b=c::b'∧c∉letL++yX)∧(∀e,BadT (b++List.replicate e 32))∧(last=false→∀rest,BadT (b++32::rest))
def someS:List Str:=[Str.ofString "!",Str.ofString "A",Str.ofString "_",Str.ofString "-",Str.ofString "--1",Str.ofString "\n",Str.ofString "\t",Str.ofString ".",Str.ofString "~",Str.ofString "(",Str.ofString "+1",Str.ofString "=",Str.ofString "-a",Str.ofString "- 1",Str.ofString "&",Str.ofString "|",Str.ofString "-'a'",Str.ofString "Z9",Str.ofString "-[",Str.ofString "'a\nb'",Str.ofString "'\t'",Str.ofString "'it''s \n'"]
def lastS:List Str:=[Str.ofString "'",Str.ofString "'abc",Str.ofString "'''",Str.ofString "'a''",Str.ofString "'a b, [1",Str.ofString "'\n"]
theorem zIi(e:Nat):List.replicate e 32= []∨∃r,List.replicate e 32=32::r:=by
 cases e with
 | zero=>exact .inl rfl
 | succ e=>exact .inr ⟨_,rfl⟩
theorem wX{c:Nat}{b:List Nat}{last:Bool}(hl:(c::b).length≤20)(hc:zCn c∧c≠32):uP (c::b) last:=⟨hl,⟨c,b,rfl,fun z=>(pA.mp z).elim hc.1.2.2.1 hc.1.2.1⟩,(fun e=>.inl ⟨c,_,rfl,hc.1,hc.2⟩),fun _ rest=>.inl ⟨c,_,rfl,hc.1,hc.2⟩⟩
theorem uT{b:List Nat}(hl:(45::b).length≤20)(hb:∀c r',b=c::r'→c∉yX):uP (45::b) false:=by
 have key:∀X:List Nat,(X= []∨∃r,X=32::r)→BadT (45::b++X):=fun X hX=>.inr (.inl ⟨_,rfl,fun c r' e=>by
  cases b with
  | nil=>
   rcases hX with rfl |⟨r,rfl⟩
   ·cases e
   ·rw[←(List.cons.inj e).1];decide+kernel
  | cons d b=>rw[←(List.cons.inj e).1];exact hb d b rfl⟩)
 exact⟨hl,⟨45,b,rfl,by decide+kernel⟩,(fun e=>key _ (zIi e)),fun _ rest=>key _ (.inr ⟨rest,rfl⟩)⟩
theorem zLb{x:List Nat}(hl:(39::(dbl x++ [39])).length≤20)(hx:∃c∈x,c∉wJ):uP (39::(dbl x++ [39])) false:=by
 have key:∀X:List Nat,(X= []∨∃r,X=32::r)→BadT (39::(dbl x++ [39])++X):=fun X hX=>.inr (.inr (.inl ⟨x,X,by simp,hx,fun c r' e=>by
  rcases hX with rfl |⟨r,rfl⟩
  ·cases e
  ·rw[←(List.cons.inj e).1];exact zUr 2⟩))
 exact⟨hl,⟨39,_,rfl,by decide+kernel⟩,(fun e=>key _ (zIi e)),fun _ rest=>key _ (.inr ⟨rest,rfl⟩)⟩
theorem yAy{x:List Nat}(hl:(39::dbl x).length≤20):uP (39::dbl x) true:=⟨hl,⟨39,_,rfl,by decide+kernel⟩,(fun e=>.inr (.inr (.inr ⟨x++List.replicate e 32,by
 rw[xG,xP (x:=List.replicate e 32) (fun z=>by rw[rA] at z;exact absurd z.2 (by decide))];rfl⟩))),fun z=>nomatch z⟩
instance (c:Nat):Decidable (zCn c):=by unfold zCn;infer_instance
theorem zPk:∀z∈someS,uP (ts z) false:=by
 have e:someS.map ts= [[33],[65],[95],[45],[45,45,49],[10],[9],[46],[126],[40],[43,49],[61],[45,97],[45,32,49],[38],[124],[45,39,97,39],[90,57],[45,91],39::(dbl [97,10,98]++ [39]),39::(dbl [9]++ [39]),39::(dbl [105,116,39,115,32,10]++ [39])]:=by decide+kernel
 intro z hz;have hz':ts z∈someS.map ts:=sL hz;rw[e] at hz';generalize ts z=b at hz'⊢;simp only[mF,nP,rD] at hz';have nf:∀d:Nat,d∉yX→∀l:List Nat,∀c r',d::l=c::r'→c∉yX:=fun d hd l c r' e=>by rw[←(List.cons.inj e).1];exact hd
 rcases hz' with rfl | rfl | rfl | rfl | rfl | rfl | rfl | rfl | rfl | rfl | rfl | rfl | rfl | rfl | rfl | rfl | rfl | rfl | rfl | rfl | rfl | rfl
 ·exact wX (by decide) (by decide+kernel)
 ·exact wX (by decide) (by decide+kernel)
 ·exact wX (by decide) (by decide+kernel)
 ·exact uT (by decide) (fun c r' e=>nomatch e)
 ·exact uT (by decide) (nf _ (by decide+kernel) _)
 ·exact wX (by decide) (by decide+kernel)
 ·exact wX (by decide) (by decide+kernel)
 ·exact wX (by decide) (by decide+kernel)
 ·exact wX (by decide) (by decide+kernel)
 ·exact wX (by decide) (by decide+kernel)
 ·exact wX (by decide) (by decide+kernel)
 ·exact wX (by decide) (by decide+kernel)
 ·exact uT (by decide) (nf _ (by decide+kernel) _)
 ·exact uT (by decide) (nf _ (by decide+kernel) _)
 ·exact wX (by decide) (by decide+kernel)
 ·exact wX (by decide) (by decide+kernel)
 ·exact uT (by decide) (nf _ (by decide+kernel) _)
 ·exact wX (by decide) (by decide+kernel)
 ·exact uT (by decide) (nf _ (by decide+kernel) _)
 ·exact zLb (by decide+kernel) ⟨10,by decide,by decide+kernel⟩
 ·exact zLb (by decide+kernel) ⟨9,by decide,by decide+kernel⟩
 ·exact zLb (by decide+kernel) ⟨10,by decide,by decide+kernel⟩
theorem zOq:∀z∈lastS,uP (ts z) true:=by
 have e:lastS.map ts= [39::dbl [],39::dbl [97,98,99],39::dbl [39],39::dbl [97,39],39::dbl [97,32,98,44,32,91,49],39::dbl [10]]:=by decide+kernel
 intro z hz;have hz':ts z∈lastS.map ts:=sL hz;rw[e] at hz';generalize ts z=b at hz'⊢;simp only[mF,nP,rD] at hz';rcases hz' with rfl | rfl | rfl | rfl | rfl | rfl<;>exact yAy (by decide+kernel)
section
variable{P:Program}{w:World}{K:W.Frag}{mg:Str→Option Value}{base:Heap}{f:Addr}{fd:FuncData}
def zYf:Sp:=fun vs H Q _=>∃c:Int,vs= [.int c]∧0≤c∧∀(p:Addr)(b:List Nat)(l:Bool)(H':Hp),Same H H'→H' p=some (.tup [.str (tx b), .bl l])→uP b l→Q (.ref p) H'
theorem scBad:zV ["_law_cell_here","_law_some","_law_last"] ["_law_cell_here"] (zO zYo):=by walk_at "sc"
theorem zYj(F:Fun K "_law_bad" "_law_bad" zYo f fd):FnOk P w K mg base CX0 1 f fd ["_law_cell_here"] zYf:=by
 refine F.ok scBad (by walk_at "ln") fun c A o s H vs Q E hr h=>?_;obtain⟨c,rfl,hc,q⟩:=h;have nd:=scBad.nd;refine⟨_,(zB (pS 1 nd (yF (zA zD (zA zD (zA zD (zA zD (zA zD (zA zD (zA zD (zA zD (zA zD (zA zD (zA zD (zA zD (zA zD (zA zD (zA zD (zA zD (zA zD (zA zD (zA zD zE)))))))))))))))))))))
  (zB (pS 1 nd (zI zCf (pv 1) (yF (zA zD (zA zD (zA zD zE))))))
  (zB (pS 2 nd (yF (zA zD (zA zD (zA zD (zA zD (zA zD (zA zD zE))))))))
  (zB (zR (zK zS (zI zY (pv 0) zC) zC (zJ _)) (zG (zN (yP (zA (zQ zX (pv 2) (zI zY (zI zZ (pv 0) zC) zC) (fun _ _=>rfl)) (zA qW zE))))) zM)
  (zG (zN (yP (zA (zQ zX (pv 1) (zI zY (zI zZ (pv 0) zC) zC) (fun _ _=>rfl)) (zA qW zE))))))))), ?_⟩
 walk_at "st";walk_at "rd3";intro p1 hp1 p2 hp2;change upd H p1 (.lst ((someS.take 19).map V.str)) p2=none at hp2;change rCat (V.ref p1) (V.ref p2) (upd (upd H p1 (.lst ((someS.take 19).map V.str))) p2 (.lst ((someS.drop 19).map V.str))) _;have s1:=zH hp1 (.lst ((someS.take 19).map V.str));have e1:=zF (H:=H) (a:=p1) (o:=.lst ((someS.take 19).map V.str));generalize upd H p1 (.lst ((someS.take 19).map V.str))=H1 at s1 e1 hp2⊢;have s2:=zH hp2 (.lst ((someS.drop 19).map V.str));have e2:=zF (H:=H1) (a:=p2) (o:=.lst ((someS.drop 19).map V.str));generalize upd H1 p2 (.lst ((someS.drop 19).map V.str))=H2 at s2 e2⊢;refine⟨p1,p2,_,_,rfl,rfl,s2 _ _ e1,e2,by rw[mJ];exact Nat.le_of_ble_eq_true rfl,fun p3 hp3=>?_⟩;change∀(p:Addr),upd H2 p3 (.lst (someS.map V.str)) p=none→_;have s3:=zH hp3 (.lst (someS.map V.str));have e3:=zF (H:=H2) (a:=p3) (o:=.lst (someS.map V.str));intro p4 hp4;change if c % 4=3 then zGb K (V.ref p4) (V.int (c / 4 % 6)) (upd (upd H2 p3 (.lst (someS.map V.str))) p4 (.lst (lastS.map V.str))) _ else zGb K (V.ref p3) (V.int (c / 4 % 22)) (upd (upd H2 p3 (.lst (someS.map V.str))) p4 (.lst (lastS.map V.str))) _;generalize upd H2 p3 (.lst (someS.map V.str))=H3 at s3 e3 hp4⊢;have s4:=zH hp4 (.lst (lastS.map V.str));have e4:=zF (H:=H3) (a:=p4) (o:=.lst (lastS.map V.str));generalize upd H3 p4 (.lst (lastS.map V.str))=H4 at s4 e4⊢;have g:=s1.trans (s2.trans (s3.trans s4));have at_:∀(zs:List Str)(i:Int),0≤i→i<zs.length→∃z,atI (zs.map V.str) i=some (.str z)∧z∈zs:=fun zs i h0 h1=>by
  obtain⟨v,hv,hm⟩:=wZ (xs:=zs.map V.str) (i:=i) h0 (by rw[mZ];exact h1);obtain⟨z,hz,rfl⟩:=sF.mp hm;exact⟨z,hv,hz⟩
 split
 ·obtain⟨z,hz,hm⟩:=at_ lastS (c / 4 % 6) (by lia) (by show _<(6:Int);lia)
  refine zW (SqL.of e4) hz fun p5 hp5=>?_;exact q p5 (ts z) true _ (g.trans (zH hp5 _)) (by rw[vH];exact zF) (zOq z hm)
 ·obtain⟨z,hz,hm⟩:=at_ someS (c / 4 % 22) (by lia) (by show _<(22:Int);lia)
  refine zW (SqL.of (s4 _ _ e3)) hz fun p5 hp5=>?_;exact q p5 (ts z) false _ (g.trans (zH hp5 _)) (by rw[vH];exact zF) (zPk z hm)
end
end K27
namespace K27
open PySem L2 PySem.W
def zEe:List Nat:=ts (Str.ofString "none")
def zOs:List Nat:=ts (Str.ofString "yes")
def wNo:List Nat:=ts (Str.ofString "no")
structure Lk where
 k:Nat
 s:List Nat
 n:Nat
def zTu:List Nat→List Nat
 | 45::r=>r
 | s=>s
def gP:List Nat→Int
 | 45::r=>-((NumText.digitsVal r:Nat):Int)
 | s=>((NumText.digitsVal s:Nat):Int)
def zCo(s:List Nat):Bool:=decide (s= [48])|| !decide ((zTu s).head? =some 48)
def kU(k:Nat)(s:List Nat):Bool:=if k=0 then zCo s else if k=1 then decide (s=zEe∨s=zOs∨s=wNo) else if k=2 then true else if k=3 then decide (s= [91]∨s= [123]) else false
def qQ(k:Nat)(s:List Nat):Bool:=if k=0 then decide (10 ^ 12<(gP s).natAbs) else if k=2 then decide (30<s.length) else false
def vS(k:Nat)(s:List Nat):T:=if k=0 then .int (gP s) else if k=1 then(if s=zEe then .non else .bl (decide (s=zOs))) else .str s
inductive Fr where
 | row (us:List T)
 | rcd (ks:List (List Nat)) (us:List T) (nm:List Nat)
inductive Du where
 | thing | first | behind | more | colon | done
structure Mc where
 stk:List Fr
 du:Du
 many:Nat
 whole:T
def Fr.add(t:T):Fr→Fr
 | .row us=>.row (us++ [t])
 | .rcd ks us nm=>.rcd (ks++ [nm]) (us++ [t]) nm
def Fr.tree:Fr→T
 | .row us=>.lst us
 | .rcd ks us _=>.dic ks us
def Fr.cls:Fr→List Nat
 | .row _=>[93]
 | .rcd _ _ _=>[125]
def xF(stk:List Fr)(m:Nat)(t:T):Mc:=match stk with
 | []=>⟨[], .done,m,t⟩
 | f::r=>⟨f.add t::r, .behind,m, .non⟩
inductive Res where
 | bad (n:Nat)| great | good (t:T)| no
inductive Nx where
 | go (S:Mc)| bad | great | good
def zAt:List Fr→Bool
 | .row us::_=>decide (us.length=60)
 | _=>false
def thg(stk:List Fr)(m k:Nat)(s:List Nat):Nx:=
 if kU k s=false then .bad
 else if(decide (m=200)||(zAt stk ||(decide (k=3∧stk.length=8)|| qQ k s)))=true then .great
 else if k=3 then .go ⟨(if s= [91] then .row [] else .rcd [] [] [])::stk, .first,m+1, .non⟩
 else .go (xF stk (m+1) (vS k s))
def nmd(ks:List (List Nat))(us:List T)(stk:List Fr)(m k:Nat)(s:List Nat):Nx:=
 if k≠1∨s∈ks then .bad else if 12<s.length∨ks.length=30 then .great else .go ⟨.rcd ks us s::stk, .colon,m, .non⟩
def inn(stk:List Fr)(m k:Nat)(s:List Nat):Nx:=match stk with
 | .rcd ks us _::r=>nmd ks us r m k s
 | st=>thg st m k s
def nxt(S:Mc)(k:Nat)(s:List Nat):Nx:=match S.du with
 | .done=>if k=4 then .good else .bad
 | .colon=>if k=3∧s= [58] then .go {S with du:=.thing} else .bad
 | .thing=>thg S.stk S.many k s
 | .more=>inn S.stk S.many k s
 | .behind=>match S.stk with
  | []=>.bad
  | f::r=>if k=3∧s=f.cls then .go (xF r S.many f.tree) else if k=3∧s= [44] then .go {S with du:=.more} else .bad
 | .first=>match S.stk with
  | []=>.bad
  | f::r=>if k=3∧s=f.cls then .go (xF r S.many f.tree) else inn (f::r) S.many k s
def run:Mc→List Lk→Res
 | _,[]=>.no
 | S,t::l=>match nxt S t.k t.s with
  | .go S'=>run S' l
  | .bad=>.bad t.n
  | .great=>.great
  | .good=>.good S.whole
def gS(stk:List Fr)(m:Nat)(l:List Lk):Res:=run ⟨stk, .thing,m, .non⟩ l
theorem jG{S S':Mc}{t:Lk}{l:List Lk}(h:nxt S t.k t.s= .go S'):run S (t::l)=run S' l:=by
 show(match nxt S t.k t.s with | .go S'=>run S' l | .bad=>.bad t.n | .great=>.great | .good=>.good S.whole)=_
 rw[h]
theorem vK{S:Mc}{t:Lk}{l:List Lk}(h:nxt S t.k t.s= .bad):run S (t::l)= .bad t.n:=by
 show(match nxt S t.k t.s with | .go S'=>run S' l | .bad=>.bad t.n | .great=>.great | .good=>.good S.whole)=_
 rw[h]
theorem zAg{S:Mc}{t:Lk}{l:List Lk}(h:nxt S t.k t.s= .great):run S (t::l)= .great:=by
 show(match nxt S t.k t.s with | .go S'=>run S' l | .bad=>.bad t.n | .great=>.great | .good=>.good S.whole)=_
 rw[h]
theorem zIq{S:Mc}{t:Lk}{l:List Lk}(h:nxt S t.k t.s= .good):run S (t::l)= .good S.whole:=by
 show(match nxt S t.k t.s with | .go S'=>run S' l | .bad=>.bad t.n | .great=>.great | .good=>.good S.whole)=_
 rw[h]
theorem zSj{S S':Mc}{t:Lk}{l:List Lk}(h:nxt S t.k t.s=nxt S' t.k t.s)(hg:nxt S t.k t.s≠ .good):run S (t::l)=run S' (t::l):=by
 show(match nxt S t.k t.s with | .go S'=>run S' l | .bad=>.bad t.n | .great=>.great | .good=>.good S.whole)=(match nxt S' t.k t.s with | .go S'=>run S' l | .bad=>.bad t.n | .great=>.great | .good=>.good S'.whole)
 rw[←h]
 cases e:nxt S t.k t.s with
 | good=>exact absurd e hg
 | _=>rfl
def OkL(t:Lk):Prop:=t.s.length≤20000∧(t.k=0∧(∃s fs,t.s=s++fs∧(s= []∨s= [45])∧fs≠ []∧∀c∈fs,c∈yX)∨t.k=1∧(∃c r,t.s=c::r∧c∈letL∧∀d∈r,d∈letL++yX)∨(t.k=2∧∀c∈t.s,c∈wJ)∨(t.k=3∧∃c,t.s= [c]∧c∈mkL)∨(t.k=4∧t.s= [])∨t.k=5)
theorem zWk(c:Nat):c∈yX↔48≤c∧c≤57:=by
 constructor
 ·intro h
  have:∀c∈yX,48≤c∧c≤57:=by decide+kernel
  exact this c h
 ·rintro⟨h1,h2⟩
  have:∀c:Nat,c<58→48≤c→c∈yX:=by decide+kernel
  exact this c (by lia) h1
theorem vO{s:List Nat}(h:∃z fs,s=z++fs∧(z= []∨z= [45])∧fs≠ []∧∀c∈fs,c∈yX):∃fs,fs≠ []∧(∀c∈fs,48≤c∧c≤57)∧zTu s=fs∧((s=fs∧gP s=((NumText.digitsVal fs:Nat):Int))∨(s=45::fs∧gP s= -((NumText.digitsVal fs:Nat):Int))):=by
 obtain⟨z,fs,rfl,hz,hf,hc⟩:=h;have hc':∀c∈fs,48≤c∧c≤57:=fun c h=>(zWk c).mp (hc c h);rcases hz with rfl | rfl
 ·rw[nH]
  cases fs with
  | nil=>exact absurd rfl hf
  | cons c r=>
   have h45:c≠45:=by have:=hc' c mH;lia
   have e1:zTu (c::r)=c::r:=by unfold zTu;split<;>simp_all
   have e2:gP (c::r)=((NumText.digitsVal (c::r):Nat):Int):=by unfold gP;split<;>simp_all
   exact⟨c::r,hf,hc',e1, .inl ⟨rfl,e2⟩⟩
 ·exact⟨fs,hf,hc',rfl, .inr ⟨rfl,rfl⟩⟩
theorem zEl{s:List Nat}(h:∃z fs,s=z++fs∧(z= []∨z= [45])∧fs≠ []∧∀c∈fs,c∈yX)(hl:s.length≤4300):PySem.intText? (tx s)=some (gP s):=by
 obtain⟨fs,hf,hc,_,⟨rfl,e⟩|⟨rfl,e⟩⟩:=vO h
 ·rw[e]
  exact PySem.intText_digits (x:=tx s) hc hf (by rw[zU];exact hl)
 ·rw[e]
  exact PySem.intText_neg (x:=tx (45::fs)) (cs:=fs) rfl hc hf (by rw[zU];exact hl)
end K27
namespace K27
open PySem L2 PySem.W
seal L2.PSs L2.PS L2.PE L2.PT L2.PW L2.PA L2.PI L2.PG L2.PGs L2.PPs L2.PTs
abbrev zYp:Stmt:=top 13
abbrev zZh:Stmt:=top 35
abbrev yAz:Stmt:=top 36
def kR:Nat→Str
 | 4=>Str.ofString "end"
 | 5=>Str.ofString "stray"
 | k=>kS k
theorem zAw(fs:List Nat)(c:Nat):NumText.digitsVal (fs++ [c])=NumText.digitsVal fs*10+(c - 48):=by
 unfold NumText.digitsVal;rw[List.foldl_append];rfl
theorem zDc{P:List Nat→Prop}(h0:P [])(hs:∀r c,P r→P (r++ [c]))(r:List Nat):P r:=by
 have key:∀(n:Nat)(r:List Nat),r.length=n→P r:=by
  intro n
  induction n with
  | zero=>intro r h;rw[nY h];exact h0
  | succ n ih=>
   intro r h;rcases List.eq_nil_or_concat r with e |⟨r',c,e⟩
   ·rw[e] at h;cases h
   ·rw[List.concat_eq_append] at e
    rw[e];exact hs r' c (ih r' (by rw[e,mC] at h;simpa using h))
 exact key _ r rfl
theorem zQx{d:Nat}(hd:49≤d)(r:List Nat):10 ^ r.length≤NumText.digitsVal (d::r):=by
 refine zDc (P:=fun r=>10 ^ r.length≤NumText.digitsVal (d::r)) ?_ (fun r c ih=>?_) r
 ·show 1≤0*10+(d - 48);lia
 ·show 10 ^ (r++ [c]).length≤NumText.digitsVal (d::(r++ [c]))
  rw[←nU,zAw,mC,pO,Nat.pow_succ]
  lia
theorem zXf(fs:List Nat):(∀c∈fs,c≤57)→NumText.digitsVal fs<10 ^ fs.length:=by
 refine zDc (P:=fun fs=>(∀c∈fs,c≤57)→NumText.digitsVal fs<10 ^ fs.length) (fun _=>by show 0<1;lia) (fun r c ih h=>?_) fs;have h1:=ih fun c hc=>h c (sD _ hc);have h2:=h c (nX _ mH);rw[zAw,mC,pO,Nat.pow_succ]
 lia
theorem zMs{s:List Nat}(h:∃z fs,s=z++fs∧(z= []∨z= [45])∧fs≠ []∧∀c∈fs,c∈yX):(gP s).natAbs=NumText.digitsVal (zTu s):=by
 obtain⟨fs,hf,hc,e0,⟨rfl,e⟩|⟨rfl,e⟩⟩:=vO h
 ·rw[e,e0];lia
 ·rw[e,e0];lia
theorem zJr{s:List Nat}(h:∃z fs,s=z++fs∧(z= []∨z= [45])∧fs≠ []∧∀c∈fs,c∈yX)(hb:zCo s=true)(hl:14<s.length):qQ 0 s=true:=by
 have ha:=zMs h;obtain⟨fs,hf,hc,e0,hs⟩:=vO h;have hfl:14≤fs.length:=by
  rcases hs with⟨rfl,_⟩|⟨rfl,_⟩
  ·lia
  ·rw[mE] at hl;lia
 cases fs with
 | nil=>exact absurd rfl hf
 | cons d r=>
  have hd:d≠48:=fun z=>by
   unfold zCo at hb;rw[e0,z] at hb;have:s≠ [48]:=fun w=>by rw[w] at hl;simp at hl
   simp[this] at hb
  have h1:=hc d mH;have h2:=zQx (d:=d) (by lia) r;have h3:10 ^ 13≤10 ^ r.length:=tD (by decide) (by rw[mE] at hfl;lia);show decide (10 ^ 12<(gP s).natAbs)=true;rw[ha,e0];exact nB (by lia)
section
variable{P:Program}{w:World}{K:PySem.W.Frag}{mg:Str→Option Value}{base:Heap}{f:Addr}{fd:FuncData}{wa C2:Addr}
def zZj:Sp:=fun _ _ _ _=>False
theorem ok_no{k:Nat}{ps:List Str}:FnOk P w K mg base CX0 k f fd ps zZj:=⟨fun _ _ _ _ h=>h.elim,fun _ _ _ _ _ _ _ _ _ _ _ _ _ h=>h.elim⟩
def zXw:Sp:=fun vs H Q _=>(∃i:Int,vs= [.int i]∧∀H',Same H H'→Q (.bl (decide (i.natAbs≤10 ^ 12))) H')∨∃x,vs= [.str (tx x)]∧(∀c∈x,c∈wJ)∧x.length≤20000∧∀H',Same H H'→Q (.bl (decide (x.length≤30))) H'
theorem scSnd:zV ["thing","kind"] ["thing"] (zO zYp):=by walk_at "sc"
theorem yBj(F:Fun K "is_sound_outside" "is_sound_outside" zYp f fd)(B:Bl5 mg)(M:Ms mg)(Gkind_of:Dn P w K mg base 1 "kind_of" ["thing"] zTa)(Gis_text_sign:Dn P w K mg base 1 "is_text_sign" ["sign"] zJa)(Gis_name:Dn P w K mg base 1 "is_name" ["thing"] zZj):FnOk P w K mg base CX0 2 f fd ["thing"] zXw:=by
 refine F.ok scSnd (fun vs H Q E h=>?_) (fun c A o s H vs Q E hr h=>?_)
 ·rcases h with⟨i,rfl,_⟩|⟨x,rfl,_⟩<;>rfl
 have nd:=scSnd.nd;rcases h with⟨i,rfl,q⟩|⟨x,rfl,hx,hl,q⟩
 ·refine⟨_,(zB (pS 1 nd (pD Gkind_of hr (zA (pv 0) zE)))
  (zB (zR (zK zS (pv 1) zD (zJ _)) (zG (zN (yA zAn (zP zHe rfl B.abs zTw (zA (pv 0) zE)) (zI qO zC zC) (zJ _)))) zM)
  (zB (zR (zK zS (pv 1) zD (zJ _)) (zG (zN (wI (yA zAn (zP yG rfl B.len yK (zA (pv 0) zE)) (qX rfl M.MOST_IN_TEXT) (zJ _)) (xL (zP (wR rfl) rfl B.all jE (zA (wT (own:=["sign"]) (F:=[]) ⟨rfl,by walk_at "wu",by walk_at "wu",by walk_at "wu", .nil⟩ rfl (zBw (pv 0)) (fun _ _ _ _=>yO (i:=0) (by show(vP ["sign"] []).Nodup;decide+kernel) rfl (pR rfl)) (fun _ _ _ _=>wF) (fun _ _ _ _=>(pD Gis_text_sign hr (zA (pv 0) zE)))) zE)))))) zM)
  (zB (zR (zK zS (pv 1) zD (zJ _)) (zG (zN (yA zAn (zP yH rfl B.len yK (zA (pv 0) zE)) (qX rfl M.MOST_IN_ROW) (zJ _)))) zM)
  (zB (zR (zK zS (pv 1) zD (zJ _)) (zG (zN (wI (yA zAn (zP kP rfl B.len yK (zA (pv 0) zE)) (qX rfl M.MOST_IN_RECORD) (zJ _)) (xL (zP (wR rfl) rfl B.all jE (zA (zFz (wT (own:=["name"]) (F:=[]) ⟨rfl,by walk_at "wu",by walk_at "wu",by walk_at "wu", .nil⟩ rfl (zGo (pv 0)) (fun _ _ _ _=>yO (i:=0) (by show(vP ["name"] []).Nodup;decide+kernel) rfl (pR rfl)) (fun _ _ _ _=>wF) (fun _ _ _ _=>(pD Gis_name hr (zA (pv 0) zE))))) zE)))))) zM)
  (zG (zN (zQn (zNc (pv 1)))))))))), ?_⟩
  walk_at "st";walk_at "rd6";refine⟨_,"int",rfl,rfl,fun H1 g1=>⟨by decide+kernel,iP (by decide+kernel) ?_⟩⟩;have z:=q _ g1;rw[show decide (i.natAbs≤10 ^ 12)=decide ((if i<0 then -i else i)≤1000000000000) from by
   rw[pL];split<;>lia] at z
  exact z
 ·refine⟨_,(zB (pS 1 nd (pD Gkind_of hr (zA (pv 0) zE)))
  (zB (zR (zK zS (pv 1) zD (zJ _)) (zG (zN (yA zAn (zP zHe rfl B.abs zTw (zA (pv 0) zE)) (zI qO zC zC) (zJ _)))) zM)
  (zB (zR (zK zS (pv 1) zD (zJ _)) (zG (zN (wI (yA zAn (zP yG rfl B.len yK (zA (pv 0) zE)) (qX rfl M.MOST_IN_TEXT) (zJ _)) (xL (zP (wR rfl) rfl B.all jE (zA (wT (own:=["sign"]) (F:=[]) ⟨rfl,by walk_at "wu",by walk_at "wu",by walk_at "wu", .nil⟩ rfl (zBw (pv 0)) (fun _ _ _ _=>yO (i:=0) (by show(vP ["sign"] []).Nodup;decide+kernel) rfl (pR rfl)) (fun _ _ _ _=>wF) (fun _ _ _ _=>(pD Gis_text_sign hr (zA (pv 0) zE)))) zE)))))) zM)
  (zB (zR (zK zS (pv 1) zD (zJ _)) (zG (zN (yA zAn (zP yH rfl B.len yK (zA (pv 0) zE)) (qX rfl M.MOST_IN_ROW) (zJ _)))) zM)
  (zB (zR (zK zS (pv 1) zD (zJ _)) (zG (zN (wI (yA zAn (zP kP rfl B.len yK (zA (pv 0) zE)) (qX rfl M.MOST_IN_RECORD) (zJ _)) (xL (zP (wR rfl) rfl B.all jE (zA (zFz (wT (own:=["name"]) (F:=[]) ⟨rfl,by walk_at "wu",by walk_at "wu",by walk_at "wu", .nil⟩ rfl (zGo (pv 0)) (fun _ _ _ _=>yO (i:=0) (by show(vP ["name"] []).Nodup;decide+kernel) rfl (pR rfl)) (fun _ _ _ _=>wF) (fun _ _ _ _=>(pD Gis_name hr (zA (pv 0) zE))))) zE)))))) zM)
  (zG (zN (zQn (zNc (pv 1)))))))))), ?_⟩
  walk_at "st";walk_at "rd6";refine⟨_,"str",rfl,rfl,fun H1 g1=>⟨by decide+kernel,iN (by decide+kernel) ⟨by decide+kernel,iP (by decide+kernel) ⟨by rw[zU];lia, ?_⟩⟩⟩⟩
  by_cases hl30:x.length≤30
  ·rw[nB hl30] at q
   refine iP (by rw[zU];lia) (zDh (fun i ys H'=>Same H1 H'∧ys=(((ts (tx x)).take i).map fun c=>decide (c∈wJ)).map V.bl) (by rw[yJ,mJ];lia) ⟨Same.refl _,rfl⟩ ?_ ?_)
   ·rintro i d ys H' hd _ ⟨hS,rfl⟩
    walk_at "rd6";refine⟨d,rfl,fun H3 g3=>⟨hS.trans g3, ?_⟩⟩;have e:(ts (tx x)).take (i+1)=(ts (tx x)).take i++ [d]:=by rw[List.take_add_one,hd];rfl
    rw[e];simp only[pK,mY,pX]
   ·rintro ys H' hl' ⟨hS,rfl⟩ p hp
    refine⟨p,rfl,_,SqL.of zF, ?_⟩;have z:=q _ (g1.trans (hS.trans (zH hp (.lst ((((ts (tx x)).take (ts (tx x)).length).map fun c=>decide (c∈wJ)).map V.bl)))));rw[sP] at z⊢;rw[show(true:Bool)=((ts (tx x)).map fun c=>decide (c∈wJ)).all id from by
     rw[yJ,aQ];exact(pH.mpr fun c hc=>nB (hx c hc)).symm] at z
    exact z
  ·rw[mM hl30] at q
   exact iN (by rw[zU];lia) (q _ g1)
def zRb:Sp:=fun vs H Q _=>∃t:Lk,vs= [.str (kR t.k), .str (tx t.s)]∧OkL t∧Q (.bl (kU t.k t.s)) H
theorem scBeg:zV ["kind","string"] ["kind","string"] (zO zZh):=by walk_at "sc"
theorem tx_is{s:List Nat}{z:Str}:tx s=z↔s=ts z:=⟨fun h=>by rw[←h,yJ],fun h=>by rw[h,vH]⟩
theorem zYw(F:Fun K "begins_thing" "begins_thing" zZh f fd)(B:Bl mg)(W:Wd P w K mg wa):FnOk P w K mg base CX0 1 f fd ["kind","string"] zRb:=by
 refine F.ok scBeg (by walk_at "ln") fun c A o s H vs Q E hr h=>?_;obtain⟨⟨k,z,n⟩,rfl,⟨hlen,hb⟩,q⟩:=h;have nd:=scBeg.nd;dsimp only at hb q hlen;refine⟨_,(zB (zR (zK zS (pv 0) zD (zJ _)) (zG (zN (zAo (yA zS (pv 1) zD (zJ _)) (xL (yA vE (zQ xK (xQ pG PySem.F.slot_str_lstrip PySem.F.type_str_lstrip zOb (pv 1) (zA zD zE)) zC (fun _ _=>rfl)) zD (zJ _)))))) zM)
  (zB (zR (zK zS (pv 0) zD (zJ _)) (zG (zN (yA (zTz W) (pv 1) (zXz rfl W.at_) (by with_unfolding_all rfl)))) zM)
  (zB (zR (zK zS (pv 0) zD (zJ _)) (zG (zN (yA vC (pv 1) zD (by with_unfolding_all rfl)))) zM)
  (zG (zN (yA zS (pv 0) zD (zJ _))))))), ?_⟩
 walk_at "st";walk_at "rd6";rcases hb with⟨rfl,hz⟩|⟨rfl,hz⟩|⟨rfl,hz⟩|⟨rfl,c,rfl,hc⟩|⟨rfl,rfl⟩| rfl
 ·refine iP rfl ?_
  have hq:Q (.bl (zCo z)) H:=q
  by_cases h0:tx z=Str.ofString "0"
  ·refine iP h0 ?_
   have e:z= [48]:=(tx_is.mp h0).trans (by decide+kernel);rw[show zCo z=true from by rw[e];rfl] at hq;exact hq
  refine iN h0 ⟨rfl,tx z,Str.ofString "-",rfl,rfl,by rw[zU,mJ];lia, ?_⟩;have h0':z≠ [48]:=fun e=>h0 (by rw[e];decide+kernel);obtain⟨fs,hf,hfc,em,hs⟩:=vO hz
  cases fs with
  | nil=>exact absurd rfl hf
  | cons d r=>
   have hd5:=hfc d mH;have ez:∃s0,(s0= []∨s0= [45])∧z=s0++d::r:=by
    rcases hs with⟨e,_⟩|⟨e,_⟩
    ·exact⟨[], .inl rfl,e⟩
    ·exact⟨[45], .inr rfl,e⟩
   obtain⟨s0,hs0,e⟩:=ez;rw[e,zDy,zGr hs0 (by lia)];have hl2:(d::r).length≤20000:=by rw[e,mC] at hlen;lia
   refine xA (by rw[zU,mJ];lia) (c:=d) (yE (j:=0) rfl) ⟨rfl, ?_⟩;rw[show(!decide (V.str (tx [d])=V.str (Str.ofString "0")))=zCo z from by
    unfold zCo;rw[em,mM h0',tM]
    congr 1
    rw[pL];constructor
    ·intro y
     injection y with y;have:=tx_is.mp y;have e3:ts (Str.ofString "0")= [48]:=by decide+kernel
     rw[e3] at this;rw[(List.cons.inj this).1];rfl
    ·intro y
     have:d=48:=nV y;rw[this];exact congrArg V.str (by decide+kernel)]
   exact hq
 ·refine iN (by decide+kernel) (iP rfl ⟨_,rfl,rfl, ?_⟩)
  rw[show(xT zBq (Sum.inr (tx z))).isSome=kU 1 z from ?_]
  ·exact q
  ·show _=decide (z=zEe∨z=zOs∨z=wNo)
   rw[tP,cN];constructor
   ·intro y
    by_cases e1:tx z=Str.ofString "none"
    ·exact .inl (tx_is.mp e1)
    by_cases e2:tx z=Str.ofString "yes"
    ·exact .inr (.inl (tx_is.mp e2))
    by_cases e3:tx z=Str.ofString "no"
    ·exact .inr (.inr (tx_is.mp e3))
    exfalso
    have ne:∀a:Str,tx z≠a→decide ((Sum.inr a:Key)=Sum.inr (tx z))=false:=fun a h=>mM fun w=>h (Sum.inr.inj w).symm;unfold zBq xT at y;rw[bD (by rw[ne _ e1];decide),bD (by rw[ne _ e2];decide),bD (by rw[ne _ e3];decide)] at y;cases y
   ·rintro(e | e | e)<;>rw[e]<;>decide+kernel
 ·refine iN (show¬kS 2=Str.ofString "number" by decide+kernel) (iN (show¬kS 2=Str.ofString "word" by decide+kernel) (iN (show¬kS 2=Str.ofString "mark" by decide+kernel) ?_))
  rw[show decide (kR 2=Str.ofString "text")=true from nB rfl];exact q
 ·refine iN (by decide+kernel) (iN (by decide+kernel) (iP rfl ⟨c,rfl, ?_⟩))
  rw[show decide (c∈ts (Str.ofString "[{"))=kU 3 [c] from by
   show _=decide ([c]= [91]∨ [c]= [123]);rw[show ts (Str.ofString "[{")= [91,123] by decide+kernel,pL];simp]
  exact q
 ·refine iN (by decide+kernel) (iN (by decide+kernel) (iN (by decide+kernel) ?_))
  rw[show decide (kR 4=Str.ofString "text")=false from by decide+kernel];exact q
 ·refine iN (by decide+kernel) (iN (by decide+kernel) (iN (by decide+kernel) ?_))
  rw[show decide (kR 5=Str.ofString "text")=false from by decide+kernel];exact q
end
end K27
namespace K27
open PySem L2 PySem.W
seal L2.PSs L2.PS L2.PE L2.PT L2.PW L2.PA L2.PI L2.PG L2.PGs L2.PPs L2.PTs
section
variable{P:Program}{w:World}{K:PySem.W.Frag}{mg:Str→Option Value}{base:Heap}{f:Addr}{fd:FuncData}{wa C2:Addr}
def XGr(C2:Addr)(H:Hp)(E:XK):Prop:=∀H',Same H H'→E (.ref C2) none H'
def zUv(C2:Addr):Sp:=fun vs H Q E=>∃t:Lk,vs= [.str (kR t.k), .str (tx t.s)]∧OkL t∧kU t.k t.s=true∧t.k≠3∧(qQ t.k t.s=false→∀v H',Same H H'→(∀Hx,Rep Hx v (vS t.k t.s))→Q v H')∧(qQ t.k t.s=true→XGr C2 H E)
theorem scPln:zV ["kind","string","thing"] ["kind","string"] (zO yAz):=by walk_at "sc"
theorem zZz(F:Fun K "plain_thing" "plain_thing" yAz f fd)(B:Bl mg)(M:Ms mg)(W:Wd P w K mg wa)(Gis_sound_outside:Dn P w K mg base 2 "is_sound_outside" ["thing"] zXw)(RTooGreat:Xr0 K mg "TooGreat" C2):FnOk P w K mg base (CXE nC P w) 3 f fd ["kind","string"] (zUv C2):=by
 refine F.okx scPln (by walk_at "ln") fun c A o s H vs Q E hr h=>?_;obtain⟨⟨k,z,n⟩,rfl,⟨hlen,hz⟩,hb,h3,q,qx⟩:=h;have nd:=scPln.nd;dsimp only at hz q hlen hb h3 qx;refine⟨_,(zB (zR (zK zS (pv 0) zD (zJ _)) (zG (zN (pe_kd W (zXz rfl W.at_) (pv 1) (fun _ _=>rfl)))) zM)
  (zB (zR (PW.pt (wA (zK zS (pv 0) zD (zJ _)) (xV (zK qH (zP yG rfl B.len yK (zA (pv 1) zE)) (qX rfl M.MOST_IN_NUMBER) (zJ _))))) (zG (vN RTooGreat rfl rfl lvs (zA zD zE))) zM)
  (zB (pS 2 nd (vQ (zK zS (pv 0) zD (zJ _)) (yM uE rfl B.int xO (zA (pv 1) zE)) (pv 1)))
  (zB (zR (qM (yT (pD Gis_sound_outside hr (zA (pv 2) zE)))) (zG (vN RTooGreat rfl rfl lvs (zA zD zE))) zM)
  (zG (zN (pv 2))))))), ?_⟩
 walk_at "st";unfold qS;walk_at "rd6";rcases hz with⟨rfl,hz⟩|⟨rfl,hz⟩|⟨rfl,hz⟩|⟨rfl,c,rfl,hc⟩|⟨rfl,rfl⟩| rfl
 ·refine iN (by decide+kernel) (iP rfl ⟨by rw[zU];lia, ?_⟩)
  rw[zU]
  by_cases h14:(14:Int)<(z.length:Int)
  ·exact iP h14 (qx (zJr hz hb (by lia)) _ (Same.refl _))
  refine iN h14 (iP rfl ⟨gP z,zEl hz (by lia),by lia, .inl ⟨gP z,rfl,fun H1 g1=>⟨_,rfl, ?_⟩⟩⟩)
  by_cases hc:(gP z).natAbs≤10 ^ 12
  ·rw[nB hc]
   exact iN (by decide) (q (mM (by lia)) _ _ g1 fun _=>rfl)
  ·rw[mM hc]
   exact iP rfl (qx (nB (by lia)) _ g1)
 ·have hw:z=zEe∨z=zOs∨z=wNo:=tT hb
  have qq:=q rfl;rcases hw with rfl | rfl | rfl
  ·exact iP rfl ⟨_,_,rfl,rfl,by decide+kernel,qq .non _ (Same.refl _) fun _=>rfl⟩
  ·exact iP rfl ⟨_,_,rfl,rfl,by decide+kernel,qq (.bl true) _ (Same.refl _) fun _=>by
    show V.bl true=V.bl true;rfl⟩
  ·exact iP rfl ⟨_,_,rfl,rfl,by decide+kernel,qq (.bl false) _ (Same.refl _) fun _=>by
    show V.bl false=V.bl false;rfl⟩
 ·refine iN (show¬kS 2=Str.ofString "word" by decide+kernel) (iN (show¬kS 2=Str.ofString "number" by decide+kernel) (iN (show¬kS 2=Str.ofString "number" by decide+kernel) (.inr ⟨z,rfl,hz,hlen,fun H1 g1=>⟨_,rfl, ?_⟩⟩)))
  by_cases hc:z.length≤30
  ·rw[nB hc]
   exact iN (by decide) (q (mM (by lia)) _ _ g1 fun _=>rfl)
  ·rw[mM hc]
   exact iP rfl (qx (nB (by lia)) _ g1)
 ·exact absurd rfl h3
 ·cases hb
 ·cases hb
end
end K27
namespace K27
open PySem L2 PySem.W
seal L2.PSs L2.PS L2.PE L2.PT L2.PW L2.PA L2.PI L2.PG L2.PGs L2.PPs L2.PTs
def zAm(s:Stmt)(i:Nat):Stmt:=match s with
 | .ClassDef _ _ _ b _ _ _ _ _ _ _=>b.getD i (.Pass ⟨0,0,0,0⟩)
 | _=>s
abbrev sRi:Stmt:=zAm (top 34) 0
abbrev sRp:Stmt:=zAm (top 34) 1
abbrev sRo:Stmt:=zAm (top 34) 2
def rO(C dx fl:Addr)(p b:Nat):HO:=.ins C dx [("found", .ref fl),("place", .int p),("begun", .int b)]
structure Rc(K:PySem.W.Frag)(C:Addr):Prop where
 cls:Cls K C
 nf:NoAttr K C "found"
 np:NoAttr K C "place"
 nb:NoAttr K C "begun"
theorem zPx:((Str.ofString "place")==(Str.ofString "found"))=false:=by decide+kernel
theorem zSl:((Str.ofString "begun")==(Str.ofString "found"))=false:=by decide+kernel
theorem zVd:((Str.ofString "begun")==(Str.ofString "place"))=false:=by decide+kernel
theorem zWy{x y z:V}:List.lookup (Str.ofString "found") [(Str.ofString "found",x),(Str.ofString "place",y),(Str.ofString "begun",z)]=some x:=by
 rw[pE,tI]
theorem zLj{x y z:V}:List.lookup (Str.ofString "place") [(Str.ofString "found",x),(Str.ofString "place",y),(Str.ofString "begun",z)]=some y:=by
 rw[pE,zPx,pE,tI]
theorem lk_b{x y z:V}:List.lookup (Str.ofString "begun") [(Str.ofString "found",x),(Str.ofString "place",y),(Str.ofString "begun",z)]=some z:=by
 rw[pE,zSl,pE,zVd,pE,tI]
theorem qF{m:Str}{x y z:V}(h1:(m==(Str.ofString "found"))=false)(h2:(m==(Str.ofString "place"))=false)(h3:(m==(Str.ofString "begun"))=false):List.lookup m [(Str.ofString "found",x),(Str.ofString "place",y),(Str.ofString "begun",z)]=none:=by
 rw[pE,h1,pE,h2,pE,h3];rfl
theorem zAr{a b:Str}(h:(a==b)=false):¬b=a:=fun z=>by rw[z,tI] at h;cases h
theorem zYg{x y z v:V}:wU (Str.ofString "place") v [(Str.ofString "found",x),(Str.ofString "place",y),(Str.ofString "begun",z)]= [(Str.ofString "found",x),(Str.ofString "place",v),(Str.ofString "begun",z)]:=by
 unfold wU;rw[mG (zAr zPx)];unfold wU;rw[mK rfl]
theorem pf_b{x y z v:V}:wU (Str.ofString "begun") v [(Str.ofString "found",x),(Str.ofString "place",y),(Str.ofString "begun",z)]= [(Str.ofString "found",x),(Str.ofString "place",y),(Str.ofString "begun",v)]:=by
 unfold wU;rw[mG (zAr zSl)];unfold wU;rw[mG (zAr zVd)];unfold wU;rw[mK rfl]
theorem pf_1{x v:V}:wU (Str.ofString "place") v [(Str.ofString "found",x)]= [(Str.ofString "found",x),(Str.ofString "place",v)]:=by
 unfold wU;rw[mG (zAr zPx)];rfl
theorem pf_2{x y v:V}:wU (Str.ofString "begun") v [(Str.ofString "found",x),(Str.ofString "place",y)]= [(Str.ofString "found",x),(Str.ofString "place",y),(Str.ofString "begun",v)]:=by
 unfold wU;rw[mG (zAr zSl)];unfold wU;rw[mG (zAr zVd)];rfl
def TkAt(H:Hp)(xs:List V)(p:Nat)(k s:Str):Prop:=∃(a:Addr)(n:Int),xs[p]? =some (.ref a)∧H a=some (.tup [.str k, .str s, .int n])
def LkAt(H:Hp)(xs:List V)(p:Nat)(t:Lk):Prop:=∃a:Addr,xs[p]? =some (.ref a)∧H a=some (.tup [.str (kR t.k), .str (tx t.s), .int t.n])
def Lka(H:Hp)(xs:List V)(p:Nat)(l:List Lk):Prop:=∀(i:Nat) t,l[i]? =some t→LkAt H xs (p+i) t
theorem Lka.head{H:Hp}{xs:List V}{p:Nat}{t:Lk}{l:List Lk}(h:Lka H xs p (t::l)):LkAt H xs p t:=h 0 t rfl
theorem Lka.tail{H:Hp}{xs:List V}{p:Nat}{t:Lk}{l:List Lk}(h:Lka H xs p (t::l)):Lka H xs (p+1) l:=fun i u e=>by
 have:=h (i+1) u (by simpa using e)
 rwa [show p+(i+1)=p+1+i by lia] at this
theorem LkAt.tk{H:Hp}{xs:List V}{p:Nat}{t:Lk}(h:LkAt H xs p t):TkAt H xs p (kR t.k) (tx t.s):=by
 obtain⟨a,h1,h2⟩:=h;exact⟨a,_,h1,h2⟩
section
variable{P:Program}{w:World}{K:PySem.W.Frag}{mg:Str→Option Value}{base:Heap}{f:Addr}{fd:FuncData}{C:Addr}
def yAe(C:Addr):Sp:=fun vs H Q _=>∃(r dx fl:Addr),vs= [.ref r, .ref fl]∧H r=some (.ins C dx [])∧Q .non (upd (upd (upd H r (.ins C dx [("found", .ref fl)])) r (.ins C dx [("found", .ref fl),("place", .int 0)])) r (rO C dx fl 0 0))
theorem scRi:zV ["self","found"] ["self","found"] (zO sRi):=by walk_at "sc"
theorem ok_ri(F:Fun K "__init__" "Reader.__init__" sRi f fd)(R:Rc K C):FnOk P w K mg base CX0 1 f fd ["self","found"] (yAe C):=by
 refine F.ok scRi (by walk_at "ln") fun c A o s H vs Q E hr h=>?_;obtain⟨r,dx,fl,rfl,hR,q⟩:=h;have nd:=scRi.nd;refine⟨_,(zB (zJu (pv 0) (pv 1) rfl)
  (zB (zJu (pv 0) zC rfl)
  (zG (zJu (pv 0) zC rfl)))), ?_⟩
 walk_at "st";walk_at "rd6";refine⟨C,dx,[],hR,R.cls,R.nf,by decide,C,dx,[(Str.ofString "found", .ref fl)],zF,R.cls,R.np,by simp, ?_⟩;rw[pf_1];refine⟨C,dx,[(Str.ofString "found", .ref fl),(Str.ofString "place", .int 0)],zF,R.cls,R.nb,by simp, ?_⟩;rw[pf_2];exact q
def zPn(C:Addr):Sp:=fun vs H Q _=>∃(r dx fl:Addr)(p b:Nat)(xs:List V)(k s k' s':Str),vs= [.ref r, .str k, .str s]∧H r=some (rO C dx fl p b)∧H fl=some (.lst xs)∧TkAt H xs p k' s'∧
 (k'=k∧s'=s→Q (.bl true) (upd H r (rO C dx fl (p+1) b)))∧(¬(k'=k∧s'=s)→Q (.bl false) H)
theorem scRp:zV ["self","kind","string","token"] ["self","kind","string"] (zO sRp):=by walk_at "sc"
theorem ok_ps(F:Fun K "passes" "Reader.passes" sRp f fd)(R:Rc K C):FnOk P w K mg base CX0 1 f fd ["self","kind","string"] (zPn C):=by
 refine F.ok scRp (by walk_at "ln") fun c A o s H vs Q E hr h=>?_;obtain⟨r,dx,fl,p,b,xs,k,s0,k',s',rfl,hR,hfl,⟨a,n,hxa,ha⟩,q1,q2⟩:=h;have nd:=scRp.nd;refine⟨_,(zB (pS 3 nd (zQ zX (jA (pv 0) rfl) (jA (pv 0) rfl) (fun _ _=>rfl)))
  (zB (zR (PW.pt (jS (zK vE (zQ yB (pv 3) zC (fun _ _=>rfl)) (pv 1) (zJ _)) (vX (zK vE (zQ yB (pv 3) zC (fun _ _=>rfl)) (pv 2) (zJ _))))) (zG (zN qW)) zM)
  (zB (kK (pv 0) zC zDd)
  (zG (zN qW))))), ?_⟩
 walk_at "st";walk_at "rd6";refine⟨C,dx,_,hR,R.cls,R.nf,_,zWy,C,dx,_,hR,R.cls,R.np,_,zLj,zW (SqL.of hfl) (yE hxa) (yC (SqT.of ha) (v:=.str k') rfl ⟨rfl, ?_⟩)⟩
 by_cases hk:k'=k
 ·subst hk
  refine⟨false,by simp,jR (yC (SqT.of ha) (v:=.str s') rfl ⟨rfl, ?_⟩)⟩
  by_cases hs:s'=s0
  ·subst hs
   refine⟨false,by simp,jR ?_⟩;refine⟨C,dx,_,hR,R.cls,R.np,_,zLj,p,rfl,dx,_,hR,by simp, ?_⟩;rw[zYg,show((p:Int)+1)=((p+1:Nat):Int) by lia];exact q1 ⟨rfl,rfl⟩
  ·exact⟨true,by simp[hs],gK (q2 fun z=>hs z.2)⟩
 ·exact⟨true,by simp[hk],gK (q2 fun z=>hk z.1)⟩
end
structure Rm(r:Addr)(H H':Hp):Prop where
 same:∀b o,b≠r→H b=some o→H' b=some o
 r0:∃o,H r=some o
 r1:∃o,H' r=some o
theorem Rm.refl{r:Addr}{H:Hp}{o:HO}(h:H r=some o):Rm r H H:=⟨fun _ _ _ e=>e,⟨o,h⟩,⟨o,h⟩⟩
theorem Rm.trans{r:Addr}{H H1 H2:Hp}(a:Rm r H H1)(b:Rm r H1 H2):Rm r H H2:=⟨fun c o n e=>b.same c o n (a.same c o n e),a.r0,b.r1⟩
theorem Rm.put{r:Addr}{H:Hp}{o:HO}(h:H r=some o)(o':HO):Rm r H (upd H r o'):=⟨fun b u n e=>by rw[zL n];exact e,⟨o,h⟩,⟨o',zF⟩⟩
theorem Rm.of{r:Addr}{H H':Hp}{o:HO}(h:H r=some o)(g:Same H H'):Rm r H H':=⟨fun b u _ e=>g b u e,⟨o,h⟩,⟨o,g _ _ h⟩⟩
theorem Rm.dom{r:Addr}{H H':Hp}(g:Rm r H H'){b:Addr}(h:H' b=none):H b=none:=by
 cases e:H b with
 | none=>rfl
 | some o=>
  by_cases hb:b=r
  ·subst hb
   obtain⟨o',e'⟩:=g.r1;rw[h] at e';cases e'
  ·rw[g.same b o hb e] at h;cases h
theorem Rm.newL{r:Addr}{H H1:Hp}(g:Rm r H H1)(H2:Hp):Same (qV H1 H2) (qV H H2):=fun b o e=>by
 have h:=kC e;rw[qJ h] at e;rw[qJ (g.dom h)];exact e
theorem Rm.newR{r:Addr}{H H1 H2:Hp}(h0:∃o,H r=some o)(g:Rm r H1 H2):Same (qV H H1) (qV H H2):=fun b o e=>by
 have h:=kC e;rw[qJ h] at e⊢;refine g.same b o (fun z=>?_) e;obtain⟨o',h'⟩:=h0;rw[z,h'] at h;cases h
theorem vF{r:Addr}{H H':Hp}{C dx fl:Addr}{p0 b0:Nat}(hR:H r=some (rO C dx fl p0 b0))(g:Rm r H H'){b:Addr}{xs:List V}(h:H b=some (.lst xs)):H' b=some (.lst xs):=g.same b _ (fun z=>by rw[z,hR] at h;cases h) h
theorem Rm.new{r a:Addr}{H H':Hp}(g:Rm r H H')(ha:H a=none)(hr:a≠r)(o:HO):Rm r H (upd H' a o):=
 ⟨fun b u n e=>by rw[zL (fun z=>by rw[z,ha] at e;cases e)];exact g.same b u n e,g.r0,by obtain⟨o',e⟩:=g.r1;exact⟨o',by rw[zL (Ne.symm hr)];exact e⟩⟩
theorem uI{H H':Hp}{a:Addr}{o:HO}:uX (qV H (upd H' a o)) a=uX (qV H H') a:=by
 funext b
 by_cases h:b=a
 ·subst h;rw[zAz,zAz]
 ·rw[gW h,gW h]
  unfold qV
  cases H b with
  | none=>show upd H' a o b=H' b;rw[zL h]
  | some _=>rfl
theorem Rm.newA{r a:Addr}{H H3 H4:Hp}{o:HO}(g:Rm r H H3)(ha:H3 a=some o):Same (qV H3 H4) (uX (qV H H4) a):=fun b u e=>by
 have h:=kC e;rw[gW (fun z=>by rw[z,ha] at h;cases h)];exact g.newL H4 b u e
theorem LkAt.keep{r:Addr}{H H':Hp}{C dx fl:Addr}{p0 b0:Nat}(hR:H r=some (rO C dx fl p0 b0))(g:Rm r H H'){xs:List V}{p:Nat}{t:Lk}(h:LkAt H xs p t):LkAt H' xs p t:=by
 obtain⟨a,h1,h2⟩:=h;exact⟨a,h1,g.same a _ (fun z=>by rw[z,hR] at h2;cases h2) h2⟩
theorem Lka.keep{r:Addr}{H H':Hp}{C dx fl:Addr}{p0 b0:Nat}(hR:H r=some (rO C dx fl p0 b0))(g:Rm r H H'){xs:List V}{p:Nat}{l:List Lk}(h:Lka H xs p l):Lka H' xs p l:=fun i t e=>(h i t e).keep hR g
theorem Lka.upd{H:Hp}{xs:List V}{p:Nat}{l:List Lk}{a:Addr}{o o':HO}(h:Lka H xs p l)(ha:H a=some o)(ho:∀ys,o≠ .tup ys):Lka (upd H a o') xs p l:=fun i t e=>by
 obtain⟨c,h1,h2⟩:=h i t e;exact⟨c,h1,by rw[zL (fun z=>by rw[z,ha] at h2;injection h2 with h2;exact ho _ h2)];exact h2⟩
def XB(CB r:Addr)(n:Nat)(H:Hp)(E:XK):Prop:=∀d H',Rm r H H'→H' d=some (.xd [("at", .int n)])→E (.ref CB) (some d) H'
def XG(C2 r:Addr)(H:Hp)(E:XK):Prop:=∀H',Rm r H H'→E (.ref C2) none H'
theorem XB.rm{CB r:Addr}{n:Nat}{H H1:Hp}{E:XK}(h:XB CB r n H E)(g:Rm r H H1):XB CB r n H1 E:=fun d H' g'=>h d H' (g.trans g')
theorem XG.rm{C2 r:Addr}{H H1:Hp}{E:XK}(h:XG C2 r H E)(g:Rm r H H1):XG C2 r H1 E:=fun H' g'=>h H' (g.trans g')
theorem XB.of{CB r:Addr}{n:Nat}{H:Hp}{E:XK}{o:HO}(h:XB CB r n H E)(hR:H r=some o):∀d,H d=none→E (.ref CB) (some d) (upd H d (.xd [("at", .int n)])):=fun d hd=>h d _ (Rm.of hR (zH hd _)) zF
structure Out(CB C2 r:Addr)(H:Hp)(E:XK)(R:Res):Prop where
 bad:∀n,R= .bad n→XB CB r n H E
 great:R= .great→XG C2 r H E
theorem Out.rm{CB C2 r:Addr}{H H1:Hp}{E:XK}{R:Res}(h:Out CB C2 r H E R)(g:Rm r H H1):Out CB C2 r H1 E R:=⟨fun n e=>(h.bad n e).rm g,fun e=>(h.great e).rm g⟩
theorem zZs:∀j∈ [0,1,2,3,4,5],∀k∈ [0,1,2,3,4,5],kR j=kR k→j=k:=by decide+kernel
theorem OkL.k{t:Lk}(h:OkL t):t.k∈ [0,1,2,3,4,5]:=by
 obtain⟨_,⟨h,_⟩|⟨h,_⟩|⟨h,_⟩|⟨h,_⟩|⟨h,_⟩| h⟩:=h<;>rw[h]<;>decide
theorem zAk{t:Lk}(h:OkL t){j:Nat}(hj:j∈ [0,1,2,3,4,5]):kR t.k=kR j↔t.k=j:=⟨fun z=>zZs _ h.k _ hj z,fun z=>by rw[z]⟩
section
variable{P:Program}{w:World}{K:PySem.W.Frag}{mg:Str→Option Value}{base:Heap}{f:Addr}{fd:FuncData}{C CB C2:Addr}
abbrev sRn:Stmt:=zAm (top 34) 7
def zKc(C CB:Addr):Sp:=fun vs H Q E=>∃(r dx fl:Addr)(p b:Nat)(xs:List V)(k s:Str)(t:Lk),vs= [.ref r, .str k, .str s]∧H r=some (rO C dx fl p b)∧H fl=some (.lst xs)∧LkAt H xs p t∧(kR t.k=k∧tx t.s=s→Q .non (upd H r (rO C dx fl (p+1) b)))∧(¬(kR t.k=k∧tx t.s=s)→XB CB r t.n H E)
theorem scRo:zV ["self","kind","string"] ["self","kind","string"] (zO sRo):=by walk_at "sc"
theorem ok_po(F:Fun K "pass_over" "Reader.pass_over" sRo f fd)(R:Rc K C)(Dpasses:Dm P w K mg base 1 C "passes" ["self","kind","string"] (zPn C))(RBadText:Xr P w K mg base 1 "BadText" CB):FnOk P w K mg base (CXE nC P w) 3 f fd ["self","kind","string"] (zKc C CB):=by
 refine F.okx scRo (by walk_at "ln") fun c A o s H vs Q E hr h=>?_;obtain⟨r,dx,fl,p,b,xs,k,s0,t,rfl,hR,hfl,ht,q,qx⟩:=h;have nd:=scRo.nd;refine⟨_,(zG (zR (qM (yT (zTv Dpasses hr (by lia) (pv 0) (zA (pv 1) (zA (pv 2) zE))))) (zG (xY RBadText hr (by lia) rfl rfl lvs (zA zD (zA (zQ yB (zQ zX (jA (pv 0) rfl) (jA (pv 0) rfl) (fun _ _=>rfl)) zC (fun _ _=>rfl)) zE)))) zM)), ?_⟩;walk_at "st";unfold zAx;walk_at "rd6";refine⟨dx,_,hR,qF (by decide+kernel) (by decide+kernel) (by decide+kernel),r,dx,fl,p,b,xs,k,s0,_,_,rfl,hR,hfl,ht.tk,fun z=>⟨true,rfl,iN (by decide) (q z)⟩,fun z=>⟨false,rfl,iP rfl ?_⟩⟩;obtain⟨a,hxa,ha⟩:=ht;exact⟨C,dx,_,hR,R.cls,R.nf,_,zWy,C,dx,_,hR,R.cls,R.np,_,zLj,zW (SqL.of hfl) (yE hxa) (yC (SqT.of ha) (v:=.int t.n) rfl ⟨_,_,⟨rfl,rfl⟩,(qx z).of hR⟩)⟩
def zSp(C CB C2:Addr):Sp:=fun vs H Q E=>∃(r dx fl q:Addr)(p b:Nat)(xs:List V)(ps:List (Key×V))(t:Lk),vs= [.ref r, .ref q]∧H r=some (rO C dx fl p b)∧H fl=some (.lst xs)∧LkAt H xs p t∧OkL t∧H q=some (.dK ps)∧ps.length≤30∧
 (t.k≠1∨(xT ps (nK t.s)).isSome=true→XB CB r t.n H E)∧(t.k=1→(xT ps (nK t.s)).isSome=false→12<t.s.length∨ps.length=30→XG C2 r H E)∧(t.k=1→(xT ps (nK t.s)).isSome=false→¬(12<t.s.length∨ps.length=30)→Q (.str (tx t.s)) (upd H r (rO C dx fl (p+1) b)))
theorem scRn:zV ["self","record","token"] ["self","record"] (zO sRn):=by walk_at "sc"
theorem ok_nm(F:Fun K "name_here" "Reader.name_here" sRn f fd)(B:Bl mg)(M:Ms mg)(R:Rc K C)(RBadText:Xr P w K mg base 1 "BadText" CB)(RTooGreat:Xr0 K mg "TooGreat" C2):FnOk P w K mg base (CXE nC P w) 3 f fd ["self","record"] (zSp C CB C2):=by
 refine F.okx scRn (by walk_at "ln") fun c A o s H vs Q E hr h=>?_;obtain⟨r,dx,fl,q,p,b,xs,ps,t,rfl,hR,hfl,⟨a,hxa,ha⟩,hok,hq,hps,q1,q2,q3⟩:=h;have nd:=scRn.nd;have hu:=kF hr;refine⟨_,(zB (pS 2 nd (zQ zX (jA (pv 0) rfl) (jA (pv 0) rfl) (fun _ _=>rfl)))
  (zB (zR (PW.pt (jS (zK vE (zQ yB (pv 2) zC (fun _ _=>rfl)) zD (zJ _)) (vX (zFm (zQj hu (zQ yB (pv 2) zC (fun _ _=>rfl)) (pv 1)))))) (zG (xY RBadText hr (by lia) rfl rfl lvs (zA zD (zA (zQ yB (pv 2) zC (fun _ _=>rfl)) zE)))) zM)
  (zB (zR (PW.pt (jS (zK qH (zP yG rfl B.len yK (zA (zQ yB (pv 2) zC (fun _ _=>rfl)) zE)) (qX rfl M.MOST_IN_NAME) (zJ _)) (vX (zK zS (zP kP rfl B.len yK (zA (pv 1) zE)) (qX rfl M.MOST_IN_RECORD) (zJ _))))) (zG (vN RTooGreat rfl rfl lvs (zA zD zE))) zM)
  (zB (kK (pv 0) zC zDd)
  (zG (zN (zQ yB (pv 2) zC (fun _ _=>rfl)))))))), ?_⟩
 walk_at "st";unfold zAx qS;walk_at "rd6";refine⟨C,dx,_,hR,R.cls,R.nf,_,zWy,C,dx,_,hR,R.cls,R.np,_,zLj,zW (SqL.of hfl) (yE hxa) (yC (SqT.of ha) (v:=.str (kR t.k)) rfl ?_)⟩;have bad:(t.k≠1∨(xT ps (nK t.s)).isSome=true)→zNu K (.ref a) (.int 2) H fun x H1=>∃v0 v,(V.str (Str.ofString "no name, or one that the record has already")=v0∧x=v)∧∀(d:Addr),H1 d=none→E (Value.ref CB) (some d) (upd H1 d (HO.xd [(Str.ofString "at",v)])):=fun z=>yC (SqT.of ha) (v:=.int t.n) rfl ⟨_,_,⟨rfl,rfl⟩,(q1 z).of hR⟩
 by_cases hk:t.k=1
 ·have ek:kR t.k=Str.ofString "word":=by rw[hk];decide+kernel
  refine⟨rfl,false,by rw[ek];simp,jR ?_⟩;unfold yAp;walk_at "rd6";refine yC (SqT.of ha) (v:=.str (tx t.s)) rfl ⟨xT ps (nK t.s), .inl ⟨ps,nK t.s, .inl hq,rfl,rfl⟩, ?_⟩
  by_cases hv:(xT ps (nK t.s)).isSome=true
  ·exact iP hv (bad (.inr hv))
  refine iN hv ?_;have hv':(xT ps (nK t.s)).isSome=false:=by simpa using hv
  have gr:12<t.s.length∨ps.length=30→E (.ref C2) none H:=fun z=>q2 hk hv' z H (Rm.refl hR);refine yC (SqT.of ha) (v:=.str (tx t.s)) rfl ⟨_,rfl,by rw[zU];have:=hok.1;lia, ?_⟩
  by_cases h12:12<t.s.length
  ·exact iP (by rw[zU];lia) (gr (.inl h12))
  refine iN (by rw[zU];lia) ⟨ps, .inl hq, ?_⟩
  by_cases h30:ps.length=30
  ·exact iP (by lia) (gr (.inr h30))
  refine iN (by lia) ⟨C,dx,_,hR,R.cls,R.np,_,zLj,p,rfl,dx,_,hR,by simp, ?_⟩;rw[zYg,show((p:Int)+1)=((p+1:Nat):Int) by lia];refine yC (xs:=[.str (kR t.k), .str (tx t.s), .int t.n]) (SqT.of ?_) (v:=.str (tx t.s)) rfl (q3 hk hv' (by lia));rw[zL (fun z=>by rw[z,hR] at ha;cases ha)];exact ha
 ·exact⟨rfl,true,by rw[tO,sK];exact fun z=>hk ((zAk hok (j:=1) (by decide)).mp (V.str.inj z)),gK (bad (.inl hk))⟩
end
end K27
namespace K27
open PySem L2 PySem.W
seal L2.PSs L2.PS L2.PE L2.PT L2.PW L2.PA L2.PI L2.PG L2.PGs L2.PPs L2.PTs
abbrev sRt:Stmt:=zAm (top 34) 3
abbrev sRh:Stmt:=zAm (top 34) 4
abbrev sRr:Stmt:=zAm (top 34) 5
abbrev sRd:Stmt:=zAm (top 34) 6
def OkLs(l:List Lk):Prop:=∀t∈l,OkL t
theorem OkLs.head{t:Lk}{l:List Lk}(h:OkLs (t::l)):OkL t:=h t mH
theorem OkLs.tail{t:Lk}{l:List Lk}(h:OkLs (t::l)):OkLs l:=fun u hu=>h u (mQ _ hu)
def Gd(r:Addr)(C dx fl:Addr)(xs:List V)(stk:List Fr)(n:Nat)(R:Res)(H:Hp)(Q:VK):Prop:=
 ∀(v:V)(H':Hp)(t:T)(l':List Lk)(p' b':Nat),run (xF stk b' t) l'=R→H' r=some (rO C dx fl p' b')→Rm r H H'→Lka H' xs p' l'→OkLs l'→b'≤200→l'.length<n→Rep (qV H H') v t→Q v H'
theorem zIu{t:Lk}(h:OkL t)(c:List Nat):(kR t.k=Str.ofString "mark"∧tx t.s=tx c)↔(t.k=3∧t.s=c):=by
 constructor
 ·rintro⟨h1,h2⟩
  exact⟨(zAk h (j:=3) (by decide)).mp h1,by rw[←yJ t.s,h2,yJ]⟩
 ·rintro⟨h1,h2⟩
  exact⟨by rw[h1];rfl,by rw[h2]⟩
theorem zUp{us:List T}{stk:List Fr}{b:Nat}:∀l:List Lk,run ⟨.row us::stk, .more,b, .non⟩ l=gS (.row us::stk) b l
 | []=>rfl
 | _::_=>rfl
theorem qD{stk:List Fr}{m k:Nat}{s:List Nat}:thg stk m k s≠ .good:=by
 unfold thg;intro h;split at h
 ·cases h
 split at h
 ·cases h
 split at h<;>cases h
def InvD(nl:Nat)(C dx fl r a:Addr)(xs:List V)(stk:List Fr)(R:Res)(H:Hp)(m:Nat)(H2:Hp):Prop:=∃(pl b2:Nat)(l2:List Lk)(ks:List (List Nat))(us:List T)(nm:List Nat)(ps:List (Key×V)),m=l2.length∧l2.length≤nl∧Rm r H H2∧H2 r=some (rO C dx fl pl b2)∧Lka H2 xs pl l2∧OkLs l2∧b2≤200∧ks.length≤30∧run ⟨.rcd ks us nm::stk,(if ks= [] then .first else .behind),b2, .non⟩ l2=R∧H2 a=some (.dK ps)∧ps.map (·.1)=ks.map nK∧Reps (uX (qV H H2) a) (ps.map (·.2)) us
theorem kE{ks:List (List Nat)}{us:List T}{stk:List Fr}{m k:Nat}{s:List Nat}:nmd ks us stk m k s≠ .good:=by
 unfold nmd;intro h;split at h
 ·cases h
 split at h<;>cases h
section
variable{P:Program}{w:World}{K:PySem.W.Frag}{mg:Str→Option Value}{base:Heap}{f:Addr}{fd:FuncData}{C CB C2 wa:Addr}
def zDm(C CB C2:Addr)(n:Nat):Sp:=fun vs H Q E=>∃(r dx fl:Addr)(p b:Nat)(xs:List V)(stk:List Fr)(l:List Lk),vs= [.ref r, .int stk.length, .bl (zAt stk)]∧H r=some (rO C dx fl p b)∧H fl=some (.lst xs)∧Lka H xs p l∧OkLs l∧l.length≤30000∧b≤200∧stk.length≤8∧8<stk.length+n∧gS stk b l≠ .no∧Out CB C2 r H E (gS stk b l)∧Gd r C dx fl xs stk l.length (gS stk b l) H Q
def zSh(C CB C2:Addr)(n:Nat):Sp:=fun vs H Q E=>∃(r dx fl:Addr)(p b:Nat)(xs:List V)(stk:List Fr)(l:List Lk),vs= [.ref r, .int (stk.length+1:Nat)]∧H r=some (rO C dx fl p b)∧H fl=some (.lst xs)∧Lka H xs p l∧OkLs l∧l.length≤30000∧b≤200∧stk.length<8∧8<stk.length+1+n∧run ⟨.row []::stk, .first,b, .non⟩ l≠ .no∧Out CB C2 r H E (run ⟨.row []::stk, .first,b, .non⟩ l)∧Gd r C dx fl xs stk l.length (run ⟨.row []::stk, .first,b, .non⟩ l) H Q
theorem scRr:zV ["self","depth","row"] ["self","depth"] (zO sRr):=by walk_at "sc"
theorem yBb{n k:Nat}(F:Fun K "row_here" "Reader.row_here" sRr f fd)(B:Bl mg)(M:Ms mg)(Dpasses:Dm P w K mg base 1 C "passes" ["self","kind","string"] (zPn C))(Dpass_overx:Dmx nC P w K mg base 3 C "pass_over" ["self","kind","string"] (zKc C CB))
  (Dthing_herex:Dmx nC P w K mg base (4+k) C "thing_here" ["self","depth","crowded"] (zDm C CB C2 n)):FnOk P w K mg base (CXE nC P w) (4+k+1) f fd ["self","depth"] (zSh C CB C2 n):=by
 refine F.okx scRr (by walk_at "ln") fun c A o s H vs Q E hr h=>?_;obtain⟨r,dx,fl,p,b,xs,stk,l,rfl,hR,hfl,ht,hok,h3,hb,hs8,hn,hno,out,q⟩:=h;have nd:=scRr.nd;refine⟨_,(zB (pS 2 nd (yF zE))
  (zB (wN PassesOwn.leaving (qM (yT (zTv Dpasses hr (by lia) (pv 0) (zA zD (zA zD zE))))) (zB (zR (zHr (pv 2) (fun _=>rfl)) (zG (yY (qA Dpass_overx hr (by lia) (pv 0) lvs (zA zD (zA zD zE))))) zM)
  (zG (yY (xQ nN nW nZ xH (pv 2) (zA (qA Dthing_herex hr (by lia) (pv 0) lvs (zA (pv 1) (zA (yA zS (zP yH rfl B.len yK (zA (pv 2) zE)) (qX rfl M.MOST_IN_ROW) (zJ _)) zE))) zE))))))
  (zG (zN (pv 2))))), ?_⟩
 walk_at "st";generalize hRe:run ⟨.row []::stk, .first,b, .non⟩ l=R at hno out q;walk_at "rd6";intro a ha;have hra:a≠r:=fun z=>by rw[z,hR] at ha;cases ha
 have g0:Rm r H (upd H a (.lst [])):=Rm.of hR (zH ha _);refine⟨fun m σ H2=>∃(pl b2:Nat)(l2:List Lk)(us:List T)(vs:List V),m=l2.length∧us.length+l2.length≤l.length∧σ= [some (.ref r),some (.int (stk.length+1:Nat)),some (.ref a)]∧Rm r H H2∧H2 r=some (rO C dx fl pl b2)∧Lka H2 xs pl l2∧OkLs l2∧b2≤200∧run ⟨.row us::stk,(if us= [] then .first else .behind),b2, .non⟩ l2=R∧H2 a=some (.lst vs)∧Reps (uX (qV H H2) a) vs us∧vs.length=us.length, ?_⟩;refine⟨⟨l.length,p,b,l,[],[],rfl,Nat.le_of_eq (rX _),rfl,g0,by rw[zL (Ne.symm hra)];exact hR,ht.keep hR g0,hok,hb,hRe,zF,rfl,rfl⟩, ?_⟩;rintro m σ H2 ⟨pl,b2,l2,us,vs,rfl,hll,rfl,g2,hR2,ht2,hok2,hb2,hrun,ha2,hv2,hvl⟩;walk_at "rd6";have hfl2:=vF hR g2 hfl
 cases l2 with
 | nil=>exact absurd hrun.symm hno
 | cons t l3=>
 have hhd:=ht2.head;have hkt:=hok2.head;have htl:=ht2.tail;have hls:l3.length<l.length:=by rw[mE] at hll;lia
 have cl:(kR t.k=Str.ofString "mark"∧tx t.s=Str.ofString "]")↔(t.k=3∧t.s= [93]):=zIu hkt [93];have cm:(kR t.k=Str.ofString "mark"∧tx t.s=Str.ofString ",")↔(t.k=3∧t.s= [44]):=zIu hkt [44];have step:∀(H3:Hp)(pl3:Nat)(l4:List Lk),Rm r H H3→H3 r=some (rO C dx fl pl3 b2)→Lka H3 xs pl3 l4→OkLs l4→l4.length≤l3.length+1→gS (.row us::stk) b2 l4=R→H3 a=some (.lst vs)→Reps (uX (qV H H3) a) vs us→
   (tyV K "list" (V.ref a) H3∧∃x x_3,H3 r=some (HO.ins C x x_3)∧List.lookup (Str.ofString "thing_here") x_3=none∧∃ys,SqL K H3 a ys∧zDm C CB C2 n [V.ref r,V.int (stk.length+1:Nat),V.bl (decide ((ys.length:Int)=60))] H3 (fun x H1=>zGw (V.ref a) [x] H1 fun x H1=>
    (fun(σ':St) (H':Hp)=>∃m',m'<(t::l3).length∧∃(pl b2:Nat)(l2:List Lk),m'=l2.length∧∃us:List T,us.length+l2.length≤l.length∧σ'= [some (V.ref r),some (V.int (stk.length+1:Nat)),some (V.ref a)]∧Rm r H H'∧H' r=some (rO C dx fl pl b2)∧Lka H' xs pl l2∧OkLs l2∧b2≤200∧run ⟨.row us::stk,(if us= [] then .first else .behind),b2, .non⟩ l2=R∧∃vs:List V,H' a=some (.lst vs)∧Reps (uX (qV H H') a) vs us∧vs.length=us.length) [some (.ref r),some (.int (stk.length+1:Nat)),some (.ref a)] H1) E):=by
  intro H3 pl3 l4 g3 hR3 ht3 hok3 hl4 hrun3 ha3 hv3;have hln:l4.length≤l.length:=by rw[mE] at hll;lia
  refine⟨.inl ⟨rfl,_,SqL.of ha3⟩,dx,_,hR3,qF (by decide+kernel) (by decide+kernel) (by decide+kernel),vs,SqL.of ha3, ?_⟩;rw[show decide ((vs.length:Int)=60)=zAt (.row us::stk) from by show _=decide (us.length=60);rw[hvl];exact pL.mpr (by lia)];refine⟨r,dx,fl,pl3,b2,xs, .row us::stk,l4,rfl,hR3,vF hR g3 hfl,ht3,hok3,by lia,hb2,by rw[mE];lia,by rw[mE];lia,by rw[hrun3];exact hno,by rw[hrun3];exact out.rm g3, ?_⟩;intro v H4 t' l' p' b' hd hR4 g4 ht4 hok4 hb4 hl' hv4;rw[hrun3] at hd;have ha4:=g4.same a _ hra ha3;refine⟨a,vs,v,rfl,rfl,ha4,by rw[mJ];rw[mE] at hll;lia,l'.length,by rw[mE];lia,p',b',l',rfl,us++ [t'],by rw[mC];rw[mE] at hll;show _+1+_≤_;lia,rfl,(g3.trans g4).new ha hra _,by rw[zL (Ne.symm hra)];exact hR4,ht4.upd ha4 (fun ys z=>nomatch z),hok4,hb4, ?_,vs++ [v],zF, ?_,by simp[hvl]⟩
  ·rw[mG (by simp)];exact hd
  ·rw[uI]
   exact Reps.snoc (Rep.same (g3.newA ha3) _ _ hv4) (Reps.same (kT (Rm.newR ⟨_,hR⟩ g4)) _ _ hv3)
 refine⟨dx,_,hR2,qF (by decide+kernel) (by decide+kernel) (by decide+kernel),r,dx,fl,pl,b2,xs,_,_,_,_,rfl,hR2,hfl2,hhd.tk,fun z=>⟨true,rfl,iN (by decide) ?_⟩,fun z=>⟨false,rfl,iP rfl ⟨_,fun _ _ h=>h, ?_⟩⟩⟩
 ·have gE:=Rm.put hR2 (rO C dx fl (pl+1) b2)
  have z':=cl.mp z;refine q (.ref a) _ (.lst us) l3 (pl+1) b2 ?_ zF (g2.trans gE) (htl.keep hR2 gE) hok2.tail hb2 hls ⟨a,vs,rfl, ?_, ?_⟩
  ·rw[←hrun]
   refine(jG ?_).symm
   cases us with
   | nil=>exact mK z'
   | cons _ _=>exact mK z'
  ·rw[qJ ha,zL hra];exact ha2
  ·exact Reps.same (hide_self.trans (Rm.newR ⟨_,hR⟩ gE)) _ _ hv2
 have z':¬(t.k=3∧t.s= [93]):=fun y=>z (cl.mpr y)
 cases us with
 | nil=>
  have:vs= []:=nY hvl;subst this;refine⟨false, .inl ⟨[],SqL.of ha2,rfl⟩,iN (by decide) (step H2 pl (t::l3) g2 hR2 ht2 hok2 (mL _) ?_ ha2 hv2)⟩;rw[←hrun];have e:nxt ⟨.row []::stk, .first,b2, .non⟩ t.k t.s=thg (.row []::stk) b2 t.k t.s:=mG z';exact(zSj (S:=⟨.row []::stk, .first,b2, .non⟩) (S':=⟨.row []::stk, .thing,b2, .non⟩) e (by rw[e];exact qD)).symm
 | cons u us=>
  refine⟨true, .inl ⟨vs,SqL.of ha2, ?_⟩,iP rfl ⟨dx,_,hR2,qF (by decide+kernel) (by decide+kernel) (by decide+kernel),r,dx,fl,pl,b2,xs,_,_,t,rfl,hR2,hfl2,hhd,fun y=>?_,fun y=>?_⟩⟩
  ·cases vs with
   | nil=>cases hvl
   | cons _ _=>rfl
  ·have gE:=Rm.put hR2 (rO C dx fl (pl+1) b2)
   refine step _ (pl+1) l3 (g2.trans gE) zF (htl.keep hR2 gE) hok2.tail (by lia) ?_ (by rw[zL hra];exact ha2) (Reps.same (kT (Rm.newR ⟨_,hR⟩ gE)) _ _ hv2);rw[←zUp,←hrun];exact(jG (S:=⟨.row (u::us)::stk, .behind,b2, .non⟩) ((mG z').trans (mK (cm.mp y)))).symm
  ·refine(out.bad t.n ?_).rm g2
   rw[←hrun];exact vK (S:=⟨.row (u::us)::stk, .behind,b2, .non⟩) ((mG z').trans (mG fun x=>y (cm.mpr x)))
theorem kO{ps:List (Key×V)}{ks:List (List Nat)}(h:ps.map (·.1)=ks.map nK)(s:List Nat):(xT ps (nK s)).isSome=true↔s∈ks:=by
 constructor
 ·intro hs
  cases hm:decide (s∈ks) with
  | true=>exact tT hm
  | false=>
   rw[zEd (fun z=>?_)] at hs
   ·cases hs
   rw[h] at z;obtain⟨y,hy,e⟩:=sF.mp z;rw[zKr e] at hy;exact of_decide_eq_false hm hy
 ·intro hs
  have:nK s∈ps.map (·.1):=by rw[h];exact sL hs
  obtain⟨y,hy,e⟩:=sF.mp this;rw[←uA];exact List.any_eq_true.mpr ⟨y,hy,nB e⟩
def zQq(C CB C2:Addr)(n:Nat):Sp:=fun vs H Q E=>∃(r dx fl:Addr)(p b:Nat)(xs:List V)(stk:List Fr)(l:List Lk),vs= [.ref r, .int (stk.length+1:Nat)]∧H r=some (rO C dx fl p b)∧H fl=some (.lst xs)∧Lka H xs p l∧OkLs l∧l.length≤30000∧b≤200∧stk.length<8∧8<stk.length+1+n∧run ⟨.rcd [] [] []::stk, .first,b, .non⟩ l≠ .no∧Out CB C2 r H E (run ⟨.rcd [] [] []::stk, .first,b, .non⟩ l)∧Gd r C dx fl xs stk l.length (run ⟨.rcd [] [] []::stk, .first,b, .non⟩ l) H Q
theorem scRd:zV ["self","depth","record","name"] ["self","depth"] (zO sRd):=by walk_at "sc"
theorem yAt{n k:Nat}(F:Fun K "record_here" "Reader.record_here" sRd f fd)(B:Bl mg)(M:Ms mg)(Dpasses:Dm P w K mg base 1 C "passes" ["self","kind","string"] (zPn C))(Dpass_overx:Dmx nC P w K mg base 3 C "pass_over" ["self","kind","string"] (zKc C CB))(Dname_herex:Dmx nC P w K mg base 3 C "name_here" ["self","record"] (zSp C CB C2))
  (Dthing_herex:Dmx nC P w K mg base (4+k) C "thing_here" ["self","depth","crowded"] (zDm C CB C2 n)):FnOk P w K mg base (CXE nC P w) (4+k+1) f fd ["self","depth"] (zQq C CB C2 n):=by
 refine F.okx scRd (by walk_at "ln") fun c A o s H vs Q E hr h=>?_;obtain⟨r,dx,fl,p,b,xs,stk,l,rfl,hR,hfl,ht,hok,h3,hb,hs8,hn,hno,out,q⟩:=h;have nd:=scRd.nd;have hu:=kF hr;refine⟨_,(zB (pS 2 nd zJn)
  (zB (wN PassesOwn.leaving (qM (yT (zTv Dpasses hr (by lia) (pv 0) (zA zD (zA zD zE))))) (zB (zR (zHr (pv 2) (fun _=>rfl)) (zG (yY (qA Dpass_overx hr (by lia) (pv 0) lvs (zA zD (zA zD zE))))) zM)
  (zB (pS 3 nd (qA Dname_herex hr (by lia) (pv 0) lvs (zA (pv 2) zE)))
  (zB (yY (qA Dpass_overx hr (by lia) (pv 0) lvs (zA zD (zA zD zE))))
  (zG (vM hu (pv 2) (pv 3) (qA Dthing_herex hr (by lia) (pv 0) lvs (zA (pv 1) (zA qW zE))) rfl))))))
  (zG (zN (pv 2))))), ?_⟩
 walk_at "st";generalize hRe:run ⟨.rcd [] [] []::stk, .first,b, .non⟩ l=R at hno out q;walk_at "rd6";intro a ha;have hra:a≠r:=fun z=>by rw[z,hR] at ha;cases ha
 have g0:Rm r H (upd H a (.dK [])):=Rm.of hR (zH ha _);refine⟨fun m σ H2=>∃o,σ= [some (.ref r),some (.int (stk.length+1:Nat)),some (.ref a),o]∧InvD l.length C dx fl r a xs stk R H m H2, ?_⟩;refine⟨⟨l.length,none,rfl,p,b,l,[],[],[],[],rfl,mL _,g0,by rw[zL (Ne.symm hra)];exact hR,ht.keep hR g0,hok,hb,by decide,hRe,zF,rfl,rfl⟩, ?_⟩;rintro m σ H2 ⟨o,rfl,pl,b2,l2,ks,us,nm,ps,rfl,hll,g2,hR2,ht2,hok2,hb2,h30,hrun,ha2,hk2,hv2⟩;walk_at "rd6";have hfl2:=vF hR g2 hfl;have hpl:ps.length=ks.length:=by
  have:=congrArg List.length hk2
  rwa [mZ,mZ] at this
 cases l2 with
 | nil=>exact absurd hrun.symm hno
 | cons t l3=>
 have hhd:=ht2.head;have hkt:=hok2.head;have htl:=ht2.tail;have cl:(kR t.k=Str.ofString "mark"∧tx t.s=Str.ofString "}")↔(t.k=3∧t.s= [125]):=zIu hkt [125];have cm:(kR t.k=Str.ofString "mark"∧tx t.s=Str.ofString ",")↔(t.k=3∧t.s= [44]):=zIu hkt [44];have step:∀(H3:Hp)(pl3:Nat)(l4:List Lk),Rm r H H3→H3 r=some (rO C dx fl pl3 b2)→Lka H3 xs pl3 l4→OkLs l4→l4.length≤l3.length+1→run ⟨.rcd ks us nm::stk, .more,b2, .non⟩ l4=R→H3 a=some (.dK ps)→Reps (uX (qV H H3) a) (ps.map (·.2)) us→
   ∃x x_1,H3 r=some (HO.ins C x x_1)∧List.lookup (Str.ofString "name_here") x_1=none∧zSp C CB C2 [V.ref r,V.ref a] H3 (fun x H1=>∃x_2 x_3,H1 r=some (HO.ins C x_2 x_3)∧List.lookup (Str.ofString "pass_over") x_3=none∧
    zKc C CB [V.ref r,V.str (Str.ofString "mark"),V.str (Str.ofString ":")] H1 (fun x_4 H1=>∃x_5 x_6,H1 r=some (HO.ins C x_5 x_6)∧List.lookup (Str.ofString "thing_here") x_6=none∧zDm C CB C2 n [V.ref r,V.int (stk.length+1:Nat),V.bl false] H1 (fun v H1=>∃x_7,DPut H1 a x v x_7∧
    (fun(σ':St) (H':Hp)=>∃m',m'<(t::l3).length∧(∃x,σ'= [some (V.ref r),some (V.int (stk.length+1:Nat)),some (V.ref a),x])∧InvD l.length C dx fl r a xs stk R H m' H') [some (V.ref r),some (V.int (stk.length+1:Nat)),some (V.ref a),some x] x_7) E) E) E:=by
  intro H3 pl3 l4 g3 hR3 ht3 hok3 hl4 hrun3 ha3 hv3
  cases l4 with
  | nil=>exact absurd hrun3.symm hno
  | cons t4 l5=>
  have hn4:nxt ⟨.rcd ks us nm::stk, .more,b2, .non⟩ t4.k t4.s=nmd ks us stk b2 t4.k t4.s:=rfl;have hfl3:=vF hR g3 hfl;refine⟨dx,_,hR3,qF (by decide+kernel) (by decide+kernel) (by decide+kernel),r,dx,fl,a,pl3,b2,xs,ps,t4,rfl,hR3,hfl3,ht3.head,hok3.head,ha3,by lia,fun z=>?_,fun z1 z2 z3=>?_,fun z1 z2 z3=>?_⟩
  ·refine(out.bad t4.n ?_).rm g3
   rw[←hrun3];exact vK (hn4.trans (mK (z.imp id (kO hk2 _).mp)))
  ·refine(out.great ?_).rm g3
   rw[←hrun3];exact zAg (hn4.trans ((mG (fun y=>y.elim (fun y=>y z1) fun y=>by rw[(kO hk2 _).mpr y] at z2;cases z2)).trans (mK (by rw[hpl] at z3;exact z3))))
  have hrun4:run ⟨.rcd ks us t4.s::stk, .colon,b2, .non⟩ l5=R:=by
   rw[←hrun3];exact(jG (hn4.trans ((mG (fun y=>y.elim (fun y=>y z1) fun y=>by rw[(kO hk2 _).mpr y] at z2;cases z2)).trans (mG (by rw[hpl] at z3;exact z3))))).symm
  have gA:=Rm.put hR3 (rO C dx fl (pl3+1) b2);have hRA:upd H3 r (rO C dx fl (pl3+1) b2) r=some (rO C dx fl (pl3+1) b2):=zF;have haA:upd H3 r (rO C dx fl (pl3+1) b2) a=some (.dK ps):=by rw[zL hra];exact ha3
  generalize upd H3 r (rO C dx fl (pl3+1) b2)=HA at gA hRA haA⊢;have htA:=ht3.tail.keep hR3 gA;have hflA:=vF hR (g3.trans gA) hfl
  cases l5 with
  | nil=>exact absurd hrun4.symm hno
  | cons t5 l6=>
  have cc:(kR t5.k=Str.ofString "mark"∧tx t5.s=Str.ofString ":")↔(t5.k=3∧t5.s= [58]):=zIu hok3.tail.head [58];refine⟨dx,_,hRA,qF (by decide+kernel) (by decide+kernel) (by decide+kernel),r,dx,fl,pl3+1,b2,xs,_,_,t5,rfl,hRA,hflA,htA.head,fun y=>?_,fun y=>?_⟩
  case refine_2=>
   refine(out.bad t5.n ?_).rm (g3.trans gA);rw[←hrun4];exact vK (S:=⟨.rcd ks us t4.s::stk, .colon,b2, .non⟩) (mG fun x=>y (cc.mpr x))
  have hrun5:gS (.rcd ks us t4.s::stk) b2 l6=R:=by
   rw[←hrun4];exact(jG (S:=⟨.rcd ks us t4.s::stk, .colon,b2, .non⟩) (mK (cc.mp y))).symm
  have gB:=Rm.put hRA (rO C dx fl (pl3+1+1) b2);have hRB:upd HA r (rO C dx fl (pl3+1+1) b2) r=some (rO C dx fl (pl3+1+1) b2):=zF;have haB:upd HA r (rO C dx fl (pl3+1+1) b2) a=some (.dK ps):=by rw[zL hra];exact haA
  generalize upd HA r (rO C dx fl (pl3+1+1) b2)=HB at gB hRB haB⊢;have htB:=htA.tail.keep hRA gB;have g3B:=g3.trans (gA.trans gB);have hl6:l6.length+2≤l3.length+1:=by rw[mE,mE] at hl4;lia
  have hl2':=hll;rw[mE] at hl2';refine⟨dx,_,hRB,qF (by decide+kernel) (by decide+kernel) (by decide+kernel),r,dx,fl,pl3+1+1,b2,xs, .rcd ks us t4.s::stk,l6,rfl,hRB,vF hR g3B hfl,htB,hok3.tail.tail,by lia,hb2,by rw[mE];lia,by rw[mE];lia,by rw[hrun5];exact hno,by rw[hrun5];exact out.rm g3B, ?_⟩;intro v H4 t' l' p' b' hd hR4 g4 ht4 hok4 hb4 hl' hv4;rw[hrun5] at hd;have ha4:=g4.same a _ hra haB;have hvn:xT ps (nK t4.s)=none:=by
   cases e:xT ps (nK t4.s) with
   | none=>rfl
   | some _=>rw[e] at z2;cases z2
  refine⟨_,DPut.k (k:=nK t4.s) ha4 (by rw[mJ];lia),l'.length,by rw[mE];lia,⟨_,rfl⟩,p',b',l',ks++ [t4.s],us++ [t'],t4.s,_,rfl,by lia,(g3B.trans g4).new ha hra _,by rw[zL (Ne.symm hra)];exact hR4,ht4.upd ha4 (fun ys z=>nomatch z),hok4,hb4,by rw[mC];show _+1≤_;lia, ?_,zF, ?_, ?_⟩
  ·rw[mG (by simp)];exact hd
  ·rw[vD v hvn,pK,hk2,pK];rfl
  ·rw[vD v hvn,uI,pK]
   exact Reps.snoc (Rep.same (g3B.newA haB) _ _ hv4) (Reps.same (kT (Rm.newR ⟨_,hR⟩ ((gA.trans gB).trans g4))) _ _ hv3)
 refine⟨dx,_,hR2,qF (by decide+kernel) (by decide+kernel) (by decide+kernel),r,dx,fl,pl,b2,xs,_,_,_,_,rfl,hR2,hfl2,hhd.tk,fun z=>⟨true,rfl,iN (by decide) ?_⟩,fun z=>⟨false,rfl,iP rfl ⟨_,fun _ _ h=>h, ?_⟩⟩⟩
 ·have gE:=Rm.put hR2 (rO C dx fl (pl+1) b2)
  have z':=cl.mp z;refine q (.ref a) _ (.dic ks us) l3 (pl+1) b2 ?_ zF (g2.trans gE) (htl.keep hR2 gE) hok2.tail hb2 (by rw[mE] at hll;lia) ⟨a,ps,rfl, ?_,hk2, ?_⟩
  ·rw[←hrun]
   refine(jG ?_).symm
   cases ks with
   | nil=>exact mK z'
   | cons _ _=>exact mK z'
  ·rw[qJ ha,zL hra];exact ha2
  ·exact Reps.same (hide_self.trans (Rm.newR ⟨_,hR⟩ gE)) _ _ hv2
 have z':¬(t.k=3∧t.s= [125]):=fun y=>z (cl.mpr y)
 by_cases hks:ks= []
 ·subst hks
  have:ps= []:=nY hpl;subst this;refine⟨false, .inr (.inr ⟨[],ha2,rfl⟩),iN (by decide) (step H2 pl (t::l3) g2 hR2 ht2 hok2 (mL _) ?_ ha2 hv2)⟩;rw[←hrun];have e:nxt ⟨.rcd [] us nm::stk, .first,b2, .non⟩ t.k t.s=nmd [] us stk b2 t.k t.s:=mG z';exact(zSj (S:=⟨.rcd [] us nm::stk, .first,b2, .non⟩) (S':=⟨.rcd [] us nm::stk, .more,b2, .non⟩) e (by rw[e];exact kE)).symm
 ·rw[mG hks] at hrun
  refine⟨true, .inr (.inr ⟨ps,ha2, ?_⟩),iP rfl ⟨dx,_,hR2,qF (by decide+kernel) (by decide+kernel) (by decide+kernel),r,dx,fl,pl,b2,xs,_,_,t,rfl,hR2,hfl2,hhd,fun y=>?_,fun y=>?_⟩⟩
  ·cases ps with
   | nil=>exact absurd (nY hpl.symm) hks
   | cons _ _=>rfl
  ·have gE:=Rm.put hR2 (rO C dx fl (pl+1) b2)
   refine step _ (pl+1) l3 (g2.trans gE) zF (htl.keep hR2 gE) hok2.tail (by lia) ?_ (by rw[zL hra];exact ha2) (Reps.same (kT (Rm.newR ⟨_,hR⟩ gE)) _ _ hv2);rw[←hrun];exact(jG (S:=⟨.rcd ks us nm::stk, .behind,b2, .non⟩) ((mG z').trans (mK (cm.mp y)))).symm
  ·refine(out.bad t.n ?_).rm g2
   rw[←hrun];exact vK (S:=⟨.rcd ks us nm::stk, .behind,b2, .non⟩) ((mG z').trans (mG fun x=>y (cm.mpr x)))
def zRl(C CB C2:Addr)(n:Nat):Sp:=fun vs H Q E=>∃(r dx fl:Addr)(p b:Nat)(xs:List V)(stk:List Fr)(l:List Lk)(z:List Nat),vs= [.ref r, .int stk.length, .str (tx z)]∧(z= [91]∨z= [123])∧H r=some (rO C dx fl p b)∧H fl=some (.lst xs)∧Lka H xs p l∧OkLs l∧l.length≤30000∧b≤200∧stk.length≤8∧8<stk.length+1+n∧(stk.length=8→XG C2 r H E)∧
 (stk.length<8→run ⟨(if z= [91] then .row [] else .rcd [] [] [])::stk, .first,b, .non⟩ l≠ .no∧Out CB C2 r H E (run ⟨(if z= [91] then .row [] else .rcd [] [] [])::stk, .first,b, .non⟩ l)∧Gd r C dx fl xs stk l.length (run ⟨(if z= [91] then .row [] else .rcd [] [] [])::stk, .first,b, .non⟩ l) H Q)
theorem scRh:zV ["self","depth","bracket"] ["self","depth","bracket"] (zO sRh):=by walk_at "sc"
theorem yBi{n k:Nat}(F:Fun K "holder_here" "Reader.holder_here" sRh f fd)(M:Ms mg)(RTooGreat:Xr0 K mg "TooGreat" C2)(Drow_herex:Dmx nC P w K mg base (4+k+1) C "row_here" ["self","depth"] (zSh C CB C2 n))(Drecord_herex:Dmx nC P w K mg base (4+k+1) C "record_here" ["self","depth"] (zQq C CB C2 n)):FnOk P w K mg base (CXE nC P w) (4+k+2) f fd ["self","depth","bracket"] (zRl C CB C2 n):=by
 refine F.okx scRh (by walk_at "ln") fun c A o s H vs Q E hr h=>?_;obtain⟨r,dx,fl,p,b,xs,stk,l,z,rfl,hz,hR,hfl,ht,hok,h3,hb,hs8,hn,hg,hh⟩:=h;have nd:=scRh.nd;refine⟨_,(zB (zR (zK zS (pv 1) (qX rfl M.MOST_DEPTH) (zJ _)) (zG (vN RTooGreat rfl rfl lvs (zA zD zE))) zM)
  (zB (zR (zK zS (pv 2) zD (zJ _)) (zG (zN (qA Drow_herex hr (by lia) (pv 0) lvs (zA (zI yD (pv 1) zC) zE)))) zM)
  (zG (zN (qA Drecord_herex hr (by lia) (pv 0) lvs (zA (zI yD (pv 1) zC) zE)))))), ?_⟩
 walk_at "st";unfold qS;walk_at "rd6"
 by_cases h8:stk.length=8
 ·exact iP (by lia) (hg h8 H (Rm.refl hR))
 obtain⟨hno,out,q⟩:=hh (by lia);refine iN (by lia) ?_;rcases hz with rfl | rfl
 ·rw[mK rfl] at hno out q
  exact iP (by decide+kernel) ⟨dx,_,hR,qF (by decide+kernel) (by decide+kernel) (by decide+kernel),r,dx,fl,p,b,xs,stk,l,rfl,hR,hfl,ht,hok,h3,hb,by lia,by lia,hno,out,q⟩
 ·rw[mG (by decide)] at hno out q
  exact iN (by decide+kernel) ⟨dx,_,hR,qF (by decide+kernel) (by decide+kernel) (by decide+kernel),r,dx,fl,p,b,xs,stk,l,rfl,hR,hfl,ht,hok,h3,hb,by lia,by lia,hno,out,q⟩
theorem scRt:zV ["self","depth","crowded","token"] ["self","depth","crowded"] (zO sRt):=by walk_at "sc"
theorem zZm{n k:Nat}(F:Fun K "thing_here" "Reader.thing_here" sRt f fd)(M:Ms mg)(R:Rc K C)(RBadText:Xr P w K mg base 1 "BadText" CB)(RTooGreat:Xr0 K mg "TooGreat" C2)(Gbegins_thing:Dn P w K mg base 1 "begins_thing" ["kind","string"] zRb)(Gplain_thingx:Dx nC P w K mg base 3 "plain_thing" ["kind","string"] (zUv C2))(Dholder_herex:Dmx nC P w K mg base (4+k+2) C "holder_here" ["self","depth","bracket"] (zRl C CB C2 n)):FnOk P w K mg base (CXE nC P w) (4+k+3) f fd ["self","depth","crowded"] (zDm C CB C2 (n+1)):=by
 refine F.okx scRt (by walk_at "ln") fun c A o s H vs Q E hr h=>?_;obtain⟨r,dx,fl,p,b,xs,stk,l,rfl,hR,hfl,ht,hok,h3,hb,hs8,hn,hno,out,q⟩:=h;have nd:=scRt.nd;refine⟨_,(zB (pS 3 nd (zQ zX (jA (pv 0) rfl) (jA (pv 0) rfl) (fun _ _=>rfl)))
  (zB (zR (qM (yT (pD Gbegins_thing hr (zA (zQ yB (pv 3) zC (fun _ _=>rfl)) (zA (zQ yB (pv 3) zC (fun _ _=>rfl)) zE))))) (zG (xY RBadText hr (by lia) rfl rfl lvs (zA zD (zA (zQ yB (pv 3) zC (fun _ _=>rfl)) zE)))) zM)
  (zB (zR (PW.pt (jS (yT (pv 2)) (vX (zK zS (jA (pv 0) rfl) (qX rfl M.MOST_SIZE) (zJ _))))) (zG (vN RTooGreat rfl rfl lvs (zA zD zE))) zM)
  (zB (kK (pv 0) zC zDd)
  (zB (kK (pv 0) zC zDd)
  (zB (zR (zK zS (zQ yB (pv 3) zC (fun _ _=>rfl)) zD (zJ _)) (zG (zN (qA Dholder_herex hr (by lia) (pv 0) lvs (zA (pv 1) (zA (zQ yB (pv 3) zC (fun _ _=>rfl)) zE))))) zM)
  (zG (zN (zIp Gplain_thingx hr (by lia) rfl lvs (zA (zQ yB (pv 3) zC (fun _ _=>rfl)) (zA (zQ yB (pv 3) zC (fun _ _=>rfl)) zE))))))))))), ?_⟩
 walk_at "st";unfold zAx qS;walk_at "rd6"
 cases l with
 | nil=>exact absurd rfl hno
 | cons t l1=>
 have hkt:=hok.head;obtain⟨a,hxa,ha⟩:=ht.head;refine⟨C,dx,_,hR,R.cls,R.nf,_,zWy,C,dx,_,hR,R.cls,R.np,_,zLj,zW (SqL.of hfl) (yE hxa) (yC (SqT.of ha) (v:=.str (kR t.k)) rfl (yC (SqT.of ha) (v:=.str (tx t.s)) rfl ⟨t,rfl,hkt,kU t.k t.s,rfl, ?_⟩))⟩;have hT:nxt ⟨stk, .thing,b, .non⟩ t.k t.s=thg stk b t.k t.s:=rfl;have great:kU t.k t.s=true→(decide (b=200)||(zAt stk ||(decide (t.k=3∧stk.length=8)|| qQ t.k t.s)))=true→XG C2 r H E:=fun z1 z2=>out.great (zAg (hT.trans ((mG (by rw[z1];decide)).trans (mK z2))))
 cases hbg:kU t.k t.s with
 | false=>exact iP rfl (yC (SqT.of ha) (v:=.int t.n) rfl ⟨_,_,⟨rfl,rfl⟩,(out.bad t.n (vK (hT.trans (mK hbg)))).of hR⟩)
 | true=>
 refine iN (by decide) ?_
 cases hfu:zAt stk with
 | true=>exact iP rfl (great hbg (by rw[hfu];simp) H (Rm.refl hR))
 | false=>
 refine iN (by decide) ⟨C,dx,_,hR,R.cls,R.nb,_,lk_b,rfl, ?_⟩
 by_cases hb2:b=200
 ·exact iP (by rw[hb2];rfl) (great hbg (by rw[hb2];simp) H (Rm.refl hR))
 refine iN (fun z=>by injection z with z;lia) ⟨C,dx,_,hR,R.cls,R.nb,_,lk_b,b,rfl,dx,_,hR,by simp, ?_⟩;rw[pf_b];refine⟨C,dx,[(Str.ofString "found", .ref fl),(Str.ofString "place", .int p),(Str.ofString "begun", .int ((b:Int)+1))],zF,R.cls,R.np,_,zLj,p,rfl,dx,[(Str.ofString "found", .ref fl),(Str.ofString "place", .int p),(Str.ofString "begun", .int ((b:Int)+1))],zF,by simp, ?_⟩;rw[zYg];have gE:Rm r H (upd (upd H r (.ins C dx [(Str.ofString "found", .ref fl),(Str.ofString "place", .int p),(Str.ofString "begun", .int ((b:Int)+1))])) r (.ins C dx [(Str.ofString "found", .ref fl),(Str.ofString "place", .int ((p:Int)+1)),(Str.ofString "begun", .int ((b:Int)+1))])):=(Rm.put hR _).trans (Rm.put zF _);have hRE:upd (upd H r (.ins C dx [(Str.ofString "found", .ref fl),(Str.ofString "place", .int p),(Str.ofString "begun", .int ((b:Int)+1))])) r (.ins C dx [(Str.ofString "found", .ref fl),(Str.ofString "place", .int ((p:Int)+1)),(Str.ofString "begun", .int ((b:Int)+1))]) r=some (rO C dx fl (p+1) (b+1)):=zF;generalize upd (upd H r (.ins C dx [(Str.ofString "found", .ref fl),(Str.ofString "place", .int p),(Str.ofString "begun", .int ((b:Int)+1))])) r (.ins C dx [(Str.ofString "found", .ref fl),(Str.ofString "place", .int ((p:Int)+1)),(Str.ofString "begun", .int ((b:Int)+1))])=HE at gE hRE⊢;have haE:HE a=some (.tup [.str (kR t.k), .str (tx t.s), .int t.n]):=gE.same a _ (fun z=>by rw[z,hR] at ha;cases ha) ha;have htE:=ht.tail.keep hR gE;have hflE:=vF hR gE hfl;rw[mE] at h3;refine yC (SqT.of haE) (v:=.str (kR t.k)) rfl ⟨rfl, ?_⟩
 by_cases h3k:t.k=3
 ·have hz:t.s= [91]∨t.s= [123]:=by
   rw[h3k] at hbg;exact tT hbg
  refine iP (by rw[h3k];rfl) ⟨dx,_,hRE,qF (by decide+kernel) (by decide+kernel) (by decide+kernel),yC (SqT.of haE) (v:=.str (tx t.s)) rfl ⟨r,dx,fl,p+1,b+1,xs,stk,l1,t.s,rfl,hz,hRE,hflE,htE,hok.tail,by lia,by lia,hs8,by lia,fun z=>?_,fun z=>?_⟩⟩
  ·exact(great hbg (by rw[nB (show t.k=3∧stk.length=8 from⟨h3k,z⟩)];simp)).rm gE
  have hby:qQ t.k t.s=false:=by rw[h3k];rfl
  have hc:¬(decide (b=200)||(zAt stk ||(decide (t.k=3∧stk.length=8)|| qQ t.k t.s)))=true:=by
   rw[hby,hfu,mM hb2,mM (show¬(t.k=3∧stk.length=8) from fun y=>by lia)]
   decide
  have e:gS stk b (t::l1)=run ⟨(if t.s= [91] then .row [] else .rcd [] [] [])::stk, .first,b+1, .non⟩ l1:=jG (hT.trans ((mG (by rw[hbg];decide)).trans ((mG hc).trans (mK h3k))));rw[←e];refine⟨hno,out.rm gE, ?_⟩;intro v H' t' l' p' b' hd hR' g' ht' hok' hb' hl' hv';exact q v H' t' l' p' b' hd hR' (gE.trans g') ht' hok' hb' (by rw[mE];lia) (Rep.same (gE.newL H') _ _ hv')
 ·refine iN (fun z=>h3k ((zAk hkt (j:=3) (by decide)).mp (V.str.inj z))) (yC (SqT.of haE) (v:=.str (kR t.k)) rfl (yC (SqT.of haE) (v:=.str (tx t.s)) rfl ⟨t,rfl,hkt,hbg,h3k,fun hby=>?_,fun hby=>?_⟩))
  ·have hc:¬(decide (b=200)||(zAt stk ||(decide (t.k=3∧stk.length=8)|| qQ t.k t.s)))=true:=by
    rw[hby,hfu,mM hb2,mM (show¬(t.k=3∧stk.length=8) from fun y=>h3k y.1)]
    decide
   have e:gS stk b (t::l1)=run (xF stk (b+1) (vS t.k t.s)) l1:=jG (hT.trans ((mG (by rw[hbg];decide)).trans ((mG hc).trans (mG h3k))));intro v H' g' hv';exact q v H' (vS t.k t.s) l1 (p+1) (b+1) e.symm (g' _ _ hRE) (gE.trans (Rm.of hRE g')) (htE.keep hRE (Rm.of hRE g')) hok.tail (by lia) (by rw[mE];lia) (hv' _)
  ·exact fun H' g'=>great hbg (by rw[hby];simp) H' (gE.trans (Rm.of hRE g'))
theorem yAc(F:Fun K "thing_here" "Reader.thing_here" sRt f fd):FnOk P w K mg base (CXE nC P w) 4 f fd ["self","depth","crowded"] (zDm C CB C2 0):=by
 refine F.okx scRt (by walk_at "ln") fun c A o s H vs Q E hr h=>?_;obtain⟨r,dx,fl,p,b,xs,stk,l,rfl,hR,hfl,ht,hok,h3,hb,hs8,hn,hno,out,q⟩:=h
 lia
theorem zVk{f1 f2 f3 f4:Addr}{fd1 fd2 fd3 fd4:FuncData}(F1:Fun K "thing_here" "Reader.thing_here" sRt f1 fd1)(F2:Fun K "holder_here" "Reader.holder_here" sRh f2 fd2)(F3:Fun K "row_here" "Reader.row_here" sRr f3 fd3)(F4:Fun K "record_here" "Reader.record_here" sRd f4 fd4)(B:Bl mg)(M:Ms mg)(R:Rc K C)(RB:Xr P w K mg base 1 "BadText" CB)(RT:Xr0 K mg "TooGreat" C2)
  (Gb:Dn P w K mg base 1 "begins_thing" ["kind","string"] zRb) (Gp:Dx nC P w K mg base 3 "plain_thing" ["kind","string"] (zUv C2)) (Dp:Dm P w K mg base 1 C "passes" ["self","kind","string"] (zPn C)) (Do:Dmx nC P w K mg base 3 C "pass_over" ["self","kind","string"] (zKc C CB)) (Dn:Dmx nC P w K mg base 3 C "name_here" ["self","record"] (zSp C CB C2))
  (m1:zIf K C "thing_here" f1) (m2:zIf K C "holder_here" f2) (m3:zIf K C "row_here" f3) (m4:zIf K C "record_here" f4) (b1:Binds K fd1 ["self","depth","crowded"] []) (b2:Binds K fd2 ["self","depth","bracket"] []) (b3:Binds K fd3 ["self","depth"] []) (b4:Binds K fd4 ["self","depth"] []):
  ∀n:Nat,FnOk P w K mg base (CXE nC P w) (4+3*n) f1 fd1 ["self","depth","crowded"] (zDm C CB C2 n)
 | 0=>yAc F1
 | n+1=>by
  have ih:Dmx nC P w K mg base (4+3*n) C "thing_here" ["self","depth","crowded"] (zDm C CB C2 n):=⟨f1,fd1,R.cls,m1,zVk F1 F2 F3 F4 B M R RB RT Gb Gp Dp Do Dn m1 m2 m3 m4 b1 b2 b3 b4 n,b1⟩;have hr:Dmx nC P w K mg base (4+3*n+1) C "row_here" ["self","depth"] (zSh C CB C2 n):=⟨f3,fd3,R.cls,m3,yBb F3 B M Dp Do ih,b3⟩;have hc:Dmx nC P w K mg base (4+3*n+1) C "record_here" ["self","depth"] (zQq C CB C2 n):=⟨f4,fd4,R.cls,m4,yAt F4 B M Dp Do Dn ih,b4⟩;have hh:Dmx nC P w K mg base (4+3*n+2) C "holder_here" ["self","depth","bracket"] (zRl C CB C2 n):=⟨f2,fd2,R.cls,m2,yBi F2 M RT hr hc,b2⟩;exact zZm F1 M R RB RT Gb Gp hh
end
end K27
namespace K27
open PySem L2 PySem.W
seal L2.PSs L2.PS L2.PE L2.PT L2.PW L2.PA L2.PI L2.PG L2.PGs L2.PPs L2.PTs
abbrev zYz:Stmt:=top 33
theorem zNa:∀(n:Nat)(r:List (Nat×Tk)),(wY n r).length=r.length
 | _,[]=>rfl
 | n,y::r=>congrArg (· +1) (zNa _ r)
section
variable{P:Program}{w:World}{K:PySem.W.Frag}{mg:Str→Option Value}{base:Heap}{f:Addr}{fd:FuncData}{C CB C2:Addr}
def strT(n:Nat):T:=.tup [.str (ts (kR 5)), .str [], .int n]
theorem scStr:zV ["text","refusal"] ["text"] (zO zYz):=by walk_at "sc"
def zTh:Sp:=fun vs H Q _=>(∃(r:List (Nat×Tk))(e:Nat),vs= [.str (tx (lay r++List.replicate e 32))]∧(∀y∈r,OkTk y.2)∧Chn r∧r.length≤1000∧(lay r++List.replicate e 32).length≤100000∧∀v H',Same H H'→Rep H' v (.lst (wY 0 r++ [endT (lay r++List.replicate e 32).length]))→Q v H')∨
 ∃(r:List (Nat×Tk))(e:Nat)(y:List Nat),vs= [.str (tx (lay r++List.replicate e 32++y))]∧(∀y∈r,OkTk y.2)∧Chn r∧r.length≤1000∧(lay r++List.replicate e 32++y).length≤100000∧BadT y∧(e=0→∀z,r.getLast? =some z→Stops z.2.1 y)∧∀v H',Same H H'→Rep H' v (.lst (wY 0 r++ [strT ((lay r).length+e)]))→Q v H'
theorem zYx(F:Fun K "tokens_to_stray" "tokens_to_stray" zYz f fd)(B:Bl mg)(hmBadText:mg "BadText" =some (.ref CB))(hxm:exmOne K (.ref CB) (.ref CB)=some true)(XGat:gR K CB)(Xfat:findIn K (.ref CB) "at" =some none)(Gtokensx:Dx nC P w K mg base 5 "tokens" ["text"] fun vs H Q E=>zKb vs H Q E∨zLr CB vs H Q E)(Gtokensh:Dh P w K mg base 4 "tokens" ["text"] zKb):FnOk P w K mg base CX0 6 f fd ["text"] zTh:=by
 refine F.ok scStr (fun vs H Q E h=>?_) (fun c A o s H vs Q E hr h=>?_)
 ·rcases h with⟨r,e,rfl,_⟩|⟨r,e,y,rfl,_⟩<;>rfl
 have nd:=scStr.nd;refine⟨_,(zG (zQe rfl rfl hmBadText nd (i:=1) rfl rfl rfl rfl rfl (fun _ _ _ _ hpa=>(zIr (zPz Gtokensx hr (by lia) rfl hpa (zA (pv 0) zE)))) (fun _ h=>h) (fun _=>(zG (zN (zI zCf (xI zGq (zYc Gtokensh rfl hr.h (by lia) rfl (zA (xI vY (pv 0) kJ (yU (zFe XGat Xfat (pv 1)))) zE)) kJ (yU (wQ xN zC))) (yF (zA (yP (zA zD (zA zD (zA (zFe XGat Xfat (pv 1)) zE)))) zE)))))))), ?_⟩;rcases h with⟨r,e,rfl,h⟩|⟨r,e,y,rfl,hok,hch,hr1,hL,hy,hyst,q⟩
 ·walk_at "st"
  unfold zXe;walk_at "rd6";exact .inl ⟨r,e,rfl,h⟩
 walk_at "st";unfold zXe zTr zJx zUl;walk_at "rd6";refine .inr ⟨r,e,y,rfl,hok,hch,hr1,hL,hy,hyst,fun d H1 g1 hd=>⟨CB,rfl,hxm,fun x o hx=>?_⟩⟩;have hdx:d≠x:=fun z=>by rw[z,hx] at hd;cases hd
 have g2:Same H1 (upd H1 x (HO.frz o (exN x CB (some d)))):=zH hx _;have hx2:upd H1 x (HO.frz o (exN x CB (some d))) x=some (HO.frz o (exN x CB (some d))):=zF;generalize upd H1 x (HO.frz o (exN x CB (some d)))=H2 at g2 hx2⊢;have hd2:=g2 _ _ hd;have hlt:(lay r++List.replicate e 32).length=(lay r).length+e:=by rw[mC,mU]
 refine⟨o,d,hx2,_,hd2,((lay r).length+e:Nat),rfl,_,rfl,by rw[zU,mJ];lia, ?_⟩;rw[zIe,yJ,←hlt,tG];refine⟨⟨o,CB,some d,hx2⟩,r,e,rfl,hok,hch,hr1,by rw[mC] at hL;lia,fun v H3 g3 hv=>?_⟩;obtain⟨fl,xs,rfl,hfl,hxs⟩:=hv;refine⟨fl,xs,rfl,SqL.of hfl,fun p4 hp4=>?_⟩;have hxl:=hxs.length;rw[mC] at hxl;have hxl:xs.length=(wY 0 r).length+1:=hxl;rw[zTf,hxl,cL];have hxs':Reps H3 (xs.take (wY 0 r).length) (wY 0 r):=by
  have:=Reps.take (wY 0 r).length hxs
  rwa [tG] at this
 have g4:Same H3 (upd H3 p4 (.lst (xs.take (wY 0 r).length))):=zH hp4 _;have h4:upd H3 p4 (.lst (xs.take (wY 0 r).length)) p4=some (.lst (xs.take (wY 0 r).length)):=zF;generalize upd H3 p4 (.lst (xs.take (wY 0 r).length))=H4 at g4 h4⊢;refine⟨o,d,g4 _ _ (g3 _ _ hx2),_,g4 _ _ (g3 _ _ hd2),((lay r).length+e:Nat),rfl,fun p5 hp5=>?_⟩;have g5:=zH hp5 (HO.tup [V.str (Str.ofString "stray"),V.str (Str.ofString ""),V.int (((lay r).length+e:Nat):Int)]);have h5:upd H4 p5 (HO.tup [V.str (Str.ofString "stray"),V.str (Str.ofString ""),V.int (((lay r).length+e:Nat):Int)]) p5=_:=zF;generalize upd H4 p5 (HO.tup [V.str (Str.ofString "stray"),V.str (Str.ofString ""),V.int (((lay r).length+e:Nat):Int)])=H5 at g5 h5⊢;intro p6 hp6;have g6:=zH hp6 (HO.lst [V.ref p5]);have h6:upd H5 p6 (HO.lst [V.ref p5]) p6=_:=zF;generalize upd H5 p6 (HO.lst [V.ref p5])=H6 at g6 h6⊢;have g46:=g5.trans g6;refine⟨p4,p6,_,_,rfl,rfl,g46 _ _ h4,h6, ?_,fun p7 hp7=>?_⟩
 ·rw[mJ,pT,zNa]
  show _+1≤_
  lia
 have g7:=zH hp7 (HO.lst (xs.take (wY 0 r).length++ [V.ref p5]));have gA:Same H3 (upd H6 p7 (HO.lst (xs.take (wY 0 r).length++ [V.ref p5]))):=g4.trans (g46.trans g7);refine q (.ref p7) _ (g1.trans (g2.trans (g3.trans gA))) ⟨p7,_,rfl,zF, ?_⟩;exact Reps.snoc (show Rep _ (.ref p5) (strT _) from⟨p5,_,rfl,(g6.trans g7) _ _ h5,zBb _ (kR 5) [] _⟩) (Reps.same gA _ _ hxs')
end
end K27
namespace K27
open PySem L2 PySem.W
seal L2.PSs L2.PS L2.PE L2.PT L2.PW L2.PA L2.PI L2.PG L2.PGs L2.PPs L2.PTs
abbrev zQw:Stmt:=top 32
def lkT(t:Lk):T:=.tup [.str (ts (kR t.k)), .str t.s, .int t.n]
def vV:Nat→List (Nat×Tk)→List Lk
 | _,[]=>[]
 | n,x::r=>⟨x.2.1,x.2.2,n+x.1⟩::vV (n+x.1+(shw x.2).length) r
theorem kR_kS{t:Tk}(h:OkTk t):kR t.1=kS t.1:=by
 obtain⟨_,⟨e,_⟩|⟨e,_⟩|⟨e,_⟩|⟨e,_⟩⟩:=h<;>rw[e]<;>rfl
theorem zDa:∀(n:Nat)(r:List (Nat×Tk)),(∀y∈r,OkTk y.2)→(vV n r).map lkT=wY n r
 | _,[],_=>rfl
 | n,x::r,h=>by
  show lkT _::(vV _ r).map lkT=tkT x.2 (n+x.1)::_;rw[zDa _ r (fun y hy=>h y (mQ _ hy))];have e:lkT ⟨x.2.1,x.2.2,n+x.1⟩=tkT x.2 (n+x.1):=by
   unfold lkT tkT;rw[kR_kS (h x mH)]
  rw[e]
theorem gQ:∀(n:Nat)(r:List (Nat×Tk)),(vV n r).length=r.length
 | _,[]=>rfl
 | n,y::r=>congrArg (· +1) (gQ _ r)
theorem zFn:∀(n:Nat)(r:List (Nat×Tk)),(∀y∈r,OkTk y.2)→OkLs (vV n r)
 | _,[],_=>fun t ht=>nomatch ht
 | n,x::r,h=>fun t ht=>by
  rcases mF.mp ht with e | ht
  ·rw[e]
   have hx:=h x mH;obtain⟨h1,h2⟩:=hx;refine⟨by show x.2.2.length≤_;lia, ?_⟩;rcases h2 with a | a | a | a
   ·exact .inl a
   ·exact .inr (.inl a)
   ·exact .inr (.inr (.inl a))
   ·exact .inr (.inr (.inr (.inl a)))
  ·exact zFn _ r (fun y hy=>h y (mQ _ hy)) t ht
theorem zWt(S:Mc){t:Lk}(ht:t.k=4∨t.k=5)(S':Mc):nxt S t.k t.s≠ .go S':=by
 have h3:t.k≠3:=by lia
 have h1:t.k≠1:=by lia
 have hb:kU t.k t.s=false:=by
  rcases ht with e | e<;>rw[e]<;>rfl
 have hT:∀st m,thg st m t.k t.s= .bad:=fun st m=>mK hb;have hN:∀ks us st m,nmd ks us st m t.k t.s= .bad:=fun ks us st m=>mK (.inl h1);have hI:∀st m,inn st m t.k t.s= .bad:=fun st m=>by
  unfold inn;split
  ·exact hN _ _ _ _
  ·exact hT _ _
 intro h;unfold nxt at h;split at h
 ·split at h<;>cases h
 ·rw[mG (fun z=>h3 z.1)] at h;cases h
 ·rw[hT] at h;cases h
 ·rw[hI] at h;cases h
 ·split at h
  ·cases h
  ·rw[mG (fun z=>h3 z.1),mG (fun z=>h3 z.1)] at h;cases h
 ·split at h
  ·cases h
  ·rw[mG (fun z=>h3 z.1),hI] at h;cases h
theorem gO{t:Lk}(ht:t.k=4∨t.k=5):∀(l:List Lk)(S:Mc),run S (l++ [t])≠ .no
 | [],S=>fun h=>by
  have e:run S [t]=(match nxt S t.k t.s with | .go S'=>run S' [] | .bad=>.bad t.n | .great=>.great | .good=>.good S.whole):=rfl
  rw[nH,e] at h
  cases hx:nxt S t.k t.s with
  | go S'=>exact zWt S ht S' hx
  | bad=>rw[hx] at h;cases h
  | great=>rw[hx] at h;cases h
  | good=>rw[hx] at h;cases h
 | u::l,S=>fun h=>by
  have e:run S (u::l++ [t])=(match nxt S u.k u.s with | .go S'=>run S' (l++ [t])| .bad=>.bad u.n | .great=>.great | .good=>.good S.whole):=rfl
  rw[e] at h
  cases hx:nxt S u.k u.s with
  | go S'=>rw[hx] at h;exact gO ht l S' h
  | bad=>rw[hx] at h;cases h
  | great=>rw[hx] at h;cases h
  | good=>rw[hx] at h;cases h
theorem lk_of{H:Hp}{xs:List V}{l:List Lk}(h:Reps H xs (l.map lkT)):Lka H xs 0 l:=fun i t ht=>by
 rw[rX];have hl:=h.length;rw[mZ] at hl;obtain⟨hlt,_⟩:=nG.mp ht;have hx:xs[i]? =some xs[i]:=by simp[show i<xs.length by lia]
 obtain⟨u,hu,hr⟩:=h.get hx;rw[pP,ht] at hu;cases hu;obtain⟨a,ys,e,ha,hy⟩:=hr;obtain⟨v1,r1,rfl,h1,hr1⟩:=hy;obtain⟨v2,r2,rfl,h2,hr2⟩:=hr1;obtain⟨v3,r3,rfl,h3,hr3⟩:=hr2;have e1:v1= .str (tx (ts (kR t.k))):=h1;have e2:v2= .str (tx t.s):=h2;have e3:v3= .int t.n:=h3;have e4:r3= []:=hr3;subst e1 e2 e3 e4;rw[vH] at ha;exact⟨a,by rw[hx,e],ha⟩
def Src(L:List Nat)(l:List Lk):Prop:=(∃(r:List (Nat×Tk))(e:Nat),L=lay r++List.replicate e 32∧(∀y∈r,OkTk y.2)∧Chn r∧r.length≤1000∧l=vV 0 r++ [⟨4,[],L.length⟩])∨
 ∃(r:List (Nat×Tk))(e:Nat)(y:List Nat),L=lay r++List.replicate e 32++y∧(∀y∈r,OkTk y.2)∧Chn r∧r.length≤1000∧BadT y∧(e=0→∀z,r.getLast? =some z→Stops z.2.1 y)∧l=vV 0 r++ [⟨5,[],(lay r).length+e⟩]
theorem Src.no{L:List Nat}{l:List Lk}(h:Src L l)(S:Mc):run S l≠ .no:=by
 rcases h with⟨r,e,_,_,_,_,rfl⟩|⟨r,e,y,_,_,_,_,_,_,rfl⟩
 ·exact gO (.inl rfl) _ _
 ·exact gO (.inr rfl) _ _
theorem Src.oks{L:List Nat}{l:List Lk}(h:Src L l):OkLs l∧l.length≤1001:=by
 rcases h with⟨r,e,_,hok,_,hr,rfl⟩|⟨r,e,y,_,hok,_,hr,_,_,rfl⟩
 ·refine⟨fun t ht=>(pA.mp ht).elim (zFn 0 r hok t) fun ht=>?_,by rw[mC,gQ];show _+1≤_;lia⟩
  rw[mS.mp ht];exact⟨by show 0≤_;lia, .inr (.inr (.inr (.inr (.inl ⟨rfl,rfl⟩))))⟩
 ·refine⟨fun t ht=>(pA.mp ht).elim (zFn 0 r hok t) fun ht=>?_,by rw[mC,gQ];show _+1≤_;lia⟩
  rw[mS.mp ht];exact⟨by show 0≤_;lia, .inr (.inr (.inr (.inr (.inr rfl))))⟩
theorem zYl{L:List Nat}{l:List Lk}{H:Hp}{Q:VK}{E:XK}(hs:Src L l)(hL:L.length≤100000)(key:∀v H1,Same H H1→Rep H1 v (.lst (l.map lkT))→Q v H1):zTh [.str (tx L)] H Q E:=by
 rcases hs with⟨r,e,rfl,hok,hch,hr,rfl⟩|⟨r,e,y,rfl,hok,hch,hr,hy,hst,rfl⟩
 ·exact .inl ⟨r,e,rfl,hok,hch,hr,hL,fun v H1 g1 hv=>key v H1 g1 (by rw[pK,zDa 0 r hok];exact hv)⟩
 ·exact .inr ⟨r,e,y,rfl,hok,hch,hr,hL,hy,hst,fun v H1 g1 hv=>key v H1 g1 (by rw[pK,zDa 0 r hok];exact hv)⟩
structure Out0(CB C2:Addr)(H:Hp)(Q:VK)(E:XK)(R:Res):Prop where
 bad:∀n,R= .bad n→XBad CB n H E
 great:R= .great→XGr C2 H E
 good:∀t,R= .good t→∀v H',Same H H'→Rep (qV H H') v t→Q v H'
section
variable{P:Program}{w:World}{K:PySem.W.Frag}{mg:Str→Option Value}{base:Heap}{f:Addr}{fd:FuncData}{C CB C2:Addr}
def zPv(CB C2:Addr):Sp:=fun vs H Q E=>∃(L:List Nat)(l:List Lk),vs= [.str (tx L)]∧Src L l∧L.length≤100000∧Out0 CB C2 H Q E (if 20000<L.length then .great else gS [] 0 l)
theorem scRead:zV ["text","reader","thing"] ["text"] (zO zQw):=by walk_at "sc"
theorem zWe(F:Fun K "read" "read" zQw f fd)(B:Bl mg)(M:Ms mg)(RTooGreat:Xr0 K mg "TooGreat" C2)(Gtokens_to_stray:Dn P w K mg base 6 "tokens_to_stray" ["text"] zTh)(DReader:Dk P w K mg base 1 "Reader" C ["self","found"] (yAe C))(Dthing_herex:Dmx nC P w K mg base (4+3*9) C "thing_here" ["self","depth","crowded"] (zDm C CB C2 9))(Dpass_overx:Dmx nC P w K mg base 3 C "pass_over" ["self","kind","string"] (zKc C CB)):FnOk P w K mg base (CXE nC P w) (4+3*9+1) f fd ["text"] (zPv CB C2):=by
 refine F.okx scRead (by walk_at "ln") fun c A o s H vs Q E hr h=>?_;obtain⟨L,l,rfl,hs,hL,out⟩:=h;have nd:=scRead.nd;refine⟨_,(zB (zR (zK qH (zP yG rfl B.len yK (zA (pv 0) zE)) (qX rfl M.MOST_SIGNS) (zJ _)) (zG (vN RTooGreat rfl rfl lvs (zA zD zE))) zM)
  (zB (pS 1 nd (pe_mk DReader hr (by lia) rfl (zA (pD Gtokens_to_stray hr (zA (pv 0) zE)) zE)))
  (zB (pS 2 nd (qA Dthing_herex hr (by lia) (pv 1) lvs (zA zC (zA qW zE))))
  (zB (yY (qA Dpass_overx hr (by lia) (pv 1) lvs (zA zD (zA zD zE))))
  (zG (zN (pv 2))))))), ?_⟩
 walk_at "st";unfold qS;walk_at "rd6";have hln:(tx L).length=L.length:=zU _;refine⟨by rw[hln];lia, ?_⟩
 by_cases h2:20000<L.length
 ·rw[mK h2] at out
  exact iP (by rw[hln];lia) (out.great rfl H (Same.refl _))
 rw[mG h2] at out;refine iN (by rw[hln];lia) ?_;have hno:=hs.no ⟨[], .thing,0, .non⟩;obtain⟨hok,hl1⟩:=hs.oks;refine zYl hs hL fun v H1 g1 hv=>?_;obtain⟨fl,xs,rfl,hfl,hxs⟩:=hv;intro r dx hr0 hdx0 hne;refine⟨r,dx,fl,rfl,zF,rfl, ?_⟩;have hbig:∀b o,H1 b=some o→(upd (upd (upd (upd (upd H1 dx (HO.own r)) r (HO.ins C dx [])) r (.ins C dx [("found", .ref fl)])) r (.ins C dx [("found", .ref fl),("place", .int 0)])) r (rO C dx fl 0 0)) b=some o:=fun b o eb=>by
  have n1:b≠r:=fun z=>by rw[z,hr0] at eb;cases eb
  have n2:b≠dx:=fun z=>by rw[z,hdx0] at eb;cases eb
  rw[zL n1,zL n1,zL n1,zL n1,zL n2];exact eb
 have hR2:(upd (upd (upd (upd (upd H1 dx (HO.own r)) r (HO.ins C dx [])) r (.ins C dx [("found", .ref fl)])) r (.ins C dx [("found", .ref fl),("place", .int 0)])) r (rO C dx fl 0 0)) r=some (rO C dx fl 0 0):=zF;generalize upd (upd (upd (upd (upd H1 dx (HO.own r)) r (HO.ins C dx [])) r (.ins C dx [("found", .ref fl)])) r (.ins C dx [("found", .ref fl),("place", .int 0)])) r (rO C dx fl 0 0)=H2 at hbig hR2⊢;have g12:Same H1 H2:=hbig;have hxs2:=Reps.same g12 _ _ hxs;have hr:∀b o,H b=some o→b≠r:=fun b o eb z=>by
  have:=g1 b o eb;rw[z,hr0] at this;cases this
 have sam:∀H3,Rm r H2 H3→Same H H3:=fun H3 g3 b o eb=>g3.same b o (hr b o eb) (g12 _ _ (g1 _ _ eb));have outB:∀n,gS [] 0 l= .bad n→XB CB r n H2 E:=fun n e d H' g' hd=>out.bad n e d H' (sam H' g') hd;refine⟨dx,_,hR2,qF (by decide+kernel) (by decide+kernel) (by decide+kernel),r,dx,fl,0,0,xs,[],l,rfl,hR2,g12 _ _ hfl,lk_of hxs2,hok,by lia,by lia,by decide,by decide,hno,⟨outB,fun e H' g'=>out.great e H' (sam H' g')⟩, ?_⟩;intro v H3 t l' p' b' hd hR3 g3 ht3 hok3 hb3 hl3 hv3;refine⟨dx,_,hR3,qF (by decide+kernel) (by decide+kernel) (by decide+kernel), ?_⟩
 cases l' with
 | nil=>exact absurd hd.symm hno
 | cons t1 l1=>
 have ce:(kR t1.k=Str.ofString "end"∧tx t1.s=Str.ofString "")↔t1.k=4:=by
  constructor
  ·rintro⟨z,_⟩
   exact(zAk hok3.head (j:=4) (by decide)).mp z
  ·intro z
   refine⟨by rw[z];rfl, ?_⟩;obtain⟨_,⟨e,_⟩|⟨e,_⟩|⟨e,_⟩|⟨e,_⟩|⟨_,e⟩| e⟩:=hok3.head
   ·lia
   ·lia
   ·lia
   ·lia
   ·rw[e];rfl
   ·lia
 refine⟨r,dx,fl,p',b',xs,_,_,t1,rfl,hR3,vF hR2 g3 (g12 _ _ hfl),ht3.head,fun z=>?_,fun z=>?_⟩
 ·have e:gS [] 0 l= .good t:=by
   rw[←hd];exact zIq (S:=xF [] b' t) (mK (ce.mp z))
  have g4:=g3.trans (Rm.put hR3 (rO C dx fl (p'+1) b'));refine out.good t e v _ (sam _ g4) (Rep.same (fun b o eb=>?_) _ _ hv3);have h2:=kC eb;rw[qJ h2] at eb;have h1:H b=none:=zEn (g1.trans g12) h2;have hbr:b≠r:=fun z=>by rw[z,hR2] at h2;cases h2
  rw[qJ h1,zL hbr];exact eb
 ·refine(outB t1.n ?_).rm g3
  rw[←hd];exact vK (S:=xF [] b' t) (mG fun y=>z (ce.mpr y))
end
end K27
namespace K27
open PySem L2 PySem.W
seal L2.PSs L2.PS L2.PE L2.PT L2.PW L2.PA L2.PI L2.PG L2.PGs L2.PPs L2.PTs
abbrev sLb:Stmt:=top 50
abbrev sLy:Stmt:=top 51
abbrev sLv:Stmt:=top 52
theorem zMu(d:Nat)(r:List Nat):NumText.digitsVal (d::r)=(d - 48)*10 ^ r.length+NumText.digitsVal r:=by
 refine zDc (P:=fun r=>NumText.digitsVal (d::r)=(d - 48)*10 ^ r.length+NumText.digitsVal r) ?_ (fun r c ih=>?_) r
 ·show 0*10+(d - 48)=(d - 48)*1+0;lia
 ·rw[←nU,zAw,zAw,ih,mC,pO,Nat.pow_succ,Nat.add_mul,Nat.mul_assoc,Nat.add_assoc]
theorem zUb:∀r:List Nat,(∀c∈r,48≤c)→(List.replicate r.length 48<r↔0<NumText.digitsVal r)
 | [],_=>by
  constructor
  ·intro h;cases h
  ·intro h;exact absurd h (by decide)
 | c::r,h=>by
  rw[zMu,mE,pU,List.cons_lt_cons_iff,zUb r fun c hc=>h c (mQ _ hc)];have h1:=h c mH;have hp:0<10 ^ r.length:=Nat.pow_pos (by decide);constructor
  ·rintro(h2 |⟨_,h2⟩)
   ·have:1*10 ^ r.length≤(c - 48)*10 ^ r.length:=bU _ (by lia)
    lia
   ·lia
  ·intro h2
   by_cases h3:c=48
   ·refine .inr ⟨h3.symm, ?_⟩
    rw[h3,tY,Nat.zero_mul] at h2
    lia
   ·exact .inl (by lia)
theorem dv_13{d:Nat}{r:List Nat}(hd:49≤d)(hr:∀c∈r,48≤c)(hl:r.length=12):(49::List.replicate 12 48<d::r)↔10 ^ 12<NumText.digitsVal (d::r):=by
 have h:=zUb r hr;rw[hl] at h;rw[zMu,hl,List.cons_lt_cons_iff,h];constructor
 ·rintro(h2 |⟨h2,h3⟩)
  ·have:2*10 ^ 12≤(d - 48)*10 ^ 12:=bU _ (by lia)
   lia
  ·rw[←h2];lia
 ·intro h2
  by_cases h3:d=49
  ·refine .inr ⟨h3.symm, ?_⟩
   rw[h3] at h2
   lia
  ·exact .inl (by lia)
section
variable{P:Program}{w:World}{K:PySem.W.Frag}{mg:Str→Option Value}{base:Heap}{f:Addr}{fd:FuncData}
def spLb:Sp:=fun vs H Q _=>∃t:Lk,vs= [.str (kR t.k), .str (tx t.s)]∧OkL t∧t.k≠5∧∀H',Same H H'→Q (.bl (kU t.k t.s)) H'
theorem scLb:zV ["_law_kind","_law_string"] ["_law_kind","_law_string"] (zO sLb):=by walk_at "sc"
theorem ok_lb(F:Fun K "_law_begins" "_law_begins" sLb f fd)(B:Bl mg)(M:Ms mg):FnOk P w K mg base CX0 1 f fd ["_law_kind","_law_string"] spLb:=by
 refine F.ok scLb (by walk_at "ln") fun c A o s H vs Q E hr h=>?_;obtain⟨⟨k,z,n⟩,rfl,⟨hlen,hz⟩,h5,q⟩:=h;have nd:=scLb.nd;have hu:=kF hr;dsimp only at hz q hlen h5;refine⟨_,(zB (zR (zK zS (pv 0) zD (zJ _)) (zG (zN (zAo (yA zS (pv 1) zD (zJ _)) (zAo (yA vC (zQ xK (pv 1) zC (fun _ _=>rfl)) zD (by with_unfolding_all rfl)) (xL (wI (yA zS (zQ xK (pv 1) zC (fun _ _=>rfl)) zD (zJ _)) (xL (yA vE (zQ xK (pv 1) zC (fun _ _=>rfl)) zD (zJ _))))))))) zM)
  (zB (zR (zK zS (pv 0) zD (zJ _)) (zG (zN (yA zEg (pv 1) (yF (zA zD (zA zD (zA zD zE)))) (by with_unfolding_all rfl)))) zM)
  (zG (zN (zAo (yA zS (pv 0) zD (zJ _)) (xL (wI (yA zS (pv 0) zD (zJ _)) (xL (yA vC (pv 1) zD (by with_unfolding_all rfl)))))))))), ?_⟩
 walk_at "st";walk_at "rd6";rcases hz with⟨rfl,hz⟩|⟨rfl,hz⟩|⟨rfl,hz⟩|⟨rfl,c,rfl,hc⟩|⟨rfl,rfl⟩| rfl
 ·obtain⟨fs,hf,hc,e0,hs⟩:=vO hz
  refine iP rfl ?_;have eb:kU 0 z=zCo z:=rfl;rw[eb] at q;unfold zCo at q;rw[e0] at q;have hsz:(tx z).length≤16777216:=by rw[zU];lia
  by_cases h0:z= [48]
  ·refine iP (by rw[h0];rfl) ?_
   rw[nB h0,aO] at q;exact q _ (Same.refl _)
  rw[mM h0,tM] at q;refine iN (fun y=>h0 (by have:=congrArg ts y;rw[yJ] at this;exact this)) ?_
  cases fs with
  | nil=>exact absurd rfl hf
  | cons d r=>
  have hd:=hc d mH;have e9:∀c:Nat,c∈ts (Str.ofString "123456789")↔49≤c∧c≤57:=fun c=>by
   rw[show ts (Str.ofString "123456789")= [49,50,51,52,53,54,55,56,57] from rfl];simp only[mF,nP,rD];omega
  have eh:(!decide ((d::r).head? =some 48))= !decide (d=48):=by simp
  rw[eh] at q;rcases hs with⟨rfl,_⟩|⟨rfl,_⟩
  ·refine xA (by rw[mJ];exact hsz) (yE (j:=0) (show(d::r)[0]? =some d from rfl)) ⟨d,rfl, ?_⟩
   by_cases h48:d=48
   ·refine iN (fun y=>by have:=(e9 d).mp y;lia) (xA (by rw[mJ];exact hsz) (yE (j:=0) (show(d::r)[0]? =some d from rfl)) ⟨rfl,iN (fun y=>?_) ?_⟩)
    ·have:=congrArg ts (V.str.inj y)
     have: [d]= [45]:=this;simp at this
     lia
    ·rw[nB h48] at q
     exact q _ (Same.refl _)
   ·refine iP ((e9 d).mpr (by lia)) ?_
    rw[mM h48] at q;exact q _ (Same.refl _)
  ·refine xA (by rw[mJ];exact hsz) (yE (j:=0) (show(45::d::r)[0]? =some 45 from rfl)) ⟨45,rfl,iN (fun y=>by have:=(e9 45).mp y;lia) (xA (by rw[mJ];exact hsz) (yE (j:=0) (show(45::d::r)[0]? =some 45 from rfl)) ⟨rfl,iP rfl (xA (by rw[mJ];exact hsz) (yE (j:=1) (show(45::d::r)[1]? =some d from rfl)) ⟨rfl, ?_⟩)⟩)⟩
   have:decide (V.str (tx [d])=V.str (Str.ofString "0"))=decide (d=48):=pL.mpr ⟨fun y=>by
    have:=congrArg ts (V.str.inj y);have: [d]= [48]:=this
    simpa using this,fun y=>by rw[y];rfl⟩
   rw[←this] at q;exact q _ (Same.refl _)
 ·refine iN (by decide+kernel) (iP rfl fun p hp=>⟨p,_,rfl, .inl (SqL.of zF),rfl,rfl, ?_⟩)
  have e:kU 1 z=inV (V.str (tx z)) [V.str (Str.ofString "none"),V.str (Str.ofString "yes"),V.str (Str.ofString "no")]:=by
   have ez:∀u:Str,(V.str (tx z)=V.str u)↔z=ts u:=fun u=>⟨fun y=>by rw[←V.str.inj y,yJ],fun y=>by rw[y,vH]⟩;show decide (z=zEe∨z=zOs∨z=wNo)=_;show _=(decide (Str.ofString "none" =tx z)||(decide (Str.ofString "yes" =tx z)||(decide (Str.ofString "no" =tx z)|| false)))
   have e2:∀u:Str,decide (u=tx z)=decide (z=ts u):=fun u=>pL.mpr ⟨fun y=>by rw[y,yJ],fun y=>by rw[y,vH]⟩;rw[e2,e2,e2,bE,Bool.decide_or,Bool.decide_or]
   rfl
  rw[e] at q;exact q _ (zH hp _)
 ·exact iN (show¬kS 2=Str.ofString "number" by decide+kernel) (iN (show¬kS 2=Str.ofString "word" by decide+kernel) (iP rfl (q _ (Same.refl _))))
 ·refine iN (show¬kS 3=Str.ofString "number" by decide+kernel) (iN (show¬kS 3=Str.ofString "word" by decide+kernel) (iN (show¬kS 3=Str.ofString "text" by decide+kernel) (iP rfl ⟨c,rfl, ?_⟩)))
  have e:kU 3 [c]=decide (c∈ts (Str.ofString "[{")):=by
   show decide ([c]= [91]∨ [c]= [123])=_;rw[show ts (Str.ofString "[{")= [91,123] from rfl];exact pL.mpr (by simp)
  rw[e] at q;exact q _ (Same.refl _)
 ·exact iN (show¬kR 4=Str.ofString "number" by decide+kernel) (iN (show¬kR 4=Str.ofString "word" by decide+kernel) (iN (show¬kR 4=Str.ofString "text" by decide+kernel) (iN (show¬kR 4=Str.ofString "mark" by decide+kernel) (q _ (Same.refl _)))))
 ·exact absurd rfl h5
def spLy:Sp:=fun vs H Q _=>∃(t:Lk)(d:Nat),vs= [.str (kR t.k), .str (tx t.s), .int d]∧OkL t∧t.k≠5∧kU t.k t.s=true∧Q (.bl (decide (t.k=3∧d=8)|| qQ t.k t.s)) H
theorem scLy:zV ["_law_kind","_law_string","_law_deep","_law_size"] ["_law_kind","_law_string","_law_deep"] (zO sLy):=by walk_at "sc"
theorem ok_ly(F:Fun K "_law_beyond" "_law_beyond" sLy f fd)(B:Bl mg)(M:Ms mg):FnOk P w K mg base CX0 1 f fd ["_law_kind","_law_string","_law_deep"] spLy:=by
 refine F.ok scLy (by walk_at "ln") fun c A o s H vs Q E hr h=>?_;obtain⟨⟨k,z,n⟩,d,rfl,⟨hlen,hz⟩,h5,hb,q⟩:=h;have nd:=scLy.nd;dsimp only at hz q hlen h5 hb;refine⟨_,(zB (zR (zK zS (pv 0) zD (zJ _)) (zB (pS 3 nd (xI vY (pv 1) (yU (yM yZ rfl B.int xO (zA (yA zS (zQ xK (pv 1) zC (fun _ _=>rfl)) zD (zJ _)) zE))) kJ))
  (zG (zN (zAo (yA qH (zP yG rfl B.len yK (zA (pv 3) zE)) zC (zJ _)) (xL (wI (yA zS (zP yG rfl B.len yK (zA (pv 3) zE)) zC (zJ _)) (xL (yA zOr (pv 3) zD (zJ _))))))))) zM)
  (zB (zR (zK zS (pv 0) zD (zJ _)) (zG (zN (yA qH (zP yG rfl B.len yK (zA (pv 1) zE)) zC (zJ _)))) zM)
  (zG (zN (wI (yA zS (pv 0) zD (zJ _)) (xL (yA zS (pv 2) zC (zJ _)))))))), ?_⟩
 walk_at "st";walk_at "rd6";rcases hz with⟨rfl,hz⟩|⟨rfl,hz⟩|⟨rfl,hz⟩|⟨rfl,c,rfl,hc⟩|⟨rfl,rfl⟩| rfl
 ·have ha:=zMs hz
  obtain⟨fs,hf,hc,e0,hs⟩:=vO hz;have hsz:(tx z).length≤16777216:=by rw[zU];lia
  have eq:(decide (0=3∧d=8)|| qQ 0 z)=decide (10 ^ 12<NumText.digitsVal fs):=by
   rw[mM (show¬(0=3∧d=8) from fun y=>absurd y.1 (by decide)),tM];show decide (10 ^ 12<(gP z).natAbs)=_;rw[ha,e0]
  rw[eq] at q;have hfl:fs.length≤z.length:=by
   rcases hs with⟨h,_⟩|⟨h,_⟩
   ·rw[h];exact mL _
   ·rw[h];exact tS _
  have head:∀d r,fs=d::r→r≠ []→49≤d:=fun d r e hr=>by
   have h1:=hc d (by rw[e];exact mH);have:d≠48:=fun y=>by
    have hb:zCo z=true:=hb;unfold zCo at hb;rw[e0,e,y] at hb;have h0:z≠ [48]:=fun y2=>by
     rcases hs with⟨h,_⟩|⟨h,_⟩
     ·rw[h,e] at y2
      simp at y2;exact hr y2.2
     ·rw[h] at y2
      simp at y2
    rw[mM h0] at hb;simp at hb
   lia
  have key:∀i:Nat,z.drop i=fs→rSlS (V.str (tx z)) (some (i:Int)) none H fun x H1=>∃z,x=V.str z∧z.length≤16777216∧if 13<(z.length:Int) then Q (V.bl true) H1 else∃z,x=V.str z∧z.length≤16777216∧if(z.length:Int)=13 then∃i,x=V.str i∧Q (V.bl (decide ((Str.ofString "1000000000000").cps.toList<i.cps.toList))) H1 else Q (V.bl false) H1:=fun i hi=>by
   refine⟨_,rfl,by rw[mJ];exact hsz, ?_⟩;rw[zLk,yJ,hi];have hl:(tx fs).length=fs.length:=zU _;refine⟨tx fs,rfl,by rw[hl];lia, ?_⟩;rw[hl]
   by_cases h13:13<fs.length
   ·refine iP (by lia) ?_
    cases fs with
    | nil=>exact absurd rfl hf
    | cons d r=>
     rw[mE] at h13;have h1:=head d r rfl (fun y=>by rw[y] at h13;simp at h13);have h2:=zQx h1 r;have h3:10 ^ 13≤10 ^ r.length:=tD (by decide) (by lia);rw[nB (by lia)] at q;exact q
   refine iN (by lia) ⟨tx fs,rfl,by rw[hl];lia, ?_⟩;rw[hl]
   by_cases he:fs.length=13
   ·refine iP (by lia) ⟨_,rfl, ?_⟩
    cases fs with
    | nil=>exact absurd rfl hf
    | cons d r=>
     rw[mE] at he;have h1:=head d r rfl (fun y=>by rw[y] at he;simp at he);rw[pL.mpr (dv_13 h1 (fun c h=>(hc c (mQ _ h)).1) (by lia)).symm] at q;exact q
   ·refine iN (by lia) ?_
    have h1:=zXf fs fun c h=>(hc c h).2;have h2:10 ^ fs.length≤10 ^ 12:=tD (by decide) (by lia);rw[mM (by lia)] at q;exact q
  cases fs with
  | nil=>exact absurd rfl hf
  | cons d r=>
  have hd:=hc d mH;rcases hs with⟨rfl,_⟩|⟨rfl,_⟩
  ·refine iP rfl (xA (by rw[mJ];exact hsz) (yE (j:=0) (show(d::r)[0]? =some d from rfl)) ⟨rfl, ?_⟩)
   rw[mG (fun y=>by
    have:=congrArg ts (V.str.inj y);have: [d]= [45]:=this;simp at this
    lia)]
   exact key 0 rfl
  ·refine iP rfl (xA (by rw[mJ];exact hsz) (yE (j:=0) (show(45::d::r)[0]? =some 45 from rfl)) ⟨rfl, ?_⟩)
   rw[mK (show V.str (tx [45])=V.str (Str.ofString "-") from rfl)];exact key 1 rfl
 ·have e:(decide (1=3∧d=8)|| qQ 1 z)=false:=by
   rw[mM (show¬(1=3∧d=8) from fun y=>absurd y.1 (by decide))];rfl
  rw[e] at q;exact iN (by decide+kernel) (iN (by decide+kernel) (iN (by decide+kernel) q))
 ·have e:(decide (2=3∧d=8)|| qQ 2 z)=decide (30<((tx z).length:Int)):=by
   rw[mM (show¬(2=3∧d=8) from fun y=>absurd y.1 (by decide)),zU];exact pL.mpr (by lia)
  rw[e] at q;exact iN (show¬kS 2=Str.ofString "number" by decide+kernel) (iP rfl ⟨by rw[zU];lia,q⟩)
 ·have e:(decide (3=3∧d=8)|| qQ 3 [c])=decide ((d:Int)=8):=by
   rw[show qQ 3 [c]=false from rfl,bE];exact pL.mpr (by lia)
  rw[e] at q;exact iN (show¬kS 3=Str.ofString "number" by decide+kernel) (iN (show¬kS 3=Str.ofString "text" by decide+kernel) (iP rfl q))
 ·cases hb
 ·cases hb
def spLv:Sp:=fun vs H Q _=>∃t:Lk,vs= [.str (kR t.k), .str (tx t.s)]∧OkL t∧kU t.k t.s=true∧qQ t.k t.s=false∧t.k≠5∧(t.k≠3→∀v H',Same H H'→(∀Hx,Rep Hx v (vS t.k t.s))→Q v H')∧(t.k=3→∀a H',Same H H'→H a=none→H' a=some (if t.s= [91] then .lst [] else .dK [])→Q (.ref a) H')
theorem scLv:zV ["_law_kind","_law_string"] ["_law_kind","_law_string"] (zO sLv):=by walk_at "sc"
theorem ok_lv(F:Fun K "_law_value" "_law_value" sLv f fd)(B:Bl mg)(M:Ms mg):FnOk P w K mg base CX0 1 f fd ["_law_kind","_law_string"] spLv:=by
 refine F.ok scLv (by walk_at "ln") fun c A o s H vs Q E hr h=>?_;obtain⟨⟨k,z,n⟩,rfl,⟨hlen,hz⟩,hb,hy,h5,q,q3⟩:=h;have nd:=scLv.nd;have hu:=kF hr;dsimp only at hz q hlen h5 hb hy q3;refine⟨_,(zB (zR (zK zS (pv 0) zD (zJ _)) (zG (zN (yM uE rfl B.int xO (zA (pv 1) zE)))) zM)
  (zB (zR (zK zS (pv 0) zD (zJ _)) (zG (zN (pv 1))) zM)
  (zB (zR (zK zS (pv 0) zD (zJ _)) (zG (zN (zQ zX (yF (zA jC (zA qW (zA qW zE)))) (xQ nN PySem.F.slot_list_index PySem.F.type_list_index zPt (yF (zA zD (zA zD (zA zD zE)))) (zA (pv 1) zE)) (fun _ _=>rfl)))) zM)
  (zG (zN (zQ zX (yF (zA (yF zE) (zA zJn zE))) (yM yZ rfl B.int xO (zA (yA zS (pv 1) zD (zJ _)) zE)) (fun _ _=>rfl))))))), ?_⟩
 walk_at "st";walk_at "rd6";rcases hz with⟨rfl,hz⟩|⟨rfl,hz⟩|⟨rfl,hz⟩|⟨rfl,c,rfl,hc⟩|⟨rfl,rfl⟩| rfl
 ·have h14:z.length≤14:=by
   refine Nat.le_of_not_lt fun y=>?_;rw[zJr hz hb y] at hy;cases hy
  exact iP rfl ⟨gP z,zEl hz (by lia),by rw[zU];lia,q (by decide) _ _ (Same.refl _) fun _=>rfl⟩
 ·refine iN (by decide+kernel) (iN (by decide+kernel) (iP rfl fun p hp p1 hp1=>?_))
  have g1:=zH hp (HO.lst [V.non,V.bl true,V.bl false]);have h1:upd H p (HO.lst [V.non,V.bl true,V.bl false]) p=_:=zF;generalize upd H p (HO.lst [V.non,V.bl true,V.bl false])=H1 at g1 h1 hp1⊢;have g2:=zH hp1 (HO.lst [V.str (Str.ofString "none"),V.str (Str.ofString "yes"),V.str (Str.ofString "no")]);have h2:upd H1 p1 (HO.lst [V.str (Str.ofString "none"),V.str (Str.ofString "yes"),V.str (Str.ofString "no")]) p1=_:=zF;generalize upd H1 p1 (HO.lst [V.str (Str.ofString "none"),V.str (Str.ofString "yes"),V.str (Str.ofString "no")])=H2 at g2 h2⊢;have h12:=g2 _ _ h1;have g:=g1.trans g2;refine⟨.inl ⟨rfl,_,SqL.of h2⟩, ?_⟩;have hw:z=zEe∨z=zOs∨z=wNo:=tT hb;rcases hw with rfl | rfl | rfl
  ·exact⟨p1,[Str.ofString "none",Str.ofString "yes",Str.ofString "no"],Str.ofString "none",0,rfl,rfl,SqL.of h2,rfl,fun i hi=>absurd hi (cY _),by lia,zW (SqL.of h12) (v:=.non) rfl (q (by decide) .non _ g fun _=>rfl)⟩
  ·refine⟨p1,[Str.ofString "none",Str.ofString "yes",Str.ofString "no"],Str.ofString "yes",1,rfl,rfl,SqL.of h2,rfl,fun i hi=>?_,by lia,zW (SqL.of h12) (v:=.bl true) rfl (q (by decide) (.bl true) _ g fun _=>by show V.bl true=V.bl true;rfl)⟩
   obtain rfl:i=0:=by lia
   decide+kernel
  ·refine⟨p1,[Str.ofString "none",Str.ofString "yes",Str.ofString "no"],Str.ofString "no",2,rfl,rfl,SqL.of h2,rfl,fun i hi=>?_,by lia,zW (SqL.of h12) (v:=.bl false) rfl (q (by decide) (.bl false) _ g fun _=>by show V.bl false=V.bl false;rfl)⟩
   rcases(show i=0∨i=1 by lia) with rfl | rfl<;>decide+kernel
 ·exact iN (show¬kS 2=Str.ofString "number" by decide+kernel) (iP rfl (q (by decide) _ _ (Same.refl _) fun _=>rfl))
 ·refine iN (show¬kS 3=Str.ofString "number" by decide+kernel) (iN (show¬kS 3=Str.ofString "text" by decide+kernel) (iN (show¬kS 3=Str.ofString "word" by decide+kernel) fun p hp p1 hp1 p2 hp2=>?_))
  have q3:=q3 rfl;have n1:p1≠p:=fun y=>by rw[y,zF] at hp1;cases hp1
  have hp1':H p1=none:=by rw[zL n1] at hp1;exact hp1
  have n2:p2≠p1:=fun y=>by rw[y,zF] at hp2;cases hp2
  have n3:p2≠p:=fun y=>by rw[y,zL (Ne.symm n1),zF] at hp2;cases hp2
  have g:=(zH hp (HO.lst [])).trans ((zH hp1 (HO.dK [])).trans (zH hp2 (HO.lst [V.ref p,V.ref p1])));have hz: [c]= [91]∨ [c]= [123]:=tT hb;rcases hz with e | e
  ·obtain rfl:c=91:=by simpa using e
   rw[mG (show¬tx [91]=Str.ofString "{" by decide+kernel)];exact zW (SqL.of zF) (v:=.ref p) rfl (q3 p _ g hp (by rw[zL (Ne.symm n3),zL (Ne.symm n1),zF];rfl))
  ·obtain rfl:c=123:=by simpa using e
   rw[mK (show tx [123]=Str.ofString "{" by decide+kernel)];exact zW (SqL.of zF) (v:=.ref p1) rfl (q3 p1 _ g hp1' (by rw[zL (Ne.symm n2),zF];rfl))
 ·cases hb
 ·cases hb
end
end K27
namespace K27
open PySem L2 PySem.W
def duS:Du→Str
 | .thing=>Str.ofString "thing"
 | .first=>Str.ofString "first"
 | .behind=>Str.ofString "behind"
 | .more=>Str.ofString "more"
 | .colon=>Str.ofString "colon"
 | .done=>Str.ofString "end"
def Fr.nm:Fr→List Nat
 | .row _=>[]
 | .rcd _ _ nm=>nm
def kOf(s:Str):Key:=Sum.inr s
def stK(o nn:Addr)(du m wv:V):List (Key×V):=[(kOf (Str.ofString "open"), .ref o),(kOf (Str.ofString "names"), .ref nn),(kOf (Str.ofString "due"),du),(kOf (Str.ofString "many"),m),(kOf (Str.ofString "whole"),wv)]
theorem uS:¬kOf (Str.ofString "open")=kOf (Str.ofString "names"):=by decide+kernel
theorem gJ:¬kOf (Str.ofString "open")=kOf (Str.ofString "due"):=by decide+kernel
theorem jU:¬kOf (Str.ofString "open")=kOf (Str.ofString "many"):=by decide+kernel
theorem qY:¬kOf (Str.ofString "open")=kOf (Str.ofString "whole"):=by decide+kernel
theorem jY:¬kOf (Str.ofString "names")=kOf (Str.ofString "due"):=by decide+kernel
theorem jJ:¬kOf (Str.ofString "names")=kOf (Str.ofString "many"):=by decide+kernel
theorem qL:¬kOf (Str.ofString "names")=kOf (Str.ofString "whole"):=by decide+kernel
theorem gN:¬kOf (Str.ofString "due")=kOf (Str.ofString "many"):=by decide+kernel
theorem jT:¬kOf (Str.ofString "due")=kOf (Str.ofString "whole"):=by decide+kernel
theorem zKm:¬kOf (Str.ofString "many")=kOf (Str.ofString "due"):=by decide+kernel
theorem jF:¬kOf (Str.ofString "many")=kOf (Str.ofString "whole"):=by decide+kernel
theorem zJi:¬kOf (Str.ofString "whole")=kOf (Str.ofString "due"):=by decide+kernel
theorem zEx:¬kOf (Str.ofString "whole")=kOf (Str.ofString "many"):=by decide+kernel
section
variable{o nn:Addr}{du m wv v:V}
theorem wH:xT (stK o nn du m wv) (kOf (Str.ofString "open"))=some (.ref o):=by
 unfold stK;rw[wM rfl]
theorem uQ:xT (stK o nn du m wv) (kOf (Str.ofString "names"))=some (.ref nn):=by
 unfold stK;rw[yL uS,wM rfl]
theorem zGd:xT (stK o nn du m wv) (kOf (Str.ofString "due"))=some (du):=by
 unfold stK;rw[yL gJ,yL jY,wM rfl]
theorem zMe:xT (stK o nn du m wv) (kOf (Str.ofString "many"))=some (m):=by
 unfold stK;rw[yL jU,yL jJ,yL gN,wM rfl]
theorem zVm:xT (stK o nn du m wv) (kOf (Str.ofString "whole"))=some (wv):=by
 unfold stK;rw[yL qY,yL qL,yL jT,yL jF,wM rfl]
theorem jI:vU (stK o nn du m wv) (kOf (Str.ofString "due")) v=stK o nn v m wv:=by
 unfold vU stK;rw[mK (by simp)];simp only[mY,pX,gJ,jY,zKm,zJi,tL,sW]
theorem zWh:vU (stK o nn du m wv) (kOf (Str.ofString "many")) v=stK o nn du v wv:=by
 unfold vU stK;rw[mK (by simp)];simp only[mY,pX,jU,jJ,gN,zEx,tL,sW]
theorem zVe:vU (stK o nn du m wv) (kOf (Str.ofString "whole")) v=stK o nn du m v:=by
 unfold vU stK;rw[mK (by simp)];simp only[mY,pX,qY,qL,jT,jF,tL,sW]
end
def off(H:Hp)(m:List Addr):Hp:=fun b=>if b∈m then none else H b
theorem jB{H:Hp}{m:List Addr}{b:Addr}(h:b∉m):off H m b=H b:=mG h
theorem zZc{H:Hp}{m:List Addr}{b:Addr}(h:b∈m):off H m b=none:=mK h
theorem wC{H:Hp}{m:List Addr}{b:Addr}{u:HO}(h:off H m b=some u):b∉m∧H b=some u:=by
 by_cases hb:b∈m
 ·rw[zZc hb] at h;cases h
 ·exact⟨hb,by rw[jB hb] at h;exact h⟩
theorem gY{H H':Hp}{m m':List Addr}(h:∀b,b∉m→b∉m')(g:∀b u,b∉m→H b=some u→H' b=some u):Same (off H m) (off H' m'):=fun b u e=>by
 obtain⟨h1,h2⟩:=wC e;rw[jB (h b h1)];exact g b u h1 h2
def cut(F H:Hp)(m:List Addr):Hp:=fun b=>if b∈m∨(F b).isSome=true then none else match H b with
 | some (.lst xs)=>some (.lst xs)
 | some (.dK ps)=>some (.dK ps)
 | _=>none
theorem kI{F H:Hp}{m:List Addr}{b:Addr}{u:HO}(h:cut F H m b=some u):b∉m∧F b=none∧H b=some u∧((∃xs,u= .lst xs)∨∃ps,u= .dK ps):=by
 unfold cut at h;split at h
 ·cases h
 rename_i hn;have hb:b∉m:=fun z=>hn (.inl z);have hF:F b=none:=by
  cases e:F b with
  | none=>rfl
  | some x=>exact absurd (.inr (by rw[e];rfl)) hn
 split at h
 ·rename_i xs e;cases h;exact⟨hb,hF,e, .inl ⟨xs,rfl⟩⟩
 ·rename_i ps e;cases h;exact⟨hb,hF,e, .inr ⟨ps,rfl⟩⟩
 ·cases h
theorem zAi{F H:Hp}{m:List Addr}{b:Addr}{u:HO}(h1:b∉m)(h2:F b=none)(h3:H b=some u)(h4:(∃xs,u= .lst xs)∨∃ps,u= .dK ps):cut F H m b=some u:=by
 unfold cut;rw[mG (fun z=>z.elim h1 fun z=>by rw[h2] at z;cases z),h3];rcases h4 with⟨xs,rfl⟩|⟨ps,rfl⟩<;>rfl
theorem vR{F H H':Hp}{m m':List Addr}(h:∀b,b∉m→H b≠none→b∉m')(g:∀b u,b∉m→H b=some u→H' b=some u):Same (cut F H m) (cut F H' m'):=fun b u e=>by
 obtain⟨h1,h2,h3,h4⟩:=kI e;exact zAi (h b h1 (by rw[h3];exact fun z=>nomatch z)) h2 (g b u h1 h3) h4
def Opn(G H:Hp):Option V→List Addr→List Fr→Prop
 | _,[],[]=>True
 | c,a::as, .row us::fs=>(∃vs,H a=some (.lst (vs++c.toList))∧Reps G vs us)∧Opn G H (some (.ref a)) as fs
 | c,a::as, .rcd ks us nm::fs=>(∃ps:List (Key×V),H a=some (.dK (ps++(c.map fun v=>(nK nm,v)).toList))∧ps.map (·.1)=ks.map nK∧Reps G (ps.map (·.2)) us∧(c.isSome=true→nm∉ks))∧Opn G H (some (.ref a)) as fs
 | _,_,_=>False
theorem Opn.mono{G G' H H':Hp}(g:Same G G'):∀{as:List Addr}{fs:List Fr}{c:Option V},(∀b∈as,H' b=H b)→Opn G H c as fs→Opn G' H' c as fs
 | [],[],_,_,h=>h
 | a::as, .row us::fs,c,e,⟨⟨vs,h1,h2⟩,h3⟩=>⟨⟨vs,by rw[e a mH];exact h1,Reps.same g _ _ h2⟩,Opn.mono g (fun b hb=>e b (mQ _ hb)) h3⟩
 | a::as, .rcd ks us nm::fs,c,e,⟨⟨ps,h1,h2,h3,h4⟩,h5⟩=>⟨⟨ps,by rw[e a mH];exact h1,h2,Reps.same g _ _ h3,h4⟩,Opn.mono g (fun b hb=>e b (mQ _ hb)) h5⟩
theorem Opn.len{G H:Hp}:∀{as:List Addr}{fs:List Fr}{c:Option V},Opn G H c as fs→as.length=fs.length
 | [],[],_,_=>rfl
 | _::_, .row _::_,_,⟨_,h⟩=>congrArg (· +1) (Opn.len h)
 | _::_, .rcd _ _ _::_,_,⟨_,h⟩=>congrArg (· +1) (Opn.len h)
 | _::_,[],_,h=>h.elim
 | [],_::_,_,h=>h.elim
theorem Opn.there{G H:Hp}:∀{as:List Addr}{fs:List Fr}{c:Option V},Opn G H c as fs→∀b∈as,∃u,H b=some u
 | [],[],_,_,b,hb=>nomatch hb
 | a::as, .row _::_,_,⟨⟨vs,h1,_⟩,h⟩,b,hb=>(mF.mp hb).elim (fun e=>by subst e;exact⟨_,h1⟩) (fun hb=>Opn.there h b hb)
 | a::as, .rcd _ _ _::_,_,⟨⟨vs,h1,_⟩,h⟩,b,hb=>(mF.mp hb).elim (fun e=>by subst e;exact⟨_,h1⟩) (fun hb=>Opn.there h b hb)
abbrev mtb(st o nn:Addr)(ex as:List Addr):List Addr:=st::o::nn::(ex++as)
structure Scn(F H:Hp)(st o nn:Addr)(ex as:List Addr)(fs:List Fr)(os ns:List V)(du m wv:V)(c:Option V):Prop where
 nd:(mtb st o nn ex as).Nodup
 hst:H st=some (.dK (stK o nn du m wv))
 ho:H o=some (.lst os)
 hn:H nn=some (.lst ns)
 op:Opn (cut F H (mtb st o nn ex as)) H c as fs
 hF:Same F (off H (mtb st o nn ex as))
section
variable{F H H':Hp}{st o nn:Addr}{ex as:List Addr}{fs:List Fr}{os ns:List V}{du m wv:V}{c:Option V}
theorem Scn.same(h:Scn F H st o nn ex as fs os ns du m wv c)(g:Same H H'):Scn F H' st o nn ex as fs os ns du m wv c:=
 ⟨h.nd,g _ _ h.hst,g _ _ h.ho,g _ _ h.hn,h.op.mono (vR (fun _ z _=>z) fun b u _ e=>g b u e) (fun b hb=>by obtain⟨u,e⟩:=h.op.there b hb;rw[e];exact g b u e),h.hF.trans (gY (fun _ z=>z) fun b u _ e=>g b u e)⟩
theorem Scn.wr(h:Scn F H st o nn ex as fs os ns du m wv c){x:Addr}(hx:x∈mtb st o nn ex as)(hxa:x∉as)(u:HO):Opn (cut F (upd H x u) (mtb st o nn ex as)) (upd H x u) c as fs∧Same F (off (upd H x u) (mtb st o nn ex as)):=by
 have g:Same (off H (mtb st o nn ex as)) (off (upd H x u) (mtb st o nn ex as)):=gY (fun _ z=>z) fun b w hb e=>by rw[zL (fun z:b=x=>hb (by rw[z];exact hx))];exact e
 have g':Same (cut F H (mtb st o nn ex as)) (cut F (upd H x u) (mtb st o nn ex as)):=vR (fun _ z _=>z) fun b w hb e=>by rw[zL (fun z:b=x=>hb (by rw[z];exact hx))];exact e
 exact⟨h.op.mono g' fun b hb=>by rw[zL (fun z:b=x=>hxa (by rw[←z];exact hb))],h.hF.trans g⟩
theorem Scn.dis(h:Scn F H st o nn ex as fs os ns du m wv c):st≠o∧st≠nn∧o≠nn∧st∉as∧o∉as∧nn∉as:=by
 have h0:=h.nd;simp only[mtb,pJ,mF,pA,bX] at h0;obtain⟨⟨a,b,_,d⟩,⟨e,_,f⟩,⟨_,g⟩,_⟩:=h0;exact⟨a,b,e,d,f,g⟩
theorem Scn.wst(h:Scn F H st o nn ex as fs os ns du m wv c)(du' m' wv':V):Scn F (upd H st (.dK (stK o nn du' m' wv'))) st o nn ex as fs os ns du' m' wv' c:=by
 obtain⟨a,b,e,d,f,g⟩:=h.dis;obtain⟨x,y⟩:=h.wr (x:=st) (by simp) d (.dK (stK o nn du' m' wv'));exact⟨h.nd,zF,by rw[zL (Ne.symm a)];exact h.ho,by rw[zL (Ne.symm b)];exact h.hn,x,y⟩
theorem Scn.wo(h:Scn F H st o nn ex as fs os ns du m wv c)(os':List V):Scn F (upd H o (.lst os')) st o nn ex as fs os' ns du m wv c:=by
 obtain⟨a,b,e,d,f,g⟩:=h.dis;obtain⟨x,y⟩:=h.wr (x:=o) (by simp) f (.lst os');exact⟨h.nd,by rw[zL a];exact h.hst,zF,by rw[zL (Ne.symm e)];exact h.hn,x,y⟩
theorem Scn.wn(h:Scn F H st o nn ex as fs os ns du m wv c)(ns':List V):Scn F (upd H nn (.lst ns')) st o nn ex as fs os ns' du m wv c:=by
 obtain⟨a,b,e,d,f,g⟩:=h.dis;obtain⟨x,y⟩:=h.wr (x:=nn) (by simp) g (.lst ns');exact⟨h.nd,by rw[zL b];exact h.hst,by rw[zL e];exact h.ho,zF,x,y⟩
theorem Scn.fresh(h:Scn F H st o nn [] as fs os ns du m wv c)(g:Same H H'){b:Addr}(hb:H b=none):Scn F H' st o nn [b] as fs os ns du m wv c:=by
 have n1:b∉mtb st o nn [] as:=fun z=>by
  rcases mF.mp z with z | z
  ·rw[z,h.hst] at hb;cases hb
  rcases mF.mp z with z | z
  ·rw[z,h.ho] at hb;cases hb
  rcases mF.mp z with z | z
  ·rw[z,h.hn] at hb;cases hb
  ·obtain⟨u,e⟩:=h.op.there b z
   rw[hb] at e;cases e
 have g':Same (off H (mtb st o nn [] as)) (off H' (mtb st o nn [b] as)):=fun x u e=>by
  obtain⟨h1,h2⟩:=wC e;have hx:x≠b:=fun z=>by rw[z,hb] at h2;cases h2
  rw[jB (fun z=>?_)]
  ·exact g x u h2
  ·simp only[mtb,mF,nH,nU] at z h1
   rcases z with z | z | z | z | z
   ·exact h1 (.inl z)
   ·exact h1 (.inr (.inl z))
   ·exact h1 (.inr (.inr (.inl z)))
   ·exact hx z
   ·exact h1 (.inr (.inr (.inr z)))
 have gc:Same (cut F H (mtb st o nn [] as)) (cut F H' (mtb st o nn [b] as)):=vR (fun x h1 h2 z=>by
  have hx:x≠b:=fun z=>h2 (by rw[z];exact hb);simp only[mtb,mF,nH,nU] at z h1;rcases z with z | z | z | z | z
  ·exact h1 (.inl z)
  ·exact h1 (.inr (.inl z))
  ·exact h1 (.inr (.inr (.inl z)))
  ·exact hx z
  ·exact h1 (.inr (.inr (.inr z)))) fun x u _ e=>g x u e
 have nd:=h.nd;refine⟨?_,g _ _ h.hst,g _ _ h.ho,g _ _ h.hn,h.op.mono gc (fun x hx=>by obtain⟨u,e⟩:=h.op.there x hx;rw[e];exact g x u e),h.hF.trans g'⟩;simp only[mtb,nH,nU,pJ,mF,bX] at nd n1⊢;obtain⟨⟨a1,a2,a3⟩,⟨b1,b2⟩,c1,d1⟩:=nd;obtain⟨e1,e2,e3,e4⟩:=n1;exact⟨⟨a1,a2,Ne.symm e1,a3⟩,⟨b1,Ne.symm e2,b2⟩,⟨Ne.symm e3,c1⟩,e4,d1⟩
theorem Scn.wr0{a:Addr}{f:Fr}(h:Scn F H st o nn ex (a::as) (f::fs) os ns du m wv c)(u:HO):Same (off H (mtb st o nn ex (a::as))) (off (upd H a u) (mtb st o nn ex (a::as)))∧Same (cut F H (mtb st o nn ex (a::as))) (cut F (upd H a u) (mtb st o nn ex (a::as)))∧(∀b∈as,upd H a u b=H b)∧upd H a u st=H st∧upd H a u o=H o∧upd H a u nn=H nn:=by
 obtain⟨_,_,_,d,e,g⟩:=h.dis;have ha:a∈mtb st o nn ex (a::as):=by simp
 have hn:=h.nd;have hna:a∉as:=by
  simp only[mtb,pJ,List.nodup_append] at hn;exact hn.2.2.2.2.1.1
 refine⟨gY (fun _ z=>z) fun b w hb e=>by rw[zL (fun z:b=a=>hb (by rw[z];exact ha))];exact e,vR (fun _ z _=>z) fun b w hb e=>by rw[zL (fun z:b=a=>hb (by rw[z];exact ha))];exact e,fun b hb=>zL (fun z:b=a=>hna (by rw[←z];exact hb)),zL (fun z=>d (by rw[z];simp)),zL (fun z=>e (by rw[z];simp)),zL (fun z=>g (by rw[z];simp))⟩
theorem Scn.leafL{a:Addr}{us:List T}(h:Scn F H st o nn ex (a::as) (.row us::fs) os ns du m wv none){v:V}{t:T}(hv:∀Hx,Rep Hx v t){vs:List V}(ha:H a=some (.lst vs)):Scn F (upd H a (.lst (vs++ [v]))) st o nn ex (a::as) (.row (us++ [t])::fs) os ns du m wv none:=by
 obtain⟨g,gc,g1,g2,g3,g4⟩:=h.wr0 (.lst (vs++ [v]));obtain⟨⟨vs',h1,h2⟩,h3⟩:=h.op;rw[show vs'++(none:Option V).toList=vs' from mN _] at h1;rw[ha] at h1;cases h1;exact⟨h.nd,by rw[g2];exact h.hst,by rw[g3];exact h.ho,by rw[g4];exact h.hn,⟨⟨vs++ [v],by rw[zF];exact congrArg (fun z=>some (HO.lst z)) (mN _).symm,Reps.snoc (hv _) (Reps.same gc _ _ h2)⟩,h3.mono gc g1⟩,h.hF.trans g⟩
theorem Scn.holdL{a:Addr}{us:List T}(h:Scn F H st o nn ex (a::as) (.row us::fs) os ns du m wv none)(v:V){vs:List V}(ha:H a=some (.lst vs)):Scn F (upd H a (.lst (vs++ [v]))) st o nn ex (a::as) (.row us::fs) os ns du m wv (some v):=by
 obtain⟨g,gc,g1,g2,g3,g4⟩:=h.wr0 (.lst (vs++ [v]));obtain⟨⟨vs',h1,h2⟩,h3⟩:=h.op;rw[show vs'++(none:Option V).toList=vs' from mN _] at h1;rw[ha] at h1;cases h1;exact⟨h.nd,by rw[g2];exact h.hst,by rw[g3];exact h.ho,by rw[g4];exact h.hn,⟨⟨vs,zF,Reps.same gc _ _ h2⟩,h3.mono gc g1⟩,h.hF.trans g⟩
theorem Scn.leafD{a:Addr}{ks:List (List Nat)}{us:List T}{nm:List Nat}(h:Scn F H st o nn ex (a::as) (.rcd ks us nm::fs) os ns du m wv none){v:V}{t:T}(hv:∀Hx,Rep Hx v t){ps:List (Key×V)}(ha:H a=some (.dK ps)):Scn F (upd H a (.dK (ps++ [(nK nm,v)]))) st o nn ex (a::as) (.rcd (ks++ [nm]) (us++ [t]) nm::fs) os ns du m wv none:=by
 obtain⟨g,gc,g1,g2,g3,g4⟩:=h.wr0 (.dK (ps++ [(nK nm,v)]));obtain⟨⟨ps',h1,h2,h3,_⟩,h4⟩:=h.op;rw[show ps'++((none:Option V).map fun v=>(nK nm,v)).toList=ps' from mN _] at h1;rw[ha] at h1;cases h1;refine⟨h.nd,by rw[g2];exact h.hst,by rw[g3];exact h.ho,by rw[g4];exact h.hn,⟨⟨ps++ [(nK nm,v)],by rw[zF];exact congrArg (fun z=>some (HO.dK z)) (mN _).symm,by rw[pK,h2,pK];rfl, ?_,fun z=>nomatch z⟩,h4.mono gc g1⟩,h.hF.trans g⟩;rw[pK];exact Reps.snoc (hv _) (Reps.same gc _ _ h3)
theorem Scn.holdD{a:Addr}{ks:List (List Nat)}{us:List T}{nm:List Nat}(h:Scn F H st o nn ex (a::as) (.rcd ks us nm::fs) os ns du m wv none)(v:V){ps:List (Key×V)}(ha:H a=some (.dK ps))(hk:nm∉ks):Scn F (upd H a (.dK (ps++ [(nK nm,v)]))) st o nn ex (a::as) (.rcd ks us nm::fs) os ns du m wv (some v):=by
 obtain⟨g,gc,g1,g2,g3,g4⟩:=h.wr0 (.dK (ps++ [(nK nm,v)]));obtain⟨⟨ps',h1,h2,h3,_⟩,h4⟩:=h.op;rw[show ps'++((none:Option V).map fun v=>(nK nm,v)).toList=ps' from mN _] at h1;rw[ha] at h1;cases h1;exact⟨h.nd,by rw[g2];exact h.hst,by rw[g3];exact h.ho,by rw[g4];exact h.hn,⟨⟨ps,zF,h2,Reps.same gc _ _ h3,fun _=>hk⟩,h4.mono gc g1⟩,h.hF.trans g⟩
theorem Scn.openL{b:Addr}(h:Scn F H st o nn [b] as fs os ns du m wv (some (.ref b)))(hb:H b=some (.lst [])):Scn F H st o nn [] (b::as) (.row []::fs) os ns du m wv none:=
 ⟨h.nd,h.hst,h.ho,h.hn,⟨⟨[],hb,rfl⟩,h.op⟩,h.hF⟩
theorem Scn.openD{b:Addr}(h:Scn F H st o nn [b] as fs os ns du m wv (some (.ref b)))(hb:H b=some (.dK [])):Scn F H st o nn [] (b::as) (.rcd [] [] []::fs) os ns du m wv none:=
 ⟨h.nd,h.hst,h.ho,h.hn,⟨⟨[],hb,rfl,rfl,fun z=>nomatch z⟩,h.op⟩,h.hF⟩
theorem Scn.any{c':Option V}(h:Scn F H st o nn ex [] [] os ns du m wv c):Scn F H st o nn ex [] [] os ns du m wv c':=⟨h.nd,h.hst,h.ho,h.hn,nJ,h.hF⟩
def yAw(t:T):List Fr→List Fr
 | []=>[]
 | f::r=>f.add t::r
theorem Scn.close{a:Addr}{f:Fr}(h:Scn F H st o nn [] (a::as) (f::fs) os ns du m wv none):Scn F H st o nn [] as (yAw f.tree fs) os ns du m wv none∧Rep (cut F H (mtb st o nn [] as)) (.ref a) f.tree:=by
 have nd:=h.nd;simp only[mtb,nH,pJ,mF,bX] at nd;obtain⟨⟨a1,a2,a3,a4⟩,⟨b1,b2,b3⟩,⟨c1,c2⟩,d1,d2⟩:=nd;have hna:a∉mtb st o nn [] as:=by
  simp only[mtb,nH,mF,bX];exact⟨Ne.symm a3,Ne.symm b2,Ne.symm c1,d1⟩
 have g:Same (off H (mtb st o nn [] (a::as))) (off H (mtb st o nn [] as)):=gY (fun b hb z=>hb (by
  simp only[mtb,nH,mF] at z⊢;rcases z with z | z | z | z
  ·exact .inl z
  ·exact .inr (.inl z)
  ·exact .inr (.inr (.inl z))
  ·exact .inr (.inr (.inr (.inr z))))) fun b u _ e=>e
 have gc:Same (cut F H (mtb st o nn [] (a::as))) (cut F H (mtb st o nn [] as)):=vR (fun b hb _ z=>hb (by
  simp only[mtb,nH,mF] at z⊢;rcases z with z | z | z | z
  ·exact .inl z
  ·exact .inr (.inl z)
  ·exact .inr (.inr (.inl z))
  ·exact .inr (.inr (.inr (.inr z))))) fun b u _ e=>e
 have hFa:F a=none:=by
  cases e:F a with
  | none=>rfl
  | some u=>exact absurd (show a∈mtb st o nn [] (a::as) by simp) (wC (h.hF a u e)).1
 have hrep:Rep (cut F H (mtb st o nn [] as)) (.ref a) f.tree:=by
  have hop:=h.op
  cases f with
  | row us=>
   obtain⟨⟨vs,h1,h2⟩,_⟩:=hop;rw[show vs++(none:Option V).toList=vs from mN _] at h1;exact⟨a,vs,rfl,zAi hna hFa h1 (.inl ⟨_,rfl⟩),Reps.same gc _ _ h2⟩
  | rcd ks us nm=>
   obtain⟨⟨ps,h1,h2,h3,_⟩,_⟩:=hop;rw[show ps++((none:Option V).map fun v=>(nK nm,v)).toList=ps from mN _] at h1;exact⟨a,ps,rfl,zAi hna hFa h1 (.inr ⟨_,rfl⟩),h2,Reps.same gc _ _ h3⟩
 refine⟨⟨?_,h.hst,h.ho,h.hn, ?_,h.hF.trans g⟩,hrep⟩
 ·simp only[mtb,nH,pJ,mF,bX]
  exact⟨⟨a1,a2,a4⟩,⟨b1,b3⟩,c2,d2⟩
 have hop:Opn (cut F H (mtb st o nn [] (a::as))) H (some (.ref a)) as fs:=by
  have hop:=h.op
  cases f with
  | row us=>exact hop.2
  | rcd ks us nm=>exact hop.2
 cases as with
 | nil=>
  cases fs with
  | nil=>exact nJ
  | cons _ _=>exact hop.elim
 | cons a2 as=>
  cases fs with
  | nil=>exact hop.elim
  | cons f2 fs=>
   cases f2 with
   | row us=>
    obtain⟨⟨vs,h1,h2⟩,h3⟩:=hop;exact⟨⟨vs++ [.ref a],by rw[h1];exact congrArg (fun z=>some (HO.lst z)) (mN _).symm,Reps.snoc hrep (Reps.same gc _ _ h2)⟩,h3.mono gc fun _ _=>rfl⟩
   | rcd ks us nm=>
    obtain⟨⟨ps,h1,h2,h3,h4⟩,h5⟩:=hop;refine⟨⟨ps++ [(nK nm, .ref a)],by rw[h1];exact congrArg (fun z=>some (HO.dK z)) (mN _).symm,by rw[pK,h2,pK];rfl, ?_,fun z=>nomatch z⟩,h5.mono gc fun _ _=>rfl⟩;rw[pK];exact Reps.snoc hrep (Reps.same gc _ _ h3)
def Sta(F:Hp)(st:Addr)(H:Hp)(S:Mc):Prop:=∃(o nn:Addr)(as:List Addr)(wv:V),Scn F H st o nn [] as S.stk (as.reverse.map V.ref) ((S.stk.map fun f=>V.str (tx f.nm)).reverse) (.str (duS S.du)) (.int S.many) wv none∧
 (as= []→Rep (cut F H (mtb st o nn [] as)) wv S.whole)∧(∀a,as.getLast? =some a→wv= .ref a)
theorem Sta.same{S:Mc}(h:Sta F st H S)(g:Same H H'):Sta F st H' S:=by
 obtain⟨o,nn,as,wv,h1,h2,h3⟩:=h;exact⟨o,nn,as,wv,h1.same g,fun z=>Rep.same (vR (fun _ z _=>z) fun b u _ e=>g b u e) _ _ (h2 z),h3⟩
theorem Sta.fr{S:Mc}(h:Sta F st H S):Same F H:=by
 obtain⟨o,nn,as,wv,h1,h2,h3⟩:=h;exact fun b u e=>(wC (h1.hF b u e)).2
end
structure Wf(S:Mc):Prop where
 deep:S.stk.length≤8
 many:S.many≤200
 size:∀f∈S.stk,match f with | .row us=>us.length≤60 | .rcd ks us _=>ks.length≤30∧ks.length=us.length
 inner:∀f∈S.stk.tail,match f with | .row us=>us.length<60 | .rcd ks _ _=>ks.length<30
 done:S.du= .done→S.stk= []
 nonE:S.du= .first∨S.du= .behind∨S.du= .more∨S.du= .colon→S.stk≠ []
 thg:S.du= .thing∨S.du= .colon→∀f r,S.stk=f::r→∃ks us nm,f= .rcd ks us nm∧nm∉ks∧ks.length<30
theorem zBr{stk:List Fr}{m:Nat}{t:T}(h8:stk.length≤8)(hm:m≤200)(hs:∀f∈stk,match f with | .row us=>us.length≤60 | .rcd ks us _=>ks.length≤30∧ks.length=us.length)(hi:∀f∈stk,match f with | .row us=>us.length<60 | .rcd ks _ _=>ks.length<30):Wf (xF stk m t):=by
 cases stk with
 | nil=>exact⟨by show 0≤8;lia,hm,(fun f hf=>nomatch hf),(fun f hf=>nomatch hf),(fun _=>rfl),(fun z=>by rcases z with z | z | z | z<;>cases z),(fun z=>by rcases z with z | z<;>cases z)⟩
 | cons f r=>
  refine⟨h8,hm,fun g hg=>?_,fun g hg=>hi g (mQ _ hg),(fun z=>nomatch z),(fun _=>rE _ _),fun z=>by rcases z with z | z<;>cases z⟩
  rcases mF.mp hg with e | hg
  ·rw[e]
   have h1:=hs f mH;have h2:=hi f mH
   cases f with
   | row us=>
    show(us++ [t]).length≤60;have h2:us.length<60:=h2;rw[mC];show _+1≤_;lia
   | rcd ks us nm=>
    show(ks++ [nm]).length≤30∧(ks++ [nm]).length=(us++ [t]).length;have h1:ks.length≤30∧ks.length=us.length:=h1;have h2:ks.length<30:=h2;rw[mC,mC];show _+1≤_∧_+1=_+1
    lia
  ·exact hs g (mQ _ hg)
theorem zUj{S S':Mc}{k:Nat}{s:List Nat}(wf:Wf S)(hrc:∀ks us nm r,S.stk= .rcd ks us nm::r→nm∉ks∧ks.length<30)(h:K27.thg S.stk S.many k s= .go S'):Wf S':=by
 unfold K27.thg at h;split at h
 ·cases h
 split at h
 ·cases h
 rename_i hc;have hc':¬S.many=200∧¬zAt S.stk=true∧¬(k=3∧S.stk.length=8):=by
  simp only[bR,pQ,bX] at hc;exact⟨hc.1,hc.2.1,hc.2.2.1⟩
 obtain⟨c1,c2,c3⟩:=hc';have hall:∀f∈S.stk,match f with | .row us=>us.length<60 | .rcd ks _ _=>ks.length<30:=fun f hf=>by
  cases hst:S.stk with
  | nil=>rw[hst] at hf;exact nomatch hf
  | cons g r=>
   rw[hst] at hf;rcases mF.mp hf with e | hf
   ·subst e
    have h1:=wf.size f (by rw[hst];exact mH)
    cases f with
    | row us=>
     show us.length<60;have h1:us.length≤60:=h1;have:us.length≠60:=fun z=>c2 (by rw[hst];exact nB z)
     lia
    | rcd ks us nm=>exact(hrc ks us nm r hst).2
   ·exact wf.inner f (by rw[hst];exact hf)
 have hm:=wf.many;split at h
 ·rename_i h3
  cases h;have h8:=wf.deep;refine⟨by show S.stk.length+1≤8;lia,by show S.many+1≤200;lia,fun f hf=>?_,hall,(fun z=>nomatch z),(fun _=>rE _ _),fun z=>by rcases z with z | z<;>cases z⟩
  rcases mF.mp hf with e | hf
  ·rw[e]
   by_cases h91:s= [91]
   ·rw[mK h91];exact rK _
   ·rw[mG h91];exact⟨rK _,rfl⟩
  ·exact wf.size f hf
 ·cases h
  exact zBr wf.deep (by lia) wf.size hall
theorem zYr{S S':Mc}{k:Nat}{s:List Nat}{ks:List (List Nat)}{us:List T}{nm:List Nat}{r:List Fr}(wf:Wf S)(hst:S.stk= .rcd ks us nm::r)(h:nmd ks us r S.many k s= .go S'):Wf S':=by
 unfold nmd at h;split at h
 ·cases h
 rename_i n1;split at h
 ·cases h
 rename_i n2;cases h;have h1:=wf.size (.rcd ks us nm) (by rw[hst];exact mH);have h1:ks.length≤30∧ks.length=us.length:=h1;have hd:=wf.deep;have hin:=wf.inner;rw[hst] at hd hin;refine⟨hd,wf.many,fun f hf=>?_,hin,(fun z=>nomatch z),(fun _=>rE _ _),fun _ f r' e=>?_⟩
 ·rcases mF.mp hf with e | hf
  ·rw[e];exact h1
  ·exact wf.size f (by rw[hst];exact mQ _ hf)
 ·obtain⟨e1,e2⟩:=List.cons.inj e
  exact⟨ks,us,s,e1.symm,fun z=>n1 (.inr z),by
   have:ks.length≠30:=fun z=>n2 (.inr z)
   lia⟩
theorem zFw{S S':Mc}{k:Nat}{s:List Nat}(wf:Wf S)(h:nxt S k s= .go S'):Wf S':=by
 have close:∀f r,S.stk=f::r→Wf (xF r S.many f.tree):=fun f r e=>by
  have hd:=wf.deep;have hin:=wf.inner;rw[e] at hd hin;exact zBr (by rw[mE] at hd;lia) wf.many (fun g hg=>wf.size g (by rw[e];exact mQ _ hg)) hin
 have hinn:(∀ks us nm r,S.stk= .rcd ks us nm::r→True)→inn S.stk S.many k s= .go S'→Wf S':=fun _ z=>by
  unfold inn at z;split at z
  ·rename_i e
   exact zYr wf e z
  ·rename_i hx
   exact zUj wf (fun ks us nm r e=>absurd e (hx ks us nm r)) z
 unfold nxt at h;split at h
 ·split at h<;>cases h
 ·rename_i hd
  split at h
  ·cases h
   refine⟨wf.deep,wf.many,wf.size,wf.inner,(fun z=>nomatch z),(fun z=>by rcases z with z | z | z | z<;>cases z),fun _=>wf.thg (.inr hd)⟩
  ·cases h
 ·rename_i hd
  refine zUj wf (fun ks us nm r e=>?_) h;obtain⟨ks',us',nm',y1,y2,y3⟩:=wf.thg (.inl hd) _ _ e;cases y1;exact⟨y2,y3⟩
 ·exact hinn (fun _ _ _ _ _=>nJ) h
 ·split at h
  ·cases h
  ·rename_i f r e
   split at h
   ·cases h;exact close f r e
   split at h
   ·cases h
    refine⟨wf.deep,wf.many,wf.size,wf.inner,(fun z=>nomatch z),(fun _=>by show S.stk≠ [];rw[e];exact rE _ _),fun z=>by rcases z with z | z<;>cases z⟩
   ·cases h
 ·split at h
  ·cases h
  ·rename_i f r e
   split at h
   ·cases h;exact close f r e
   ·rw[←e] at h
    exact hinn (fun _ _ _ _ _=>nJ) h
end K27
namespace K27
open PySem L2 PySem.W
seal L2.PSs L2.PS L2.PE L2.PT L2.PW L2.PA L2.PI L2.PG L2.PGs L2.PPs L2.PTs
abbrev sTn:Stmt:=top 53
theorem wL{b:Addr}{as:List Addr}:List.map V.ref (b::as).reverse=List.map V.ref as.reverse++ [V.ref b]:=by simp
theorem zRc{H:Hp}{a:Addr}{vs:List V}(h:H a=some (.lst vs)):tyR H (.ref a)=some "list":=by
 refine zRr ?_;show(match H a with | some (.lst _)=>some "list" | some (.tup _)=>some "tuple" | some (.dK _)=>some "dict" | _=>none)=_
 rw[h]
section
variable{P:Program}{w:World}{K:PySem.W.Frag}{mg:Str→Option Value}{base:Heap}{f:Addr}{fd:FuncData}
def TkO(H:Hp)(a:Addr)(t:Lk):Prop:=H a=some (.tup [.str (kR t.k), .str (tx t.s), .int t.n])
def zYv:Sp:=fun vs H Q _=>∃(F:Hp)(st a:Addr)(S:Mc)(t:Lk),vs= [.ref st, .ref a]∧Sta F st H S∧Wf S∧TkO F a t∧OkL t∧t.k≠5∧(∀ks us nm r,S.stk= .rcd ks us nm::r→nm∉ks∧ks.length<30)∧
 (thg S.stk S.many t.k t.s= .bad→∀H',Sta F st H' S→Q (.str (Str.ofString "bad")) H')∧(thg S.stk S.many t.k t.s= .great→∀H',Sta F st H' S→Q (.str (Str.ofString "great")) H')∧(∀S',thg S.stk S.many t.k t.s= .go S'→∀H',Sta F st H' S'→Q (.str (Str.ofString "")) H')
theorem scTn:zV ["_law_state","_law_token","_law_kind","_law_string","_law_at","_law_rows","_law_value_here"] ["_law_state","_law_token"] (zO sTn):=by walk_at "sc"
theorem ok_tn(F:Fun K "_law_thing_next" "_law_thing_next" sTn f fd)(B:Bl mg)(M:Ms mg)(G_law_begins:Dn P w K mg base 1 "_law_begins" ["_law_kind","_law_string"] spLb)(G_law_beyond:Dn P w K mg base 1 "_law_beyond" ["_law_kind","_law_string","_law_deep"] spLy)(G_law_value:Dn P w K mg base 1 "_law_value" ["_law_kind","_law_string"] spLv):FnOk P w K mg base CX0 2 f fd ["_law_state","_law_token"] zYv:=by
 refine F.ok scTn (by walk_at "ln") fun c A o s H vs Q E hr h=>?_;obtain⟨F,st,a,S,t,rfl,hS,wf,ha,hok,h5,hrc,q1,q2,q3⟩:=h;have nd:=scTn.nd;have hu:=kF hr;refine⟨_,(zB (zBv (pv 1) (zEz (n:=3) rfl (wE (yO (i:=2) nd rfl (pR rfl)) (wE (yO (i:=3) nd rfl (pR rfl)) (wE (yO (i:=4) nd rfl (pR rfl)) zAv)))))
  (zB (pS 5 nd (yR hu (pv 0) zD (fun _ _=>rfl)))
  (zB (zR (qM (yT (pD G_law_begins hr (zA (pv 2) (zA (pv 3) zE))))) (zG (zN zD)) zM)
  (zB (zR (PW.pt (jS (zK zS (yR hu (pv 0) zD (fun _ _=>rfl)) zC (zJ _)) (vX (yT (pD G_law_beyond hr (zA (pv 2) (zA (pv 3) (zA (zP yH rfl B.len yK (zA (pv 5) zE)) zE)))))))) (zG (zN zD)) zM)
  (zB (xZ (zR (PW.pt (wA (zK qH (zP yH rfl B.len yK (zA (pv 5) zE)) zC (zJ _)) (wA (yT (zP (wW (T:="list") (by decide)) rfl B.isinstance zT (zA (zQ zX (pv 5) (wQ xN zC) (fun _ _=>rfl)) (zA (vJ (v:=.ty "list") rfl B.list qG rfl) zE)))) (xV (zK zS (zP yH rfl B.len yK (zA (zQ zX (pv 5) (wQ xN zC) (fun _ _=>rfl)) zE)) zC (zJ _)))))) (zG (zN zD)) zM))
  (zB (zWx hu (pv 0) zD zC zDd (by intros;rfl))
  (zB (pS 6 nd (pD G_law_value hr (zA (pv 2) (zA (pv 3) zE))))
  (zB (xZ (zR (zK zS (zP yH rfl B.len yK (zA (pv 5) zE)) zC (zJ _)) (zG (vM hu (pv 0) zD (pv 6) rfl)) (zG (zR (yT (zP (wW (T:="list") (by decide)) rfl B.isinstance zT (zA (zQ zX (pv 5) (wQ xN zC) (fun _ _=>rfl)) (zA (vJ (v:=.ty "list") rfl B.list qG rfl) zE)))) (zG (yY (xQ nN nW nZ xH (zQ zX (pv 5) (wQ xN zC) (fun _ _=>rfl)) (zA (pv 6) zE)))) (zG (vM hu (zQ zX (pv 5) (wQ xN zC) (fun _ _=>rfl)) (zQ zX (yR hu (pv 0) zD (fun _ _=>rfl)) (wQ xN zC) (fun _ _=>rfl)) (pv 6) rfl))))))
  (zB (vM hu (pv 0) zD (zQ zX (yF (zA zD (zA zD zE))) (yM yZ rfl B.int xO (zA (yA qH (zP yH rfl B.len yK (zA (pv 5) zE)) zC (zJ _)) zE)) (fun _ _=>rfl)) rfl)
  (zB (zR (zK zS (pv 2) zD (zJ _)) (zB (yY (xQ nN nW nZ xH (pv 5) (zA (pv 6) zE)))
  (zB (yY (xQ nN nW nZ xH (yR hu (pv 0) zD (fun _ _=>rfl)) (zA zD zE)))
  (zG (vM hu (pv 0) zD zD rfl)))) zM)
  (zG (zN zD)))))))))))), ?_⟩
 unfold zQp;walk_at "st";walk_at "rd6";obtain⟨o,nn,as,wv,sc,hw1,hw2⟩:=hS;have haH:H a=some (.tup [.str (kR t.k), .str (tx t.s), .int t.n]):=(wC (sc.hF a _ ha)).2;refine⟨_,SqT.of haH,rfl,_,_,rfl,_,_,rfl,_,_,rfl,rfl, .ref o,wH▸DGet.k (k:=kOf (Str.ofString "open")) sc.hst,t,rfl,hok,h5,fun H1 g1=>⟨_,rfl, ?_⟩⟩;have sc1:=sc.same g1;have sta1:Sta F st H1 S:=Sta.same ⟨o,nn,as,wv,sc,hw1,hw2⟩ g1
 cases hbg:kU t.k t.s with
 | false=>exact iP rfl (q1 (mK hbg) H1 sta1)
 | true=>
 have eT:thg S.stk S.many t.k t.s=if(decide (S.many=200)||(zAt S.stk ||(decide (t.k=3∧S.stk.length=8)|| qQ t.k t.s)))=true then .great else if t.k=3 then .go ⟨(if t.s= [91] then .row [] else .rcd [] [] [])::S.stk, .first,S.many+1, .non⟩ else .go (xF S.stk (S.many+1) (vS t.k t.s)):=mG (by rw[hbg];decide)
 rw[eT] at q2 q3;refine iN (by decide) ⟨_,zMe▸DGet.k (k:=kOf (Str.ofString "many")) sc1.hst,rfl, ?_⟩
 by_cases h200:S.many=200
 ·exact iP (by rw[h200];rfl) (q2 (mK (by rw[h200];simp)) H1 sta1)
 have hlen:=sc.op.len;refine iN (fun z=>by injection z with z;lia) ⟨o,rfl,_,SqL.of sc1.ho,t,as.length,by rw[mZ,aI],hok,h5,hbg,_,rfl, ?_⟩;rw[hlen]
 cases hby:(decide (t.k=3∧S.stk.length=8)|| qQ t.k t.s) with
 | true=>exact iP rfl (q2 (mK (by rw[hby];simp)) H1 sta1)
 | false=>
 refine iN (by decide) ⟨fun σ' H'=>σ'= [some (V.ref st),some (V.ref a),some (V.str (kR t.k)),some (V.str (tx t.s)),some (V.int t.n),some (V.ref o),none]∧H'=H1∧zAt S.stk=false, ?_, ?_⟩
 ·refine⟨o,rfl,_,SqL.of sc1.ho, ?_⟩
  have hop:=sc1.op;have hst:=sc1.ho;generalize S.stk=stk at hop q2 hlen
  cases as with
  | nil=>
   cases stk with
   | cons _ _=>exact hop.elim
   | nil=>exact iN (by decide) ⟨rfl,rfl,rfl⟩
  | cons b as=>
   rw[wL] at hst;rw[wL];refine iP (by rw[mC];show(0:Int)<((_+1:Nat):Int);lia) (zW (SqL.of hst) (xE _ _) ?_)
   cases stk with
   | nil=>exact hop.elim
   | cons fr stk=>
    cases fr with
    | row us=>
     obtain⟨⟨vs,h1,h2⟩,h3⟩:=hop;rw[show vs++(none:Option V).toList=vs from mN _] at h1;have hvl:=h2.length;refine⟨"list",zRc h1,iP (by decide) (zW (SqL.of hst) (xE _ _) ⟨b,rfl,vs,SqL.of h1, ?_⟩)⟩
     by_cases h60:us.length=60
     ·exact iP (by lia) (q2 (mK (by rw[show zAt (.row us::stk)=true from nB h60];simp)) H1 sta1)
     ·exact iN (by lia) ⟨rfl,rfl,mM h60⟩
    | rcd ks us nm=>
     obtain⟨⟨ps,h1,h2,h3,_⟩,h4⟩:=hop;rw[show ps++((none:Option V).map fun v=>(nK nm,v)).toList=ps from mN _] at h1;exact⟨"dict",uM (.inl h1),iN (by decide) ⟨rfl,rfl,rfl⟩⟩
 rintro σ' H' ⟨rfl,rfl,hfu⟩;unfold zXx;walk_at "rd6";refine⟨.int S.many,zMe▸DGet.k (k:=kOf (Str.ofString "many")) sc1.hst,_,rfl,_,zWh▸DPut.k (k:=kOf (Str.ofString "many")) sc1.hst (by show 5<_;rw[mJ];decide), ?_⟩;have sc2:=sc1.wst (.str (duS S.du)) (.int ((S.many:Int)+1)) wv;have hc:¬(decide (S.many=200)||(zAt S.stk ||(decide (t.k=3∧S.stk.length=8)|| qQ t.k t.s)))=true:=by
  rw[hby,hfu,mM h200];decide
 have hy:qQ t.k t.s=false:=by
  cases h:qQ t.k t.s with
  | false=>rfl
  | true=>rw[h,tX] at hby;cases hby
 generalize upd H' st _=H2 at sc2⊢;have store:∀(M:St→Hp→Prop)(ex:List Addr)(H3:Hp)(x:V),Scn F H3 st o nn ex as S.stk (as.reverse.map V.ref) ((S.stk.map fun f=>V.str (tx f.nm)).reverse) (.str (duS S.du)) (.int ((S.many:Int)+1)) wv none→
   (as= []→S.stk= []→M [some (V.ref st),some (V.ref a),some (V.str (kR t.k)),some (V.str (tx t.s)),some (V.int (t.n:Int)),some (V.ref o),some x] (upd H3 st (.dK (stK o nn (.str (duS S.du)) (.int ((S.many:Int)+1)) x))))→
   (∀b as' us r vs,as=b::as'→S.stk= .row us::r→H3 b=some (.lst vs)→M [some (V.ref st),some (V.ref a),some (V.str (kR t.k)),some (V.str (tx t.s)),some (V.int (t.n:Int)),some (V.ref o),some x] (upd H3 b (.lst (vs++ [x]))))→
   (∀b as' ks us nm r ps,as=b::as'→S.stk= .rcd ks us nm::r→H3 b=some (.dK ps)→M [some (V.ref st),some (V.ref a),some (V.str (kR t.k)),some (V.str (tx t.s)),some (V.int (t.n:Int)),some (V.ref o),some x] (upd H3 b (.dK (ps++ [(nK nm,x)]))))→
   ∃ys,SqL K H3 o ys∧if(ys.length:Int)=0 then∃x_1,DPut H3 st (V.str (Str.ofString "whole")) x x_1∧M [some (V.ref st),some (V.ref a),some (V.str (kR t.k)),some (V.str (tx t.s)),some (V.int (t.n:Int)),some (V.ref o),some x] x_1
    else zGb K (V.ref o) (V.int (-1)) H3 fun x_1 H1=>∃x_2,tyR H1 x_1=some x_2∧if wD x_2 "list" =true then zGb K (V.ref o) (V.int (-1)) H1 fun x_3 H1=>tyV K "list" x_3 H1∧zGw x_3 [x] H1 fun x_4 H1=>M [some (V.ref st),some (V.ref a),some (V.str (kR t.k)),some (V.str (tx t.s)),some (V.int (t.n:Int)),some (V.ref o),some x] H1
     else zGb K (V.ref o) (V.int (-1)) H1 fun x_3 H2=>∃x_4,DGet H2 st (V.str (Str.ofString "names")) (some x_4)∧zGb K x_4 (V.int (-1)) H2 fun y H3=>∃a_1,x_3=V.ref a_1∧∃x_5,DPut H3 a_1 y x x_5∧M [some (V.ref st),some (V.ref a),some (V.str (kR t.k)),some (V.str (tx t.s)),some (V.int (t.n:Int)),some (V.ref o),some x] x_5:=by
  intro M ex H3 x sc3 m1 m2 m3;have hop:=sc3.op;have hst:=sc3.ho;have hnm:=sc3.hn;have hsd:=sc3.hst;have hsz:=wf.size;refine⟨_,SqL.of hst, ?_⟩;clear q3 q2 q1 eT sc2 sc1 sc sta1 hc hby hfu wf sc3;generalize S.stk=stk at*
  cases as with
  | nil=>
   cases stk with
   | cons _ _=>exact hop.elim
   | nil=>exact iP rfl ⟨_,zVe▸DPut.k (k:=kOf (Str.ofString "whole")) hsd (by show 5<_;rw[mJ];decide),m1 rfl rfl⟩
  | cons b as=>
   rw[wL] at hst;rw[wL];refine iN (by rw[mC];show¬((_+1:Nat):Int)=0;lia) (zW (SqL.of hst) (xE _ _) ?_)
   cases stk with
   | nil=>exact hop.elim
   | cons fr stk=>
    cases fr with
    | row us=>
     obtain⟨⟨vs,h1,h2⟩,h3⟩:=hop;rw[show vs++(none:Option V).toList=vs from mN _] at h1;have hvl:=h2.length;have h60:us.length≤60:=hsz _ mH;exact⟨"list",zRc h1,iP (by decide) (zW (SqL.of hst) (xE _ _) ⟨.inl ⟨rfl,_,SqL.of h1⟩,b,vs,x,rfl,rfl,h1,by rw[mJ];lia,m2 b as us stk vs rfl rfl h1⟩)⟩
    | rcd ks us nm=>
     obtain⟨⟨ps,h1,h2,h3,_⟩,h4⟩:=hop;rw[show ps++((none:Option V).map fun v=>(nK nm,v)).toList=ps from mN _] at h1;obtain⟨hk1,hk2⟩:=hrc ks us nm stk rfl;have hvn:xT ps (nK nm)=none:=by
      cases e:xT ps (nK nm) with
      | none=>rfl
      | some y=>exact absurd ((kO h2 nm).mp (by rw[e];rfl)) hk1
     have hpl:ps.length=ks.length:=by
      have:=congrArg List.length h2
      rwa [mZ,mZ] at this
     rw[show((Fr.rcd ks us nm::stk).map fun f=>V.str (tx f.nm)).reverse=(stk.map fun f=>V.str (tx f.nm)).reverse++ [V.str (tx nm)] by simp[Fr.nm]] at hnm;exact⟨"dict",uM (.inl h1),iN (by decide) (zW (SqL.of hst) (xE _ _) ⟨.ref nn,uQ▸DGet.k (k:=kOf (Str.ofString "names")) hsd,zW (SqL.of hnm) (xE _ _) ⟨b,rfl,_,vD x hvn▸DPut.k (k:=nK nm) h1 (by rw[mJ];lia),m3 b as ks us nm stk ps rfl rfl h1⟩⟩)⟩
 refine⟨t,rfl,hok,hbg,hy,h5,fun h3 v H3 g3 hv=>?_,fun h3 b H3 g3 hb0 hb=>?_⟩
 ·have sc3:=sc2.same g3
  rw[mG hc,mG h3] at q3;obtain⟨M1,hM1⟩:∃M1:St→Hp→Prop,M1=fun σ' H4=>σ'= [some (V.ref st),some (V.ref a),some (V.str (kR t.k)),some (V.str (tx t.s)),some (V.int (t.n:Int)),some (V.ref o),some v]∧∃fs' wv',Scn F H4 st o nn [] as fs' (as.reverse.map V.ref) ((fs'.map fun f=>V.str (tx f.nm)).reverse) (.str (duS S.du)) (.int ((S.many:Int)+1)) wv' none∧(as= []→fs'= []∧xF S.stk (S.many+1) (vS t.k t.s)=⟨fs', .done,S.many+1,vS t.k t.s⟩∧wv'=v)∧(as≠ []→xF S.stk (S.many+1) (vS t.k t.s)=⟨fs', .behind,S.many+1, .non⟩∧wv'=wv):=⟨_,rfl⟩;refine⟨M1, ?_, ?_⟩
  ·refine store M1 [] H3 v sc3 (fun e1 e2=>?_) (fun b as' us r vs e1 e2 hb=>?_) (fun b as' ks us nm r ps e1 e2 hb=>?_)<;>rw[hM1]
   rotate_left
   ·refine⟨rfl, .row (us++ [vS t.k t.s])::r,wv, ?_,fun z=>(by rw[e1] at z;cases z),fun _=>⟨by rw[e2];rfl,rfl⟩⟩
    rw[e1,e2] at sc3;have:=sc3.leafL hv hb;rw[e1];exact this
   ·refine⟨rfl, .rcd (ks++ [nm]) (us++ [vS t.k t.s]) nm::r,wv, ?_,fun z=>(by rw[e1] at z;cases z),fun _=>⟨by rw[e2];rfl,rfl⟩⟩
    rw[e1,e2] at sc3;have:=sc3.leafD hv hb;rw[e1];exact this
   refine⟨rfl,[],v, ?_,fun _=>⟨rfl,by rw[e2];rfl,rfl⟩,fun z=>absurd e1 z⟩
   ·have:=sc3.wst (.str (duS S.du)) (.int ((S.many:Int)+1)) v
    rw[e2] at this;exact this
  intro σ' H4 hM p hp;rw[hM1] at hM;obtain⟨rfl,fs',wv',sc4,hA,hB⟩:=hM;have sc5:=sc4.same (zH hp (.lst [V.str (Str.ofString "end"),V.str (Str.ofString "behind")]));have hp5:upd H4 p (.lst [V.str (Str.ofString "end"),V.str (Str.ofString "behind")]) p=_:=zF;generalize upd H4 p (.lst [V.str (Str.ofString "end"),V.str (Str.ofString "behind")])=H5 at sc5 hp5⊢;refine⟨_,rfl,o,rfl,_,SqL.of sc5.ho, ?_⟩;have hmk:¬V.str (kR t.k)=V.str (Str.ofString "mark"):=fun z=>h3 ((zAk hok (j:=3) (by decide)).mp (V.str.inj z))
  by_cases has:as= []
  ·obtain⟨e1,e2,e3⟩:=hA has
   subst has e1 e3;refine zW (SqL.of hp5) (v:=.str (Str.ofString "end")) rfl ⟨_,rfl,st,rfl,_,jI▸DPut.k (k:=kOf (Str.ofString "due")) sc5.hst (by show 5<_;rw[mJ];decide),_,rfl,rfl,iN hmk (q3 _ rfl _ ?_)⟩;rw[e2];exact⟨o,nn,[],wv',sc5.wst _ _ _,fun _=>hv _,fun _ z=>nomatch z⟩
  ·obtain⟨e1,e2⟩:=hB has
   have hl:0<((as.reverse.map V.ref).length:Int):=by
    rw[mZ,aI];have:=cB.mpr has
    lia
   rw[mK hl];refine zW (SqL.of hp5) (v:=.str (Str.ofString "behind")) rfl ⟨_,rfl,st,rfl,_,jI▸DPut.k (k:=kOf (Str.ofString "due")) sc5.hst (by show 5<_;rw[mJ];decide),_,rfl,rfl,iN hmk (q3 _ rfl _ ?_)⟩;rw[e1,e2];rw[e2] at sc5;exact⟨o,nn,as,wv,sc5.wst _ _ _,fun z=>absurd z has,hw2⟩
 ·have sc3:=sc2.fresh g3 hb0
  rw[mG hc,mK h3] at q3;obtain⟨M1,hM1⟩:∃M1:St→Hp→Prop,M1=fun σ' H4=>σ'= [some (V.ref st),some (V.ref a),some (V.str (kR t.k)),some (V.str (tx t.s)),some (V.int (t.n:Int)),some (V.ref o),some (V.ref b)]∧∃wv',Scn F H4 st o nn [] (b::as) ((if t.s= [91] then .row [] else .rcd [] [] [])::S.stk) (as.reverse.map V.ref) ((S.stk.map fun f=>V.str (tx f.nm)).reverse) (.str (duS S.du)) (.int ((S.many:Int)+1)) wv' none∧∀x,(b::as).getLast? =some x→wv'= .ref x:=⟨_,rfl⟩;refine⟨M1, ?_, ?_⟩
  ·have hbm:b∈mtb st o nn [b] as:=by simp
   have nb:∀x∈as,b≠x:=fun x hx z=>by
    have:=sc3.nd;simp only[mtb,nU,nH,pJ] at this;exact this.2.2.2.1 (by rw[z];exact hx)
   have opn:∀(H4:Hp)(wv':V),Scn F H4 st o nn [b] as S.stk (as.reverse.map V.ref) ((S.stk.map fun f=>V.str (tx f.nm)).reverse) (.str (duS S.du)) (.int ((S.many:Int)+1)) wv' (some (.ref b))→H4 b=H3 b→Scn F H4 st o nn [] (b::as) ((if t.s= [91] then .row [] else .rcd [] [] [])::S.stk) (as.reverse.map V.ref) ((S.stk.map fun f=>V.str (tx f.nm)).reverse) (.str (duS S.du)) (.int ((S.many:Int)+1)) wv' none:=fun H4 wv' z1 z2=>by
    rw[hb] at z2
    by_cases h91:t.s= [91]
    ·rw[mK h91] at z2⊢
     exact z1.openL z2
    ·rw[mG h91] at z2⊢
     exact z1.openD z2
   refine store M1 [b] H3 (.ref b) sc3 (fun e1 e2=>?_) (fun b2 as' us r vs e1 e2 hb2=>?_) (fun b2 as' ks us nm r ps e1 e2 hb2=>?_)<;>rw[hM1]
   ·refine⟨rfl, .ref b,opn _ _ ?_ (zL fun z=>?_),fun x hx=>?_⟩
    ·have:=sc3.wst (.str (duS S.du)) (.int ((S.many:Int)+1)) (.ref b)
     rw[e1,e2] at this;rw[e1,e2];exact this.any
    ·have:=sc3.nd
     simp only[mtb,nU,nH,pJ,mF,bX] at this;exact this.1.2.2.1 z.symm
    ·rw[e1] at hx
     cases hx;rfl
   ·refine⟨rfl,wv,opn _ _ ?_ (zL (nb b2 (by rw[e1];exact mH))),fun x hx=>hw2 x ?_⟩
    ·rw[e1,e2] at sc3
     rw[e1,e2];exact sc3.holdL _ hb2
    ·rw[e1] at hx⊢
     exact hx
   ·refine⟨rfl,wv,opn _ _ ?_ (zL (nb b2 (by rw[e1];exact mH))),fun x hx=>hw2 x ?_⟩
    ·have hk:=(hrc ks us nm r e2).1
     rw[e1,e2] at sc3;rw[e1,e2];exact sc3.holdD _ hb2 hk
    ·rw[e1] at hx⊢
     exact hx
  intro σ' H4 hM p hp;rw[hM1] at hM;obtain⟨rfl,wv',sc4,hw⟩:=hM;have sc5:=sc4.same (zH hp (.lst [V.str (Str.ofString "end"),V.str (Str.ofString "behind")]));have hp5:upd H4 p (.lst [V.str (Str.ofString "end"),V.str (Str.ofString "behind")]) p=_:=zF;generalize upd H4 p (.lst [V.str (Str.ofString "end"),V.str (Str.ofString "behind")])=H5 at sc5 hp5⊢;refine⟨_,rfl,o,rfl,_,SqL.of sc5.ho, ?_⟩;have hk3:V.str (kR t.k)=V.str (Str.ofString "mark"):=by rw[h3];rfl
  obtain⟨v,hv⟩:∃v,atI [V.str (Str.ofString "end"),V.str (Str.ofString "behind")] (if 0<((as.reverse.map V.ref).length:Int) then 1 else 0)=some v:=by
   by_cases h:0<((as.reverse.map V.ref).length:Int)
   ·rw[mK h];exact⟨_,rfl⟩
   ·rw[mG h];exact⟨_,rfl⟩
  have sc6:=sc5.wst v (.int ((S.many:Int)+1)) wv';refine zW (SqL.of hp5) hv ⟨_,rfl,st,rfl,_,jI▸DPut.k (k:=kOf (Str.ofString "due")) sc5.hst (by show 5<_;rw[mJ];decide),_,rfl,rfl,iP hk3 ⟨_,rfl, .inl ⟨rfl,_,SqL.of sc6.ho⟩,_,rfl,o,_,_,rfl,rfl,sc6.ho, ?_, ?_⟩⟩
  ·have:=wf.deep
   rw[mJ,mZ,aI]
   lia
  have sc7:=sc6.wo (as.reverse.map V.ref++ [.ref b]);refine⟨_,rfl,st,rfl, .ref nn,uQ▸DGet.k (k:=kOf (Str.ofString "names")) sc7.hst, .inl ⟨rfl,_,SqL.of sc7.hn⟩,nn,_,_,rfl,rfl,sc7.hn, ?_, ?_⟩
  ·have:=wf.deep
   rw[mJ,aI,mZ]
   lia
  have sc8:=sc7.wn ((S.stk.map fun f=>V.str (tx f.nm)).reverse++ [.str (Str.ofString "")]);refine⟨_,rfl,st,rfl,_,jI▸DPut.k (k:=kOf (Str.ofString "due")) sc8.hst (by show 5<_;rw[mJ];decide),q3 _ rfl _ ⟨o,nn,b::as,wv', ?_,fun z=>absurd z (rE _ _),hw⟩⟩;have sc9:=sc8.wst (.str (Str.ofString "first")) (.int ((S.many:Int)+1)) wv';rw[wL];rw[show(((if t.s= [91] then Fr.row [] else Fr.rcd [] [] [])::S.stk).map fun f=>V.str (tx f.nm)).reverse=(S.stk.map fun f=>V.str (tx f.nm)).reverse++ [.str (Str.ofString "")] from by
   rw[mY,List.reverse_cons];split<;>rfl]
  exact sc9
end
end K27
namespace K27
open PySem L2 PySem.W
seal L2.PSs L2.PS L2.PE L2.PT L2.PW L2.PA L2.PI L2.PG L2.PGs L2.PPs L2.PTs
abbrev sNn:Stmt:=top 54
abbrev sNx:Stmt:=top 55
theorem zUx(xs:List V)(x v:V):ixN (xs++ [x]).length (-1)=some xs.length∧(xs++ [x]).set xs.length v=xs++ [v]:=by
 constructor
 ·unfold ixN
  rw[mC,pO];rw[mG (by lia)];split
  ·congr 1;lia
  ·lia
 ·simp
theorem Scn.name{F H:Hp}{st o nn:Addr}{ex as:List Addr}{fs:List Fr}{os ns:List V}{du m wv:V}{ks:List (List Nat)}{us:List T}{nm:List Nat}(h:Scn F H st o nn ex as (.rcd ks us nm::fs) os ns du m wv none)(nm':List Nat):Scn F H st o nn ex as (.rcd ks us nm'::fs) os ns du m wv none:=by
 refine⟨h.nd,h.hst,h.ho,h.hn, ?_,h.hF⟩;have hop:=h.op
 cases as with
 | nil=>exact hop.elim
 | cons a as=>
  obtain⟨⟨ps,h1,h2,h3,_⟩,h4⟩:=hop;exact⟨⟨ps,h1,h2,h3,fun z=>nomatch z⟩,h4⟩
theorem zRa:∀{d e:Du},duS d=duS e→d=e:=by
 intro d e h;cases d<;>cases e<;>first | rfl | exact absurd h (by decide+kernel)
theorem in_fb(d:Du):inV (.str (duS d)) [V.str (Str.ofString "first"),V.str (Str.ofString "behind")]=true↔(d= .first∨d= .behind):=by
 cases d
 ·exact⟨fun z=>absurd z (by decide+kernel),fun z=>by rcases z with z | z<;>cases z⟩
 ·exact⟨fun _=>.inl rfl,fun _=>by decide+kernel⟩
 ·exact⟨fun _=>.inr rfl,fun _=>by decide+kernel⟩
 ·exact⟨fun z=>absurd z (by decide+kernel),fun z=>by rcases z with z | z<;>cases z⟩
 ·exact⟨fun z=>absurd z (by decide+kernel),fun z=>by rcases z with z | z<;>cases z⟩
 ·exact⟨fun z=>absurd z (by decide+kernel),fun z=>by rcases z with z | z<;>cases z⟩
theorem zTl(S:Mc)(s:List Nat):nxt S 5 s= .bad:=by
 have hT:∀st m,thg st m 5 s= .bad:=fun st m=>mK rfl;have hN:∀ks us st m,nmd ks us st m 5 s= .bad:=fun ks us st m=>mK (.inl (by decide));have hI:∀st m,inn st m 5 s= .bad:=fun st m=>by
  unfold inn;split
  ·exact hN _ _ _ _
  ·exact hT _ _
 unfold nxt;split
 ·rfl
 ·rw[mG (fun z=>absurd z.1 (by decide))]
 ·exact hT _ _
 ·exact hI _ _
 ·split
  ·rfl
  ·rw[mG (fun z=>absurd z.1 (by decide)),mG (fun z=>absurd z.1 (by decide))]
 ·split
  ·rfl
  ·rw[mG (fun z=>absurd z.1 (by decide)),hI]
section
variable{P:Program}{w:World}{K:PySem.W.Frag}{mg:Str→Option Value}{base:Heap}{f:Addr}{fd:FuncData}
def spNn:Sp:=fun vs H Q _=>∃(F:Hp)(st a:Addr)(S:Mc)(t:Lk)(ks:List (List Nat))(us:List T)(nm:List Nat)(r:List Fr),vs= [.ref st, .ref a]∧Sta F st H S∧Wf S∧TkO F a t∧OkL t∧t.k≠5∧S.stk= .rcd ks us nm::r∧
 (nmd ks us r S.many t.k t.s= .bad→∀H',Sta F st H' S→Q (.str (Str.ofString "bad")) H')∧(nmd ks us r S.many t.k t.s= .great→∀H',Sta F st H' S→Q (.str (Str.ofString "great")) H')∧(∀S',nmd ks us r S.many t.k t.s= .go S'→∀H',Sta F st H' S'→Q (.str (Str.ofString "")) H')
theorem scNn:zV ["_law_state","_law_token","_law_kind","_law_string","_law_at"] ["_law_state","_law_token"] (zO sNn):=by walk_at "sc"
theorem ok_nn(F:Fun K "_law_name_next" "_law_name_next" sNn f fd)(B:Bl mg)(M:Ms mg):FnOk P w K mg base CX0 1 f fd ["_law_state","_law_token"] spNn:=by
 refine F.ok scNn (by walk_at "ln") fun c A o s H vs Q E hr h=>?_;obtain⟨F,st,a,S,t,ks,us,nm,r,rfl,hS,wf,ha,hok,h5,hstk,q1,q2,q3⟩:=h;have nd:=scNn.nd;have hu:=kF hr;refine⟨_,(zB (zBv (pv 1) (zEz (n:=3) rfl (wE (yO (i:=2) nd rfl (pR rfl)) (wE (yO (i:=3) nd rfl (pR rfl)) (wE (yO (i:=4) nd rfl (pR rfl)) zAv)))))
  (zB (zR (PW.pt (jS (zK vE (pv 2) zD (zJ _)) (vX (zFm (zQj hu (pv 3) (zQ zX (yR hu (pv 0) zD (fun _ _=>rfl)) (wQ xN zC) (fun _ _=>rfl))))))) (zG (zN zD)) zM)
  (zB (zR (PW.pt (jS (zK qH (zP yG rfl B.len yK (zA (pv 3) zE)) zC (zJ _)) (vX (zK zS (zP kP rfl B.len yK (zA (zQ zX (yR hu (pv 0) zD (fun _ _=>rfl)) (wQ xN zC) (fun _ _=>rfl)) zE)) zC (zJ _))))) (zG (zN zD)) zM)
  (zB (zBv (pv 3) (yAa (yR hu (pv 0) zD (fun _ _=>rfl)) (wQ xN zC) zQu))
  (zB (vM hu (pv 0) zD zD rfl)
  (zG (zN zD))))))), ?_⟩
 walk_at "st";unfold yAp;walk_at "rd6";obtain⟨o,nn,as,wv,sc,hw1,hw2⟩:=id hS;have haH:H a=some (.tup [.str (kR t.k), .str (tx t.s), .int t.n]):=(wC (sc.hF a _ ha)).2;refine⟨_,SqT.of haH,rfl,_,_,rfl,_,_,rfl,_,_,rfl,rfl, ?_⟩;have hb:=sc.op;rw[hstk] at hb
 cases as with
 | nil=>exact hb.elim
 | cons b as=>
 obtain⟨⟨ps,hb1,hb2,hb3,_⟩,hb4⟩:=hb;rw[show ps++((none:Option V).map fun v=>(nK nm,v)).toList=ps from mN _] at hb1;have hpl:ps.length=ks.length:=by
  have:=congrArg List.length hb2
  rwa [mZ,mZ] at this
 have h30:=wf.size (.rcd ks us nm) (by rw[hstk];exact mH);have ho:=sc.ho;rw[wL] at ho;have eN:nmd ks us r S.many t.k t.s=if t.k≠1∨t.s∈ks then .bad else if 12<t.s.length∨ks.length=30 then .great else .go ⟨.rcd ks us t.s::r, .colon,S.many, .non⟩:=rfl;rw[eN] at q1 q2 q3
 by_cases hk:t.k=1
 ·have ek:kR t.k=Str.ofString "word":=by rw[hk];rfl
  refine⟨rfl,false,by rw[ek];simp,jR ⟨.ref o,wH▸DGet.k (k:=kOf (Str.ofString "open")) sc.hst,zW (SqL.of ho) (xE _ _) ⟨b,rfl,_,DGet.k (k:=nK t.s) hb1, ?_⟩⟩⟩
  by_cases hv:t.s∈ks
  ·exact iP ((kO hb2 _).mpr hv) (q1 (mK (.inr hv)) H hS)
  refine iN (fun z=>hv ((kO hb2 _).mp z)) ⟨_,rfl,by rw[zU];have:=hok.1;lia, ?_⟩;have n1:¬(t.k≠1∨t.s∈ks):=fun z=>z.elim (fun z=>z hk) hv;rw[mG n1] at q2 q3
  by_cases h12:12<t.s.length
  ·exact iP (by rw[zU];lia) (q2 (mK (.inl h12)) H hS)
  refine iN (by rw[zU];lia) ⟨.ref o,wH▸DGet.k (k:=kOf (Str.ofString "open")) sc.hst,zW (SqL.of ho) (xE _ _) ⟨b,rfl,ps, .inl hb1, ?_⟩⟩
  by_cases hl:ks.length=30
  ·exact iP (by lia) (q2 (mK (.inr hl)) H hS)
  refine iN (by lia) ?_;rw[mG (fun z=>z.elim h12 hl)] at q3;unfold gSub;walk_at "rd6";have hn:=sc.hn;rw[hstk,show((Fr.rcd ks us nm::r).map fun f=>V.str (tx f.nm)).reverse=(r.map fun f=>V.str (tx f.nm)).reverse++ [V.str (tx nm)] by simp[Fr.nm]] at hn;obtain⟨e1,e2⟩:=zUx ((r.map fun f=>V.str (tx f.nm)).reverse) (V.str (tx nm)) (V.str (tx t.s));refine⟨.ref nn,uQ▸DGet.k (k:=kOf (Str.ofString "names")) sc.hst,nn,_,-1,_,rfl,rfl,hn,e1, ?_⟩;rw[e2];have sc1:=sc.wn ((r.map fun f=>V.str (tx f.nm)).reverse++ [V.str (tx t.s)]);refine⟨_,jI▸DPut.k (k:=kOf (Str.ofString "due")) sc1.hst (by show 5<_;rw[mJ];decide),q3 _ rfl _ ⟨o,nn,b::as,wv, ?_,fun z=>absurd z (rE _ _),hw2⟩⟩;have sc2:=sc1.wst (.str (Str.ofString "colon")) (.int S.many) wv;rw[hstk] at sc2;rw[show((Fr.rcd ks us t.s::r).map fun f=>V.str (tx f.nm)).reverse=(r.map fun f=>V.str (tx f.nm)).reverse++ [V.str (tx t.s)] by simp[Fr.nm]];exact sc2.name t.s
 ·exact⟨rfl,true,by rw[tO,sK];exact fun z=>hk ((zAk hok (j:=1) (by decide)).mp (V.str.inj z)),gK (q1 (mK (.inl hk)) H hS)⟩
def kL:Nat→Str
 | 5=>Str.ofString "none"
 | k=>kR k
def TkN(H:Hp)(a:Addr)(t:Lk):Prop:=H a=some (.tup [.str (kL t.k), .str (tx t.s), .int t.n])
def yAq:Sp:=fun vs H Q _=>∃(F:Hp)(st a:Addr)(S:Mc)(t:Lk),vs= [.ref st, .ref a]∧Sta F st H S∧Wf S∧TkN F a t∧OkL t∧
 (nxt S t.k t.s= .bad→∀H' S',Sta F st H' S'→Wf S'→Q (.str (Str.ofString "bad")) H')∧(nxt S t.k t.s= .great→∀H',Sta F st H' S→Q (.str (Str.ofString "great")) H')∧(∀S',nxt S t.k t.s= .go S'→∀H',Sta F st H' S'→Q (.str (Str.ofString "")) H')∧(nxt S t.k t.s= .good→∀H',Sta F st H' S→Q (.str (Str.ofString "good")) H')
theorem scNx:zV ["_law_state","_law_token","_law_due_here","_law_mark","_law_around","_law_close"] ["_law_state","_law_token"] (zO sNx):=by walk_at "sc"
theorem ok_nx(F:Fun K "_law_next" "_law_next" sNx f fd)(B:Bl mg)(M:Ms mg)(G_law_thing_next:Dn P w K mg base 2 "_law_thing_next" ["_law_state","_law_token"] zYv)(G_law_name_next:Dn P w K mg base 1 "_law_name_next" ["_law_state","_law_token"] spNn):FnOk P w K mg base CX0 3 f fd ["_law_state","_law_token"] yAq:=by
 refine F.ok scNx (by walk_at "ln") fun c A o s H vs Q E hr h=>?_;obtain⟨F,st,a,S,t,rfl,hS,wf,ha,hok,q1,q2,q3,q4⟩:=h;have nd:=scNx.nd;have hu:=kF hr;refine⟨_,(zB (zR (zK zS (zQ yB (pv 1) zC (fun _ _=>rfl)) zD (zJ _)) (zG (zN zD)) zM)
  (zB (pS 2 nd (yR hu (pv 0) zD (fun _ _=>rfl)))
  (zB (xZ (pS 3 nd (vQ (zK zS (zQ yB (pv 1) zC (fun _ _=>rfl)) zD (zJ _)) (zQ yB (pv 1) zC (fun _ _=>rfl)) zD)))
  (zB (xZ (pS 4 nd (vQ (zK qH (zP yH rfl B.len yK (zA (yR hu (pv 0) zD (fun _ _=>rfl)) zE)) zC (zJ _)) (zQ zX (yR hu (pv 0) zD (fun _ _=>rfl)) (wQ xN zC) (fun _ _=>rfl)) jC)))
  (zB (zR (zK zS (pv 2) zD (zJ _)) (zG (zN (zQ zX (yF (zA zD (zA zD zE))) (yM yZ rfl B.int xO (zA (yA zS (zQ yB (pv 1) zC (fun _ _=>rfl)) zD (zJ _)) zE)) (fun _ _=>rfl)))) zM)
  (zB (zR (zK zS (pv 2) zD (zJ _)) (zB (vM hu (pv 0) zD zD rfl)
  (zG (zN (zQ zX (yF (zA zD (zA zD zE))) (yM yZ rfl B.int xO (zA (yA zS (pv 3) zD (zJ _)) zE)) (fun _ _=>rfl))))) zM)
  (zB (xZ (pS 5 nd (zQ zX (yF (zA zD (zA zD zE))) (yM yZ rfl B.int xO (zA (zP (wW (T:="list") (by decide)) rfl B.isinstance zT (zA (pv 4) (zA (vJ (v:=.ty "list") rfl B.list qG rfl) zE))) zE)) (fun _ _=>rfl))))
  (zB (xZ (zR (PW.pt (wA (zK zEg (pv 2) (yF (zA zD (zA zD zE))) (by with_unfolding_all rfl)) (xV (zK zS (pv 3) (pv 5) (zJ _))))) (zB (yY (zRn nN PySem.F.slot_list_pop PySem.F.type_list_pop zTd (yR hu (pv 0) zD (fun _ _=>rfl))))
  (zB (yY (zRn nN PySem.F.slot_list_pop PySem.F.type_list_pop zTd (yR hu (pv 0) zD (fun _ _=>rfl))))
  (zB (vM hu (pv 0) zD (zQ zX (yF (zA zD (zA zD zE))) (yM yZ rfl B.int xO (zA (yA qH (zP yH rfl B.len yK (zA (yR hu (pv 0) zD (fun _ _=>rfl)) zE)) zC (zJ _)) zE)) (fun _ _=>rfl)) rfl)
  (zG (zN zD))))) zM))
  (zB (zR (zK zS (pv 2) zD (zJ _)) (zB (vM hu (pv 0) zD zD rfl)
  (zG (zN (zQ zX (yF (zA zD (zA zD zE))) (yM yZ rfl B.int xO (zA (yA zS (pv 3) zD (zJ _)) zE)) (fun _ _=>rfl))))) zM)
  (zB (zR (PW.pt (wA (yT (zP (wW (T:="dict") (by decide)) rfl B.isinstance zT (zA (pv 4) (zA (vJ (v:=.ty "dict") rfl B.dict gU rfl) zE)))) (xV (zK vE (pv 2) zD (zJ _))))) (zG (zN (pD G_law_name_next hr (zA (pv 0) (zA (pv 1) zE))))) zM)
  (zG (zN (pD G_law_thing_next hr (zA (pv 0) (zA (pv 1) zE))))))))))))))), ?_⟩
 unfold zQp;walk_at "st";walk_at "rd6";obtain⟨o,nn,as,wv,sc,hw1,hw2⟩:=id hS;have haH:H a=some (.tup [.str (kL t.k), .str (tx t.s), .int t.n]):=(wC (sc.hF a _ ha)).2;refine yC (SqT.of haH) (v:=.str (kL t.k)) rfl ⟨rfl, ?_⟩
 by_cases hk5:t.k=5
 ·exact iP (by rw[hk5];rfl) (q1 (by rw[hk5];exact zTl S t.s) H S hS wf)
 have ekL:kL t.k=kR t.k:=by
  unfold kL;split
  ·exact absurd (by assumption) hk5
  ·rfl
 have haO:TkO F a t:=by
  unfold TkO;rw[←ekL];exact ha
 rw[ekL] at haH⊢;have hnone:¬V.str (kR t.k)=V.str (Str.ofString "none"):=fun z=>by
  have h1:=hok.k;have h2:=V.str.inj z;simp only[mF,nP,rD] at h1;rcases h1 with e | e | e | e | e | e<;>rw[e] at h2
  ·exact absurd h2 (by decide+kernel)
  ·exact absurd h2 (by decide+kernel)
  ·exact absurd h2 (by decide+kernel)
  ·exact absurd h2 (by decide+kernel)
  ·exact absurd h2 (by decide+kernel)
  ·exact hk5 e
 obtain⟨mk,hmk⟩:∃mk,mk=if t.k=3 then t.s else[]:=⟨_,rfl⟩;have mk_iff:∀c:Nat,(V.str (tx mk)=V.str (tx [c]))↔(t.k=3∧t.s= [c]):=fun c=>by
  constructor
  ·intro z
   have z:mk= [c]:=by
    have:=congrArg ts (V.str.inj z)
    rwa [yJ,yJ] at this
   rw[hmk] at z
   by_cases h:t.k=3
   ·rw[mK h] at z;exact⟨h,z⟩
   ·rw[mG h] at z;cases z
  ·rintro⟨h,z⟩
   rw[hmk,mK h,z]
 refine iN hnone ⟨_,zGd▸DGet.k (k:=kOf (Str.ofString "due")) sc.hst,fun σ' H'=>σ'= [some (.ref st),some (.ref a),some (.str (duS S.du)),some (.str (tx mk)),none,none]∧H'=H, ?_, ?_⟩
 ·refine yC (SqT.of haH) (v:=.str (kR t.k)) rfl ⟨rfl, ?_⟩
  by_cases h3:t.k=3
  ·refine iP (by rw[h3];rfl) (yC (SqT.of haH) (v:=.str (tx t.s)) rfl ⟨?_,rfl⟩)
   rw[hmk,mK h3]
  ·refine iN (fun z=>h3 ((zAk hok (j:=3) (by decide)).mp (V.str.inj z))) ⟨?_,rfl⟩
   rw[hmk,mG h3];rfl
 rintro σ' H' ⟨rfl,rfl⟩;obtain⟨av,hav⟩:∃av,av=(match as with | []=>V.non | b::_=>V.ref b):=⟨_,rfl⟩
 refine⟨fun σ' H2=>σ'= [some (.ref st),some (.ref a),some (.str (duS S.du)),some (.str (tx mk)),some av,none]∧H2=H', ?_, ?_⟩
 ·refine⟨_,rfl,st,rfl, .ref o,wH▸DGet.k (k:=kOf (Str.ofString "open")) sc.hst,o,rfl,_,SqL.of sc.ho, ?_⟩
  cases as with
  | nil=>exact iN (by decide) ⟨by rw[hav];rfl,rfl⟩
  | cons b as=>
   have ho:=sc.ho;rw[wL] at ho⊢;refine iP (by rw[mC];show(0:Int)<((_+1:Nat):Int);lia) ⟨_,rfl,st,rfl, .ref o,wH▸DGet.k (k:=kOf (Str.ofString "open")) sc.hst,zW (SqL.of ho) (xE _ _) ⟨by rw[hav];rfl,rfl⟩⟩
 rintro σ' H2 ⟨rfl,rfl⟩;refine⟨_,rfl,rfl, ?_⟩;have hlen:=sc.op.len;have d_end:∀d:Du,V.str (duS S.du)=V.str (duS d)↔S.du=d:=fun d=>⟨fun z=>zRa (V.str.inj z),fun z=>by rw[z]⟩
 by_cases h1:S.du= .done
 ·have eN:nxt S t.k t.s=if t.k=4 then .good else .bad:=by unfold nxt;rw[h1]
  rw[eN] at q1 q4;refine iP ((d_end .done).mpr h1) fun p hp=>⟨_,rfl, ?_⟩;have g:=zH hp (HO.lst [V.str (Str.ofString "bad"),V.str (Str.ofString "good")]);have hp3:upd H2 p (HO.lst [V.str (Str.ofString "bad"),V.str (Str.ofString "good")]) p=_:=zF;generalize upd H2 p (HO.lst [V.str (Str.ofString "bad"),V.str (Str.ofString "good")])=H3 at g hp3⊢;refine yC (SqT.of (g _ _ haH)) (v:=.str (kR t.k)) rfl ⟨rfl, ?_⟩
  by_cases h4:t.k=4
  ·rw[mK (show V.str (kR t.k)=V.str (Str.ofString "end") by rw[h4];rfl)]
   exact zW (SqL.of hp3) (v:=.str (Str.ofString "good")) rfl (q4 (mK h4) H3 (hS.same g))
  ·rw[mG (show¬V.str (kR t.k)=V.str (Str.ofString "end") from fun z=>h4 ((zAk hok (j:=4) (by decide)).mp (V.str.inj z)))]
   exact zW (SqL.of hp3) (v:=.str (Str.ofString "bad")) rfl (q1 (mG h4) H3 S (hS.same g) wf)
 refine iN (fun z=>h1 ((d_end .done).mp z)) ⟨_,rfl,rfl, ?_⟩
 by_cases h2:S.du= .colon
 ·have eN:nxt S t.k t.s=if t.k=3∧t.s= [58] then .go {S with du:=.thing} else .bad:=by unfold nxt;rw[h2]
  rw[eN] at q1 q3;refine iP ((d_end .colon).mpr h2) ⟨_,rfl,st,rfl,_,jI▸DPut.k (k:=kOf (Str.ofString "due")) sc.hst (by show 5<_;rw[mJ];decide), ?_⟩;have sc3:=sc.wst (.str (Str.ofString "thing")) (.int S.many) wv;have hw3:as= []→Rep (cut F (upd H2 st (.dK (stK o nn (.str (Str.ofString "thing")) (.int S.many) wv))) (mtb st o nn [] as)) wv S.whole:=fun z=>Rep.same (vR (fun _ z _=>z) fun b u hb e=>by rw[zL (fun y:b=st=>hb (by rw[y];simp))];exact e) _ _ (hw1 z);generalize upd H2 st (.dK (stK o nn (.str (Str.ofString "thing")) (.int S.many) wv))=H3 at sc3 hw3⊢;have sta3:Sta F st H3 {S with du:=.thing}:=⟨o,nn,as,wv,sc3,hw3,hw2⟩;intro p hp;have g:=zH hp (HO.lst [V.str (Str.ofString "bad"),V.str (Str.ofString "")]);have hp4:upd H3 p (HO.lst [V.str (Str.ofString "bad"),V.str (Str.ofString "")]) p=_:=zF;generalize upd H3 p (HO.lst [V.str (Str.ofString "bad"),V.str (Str.ofString "")])=H4 at g hp4⊢;refine⟨_,rfl,rfl, ?_⟩
  by_cases h58:t.k=3∧t.s= [58]
  ·rw[mK (show V.str (tx mk)=V.str (Str.ofString ":") from(mk_iff 58).mpr h58)]
   exact zW (SqL.of hp4) (v:=.str (Str.ofString "")) rfl (q3 _ (mK h58) H4 (sta3.same g))
  ·rw[mG (show¬V.str (tx mk)=V.str (Str.ofString ":") from fun z=>h58 ((mk_iff 58).mp z))]
   refine zW (SqL.of hp4) (v:=.str (Str.ofString "bad")) rfl (q1 (mG h58) H4 _ (sta3.same g) ⟨wf.deep,wf.many,wf.size,wf.inner,(fun z=>nomatch z),fun z=>?_,fun _=>wf.thg (.inr h2)⟩);rcases z with z | z | z | z<;>cases z
 refine iN (fun z=>h2 ((d_end .colon).mp z)) ?_;have hop:=sc.op;obtain⟨cl,hcl⟩:∃cl,cl=(match S.stk with | []=>[125] | f::_=>f.cls):=⟨_,rfl⟩
 have tyA:∀H3,Same H2 H3→∃x,tyR H3 av=some x∧(if wD x "list" =true then(1:Int) else 0)=(if cl= [93] then 1 else 0)∧(wD x "dict" =true↔∃ks us nm r,S.stk= .rcd ks us nm::r):=fun H3 g=>by
  clear q1 q2 q3 q4 sc hS hw1 wf;generalize S.stk=stk at*
  cases as with
  | nil=>
   cases stk with
   | cons _ _=>exact hop.elim
   | nil=>exact⟨"NoneType",by rw[hav];rfl,by rw[hcl];rfl,by constructor;(intro z;exact absurd z (by decide));(rintro⟨_,_,_,_,z⟩;cases z)⟩
  | cons b as=>
   cases stk with
   | nil=>exact hop.elim
   | cons fr stk=>
    cases fr with
    | row us=>
     obtain⟨⟨vs,h1,h2⟩,h3⟩:=hop;exact⟨"list",by rw[hav];exact zRc (g _ _ h1),by rw[hcl];rfl,by constructor;(intro z;exact absurd z (by decide));(rintro⟨_,_,_,_,z⟩;cases z)⟩
    | rcd ks us nm=>
     obtain⟨⟨ps,h1,h2,h3,_⟩,h4⟩:=hop;exact⟨"dict",by rw[hav];exact uM (.inl (g _ _ h1)),by rw[hcl];rfl,by constructor;(intro _;exact⟨_,_,_,_,rfl⟩);(intro _;decide)⟩
 have hcl2:cl= [93]∨cl= [125]:=by
  rw[hcl]
  cases S.stk with
  | nil=>exact .inr rfl
  | cons fr _=>
   cases fr with
   | row _=>exact .inl rfl
   | rcd _ _ _=>exact .inr rfl
 refine⟨fun σ' H3=>σ'= [some (.ref st),some (.ref a),some (.str (duS S.du)),some (.str (tx mk)),some av,some (.str (tx cl))]∧Same H2 H3, ?_, ?_⟩
 ·intro p hp
  have g:=zH hp (HO.lst [V.str (Str.ofString "}"),V.str (Str.ofString "]")]);have hp3:upd H2 p (HO.lst [V.str (Str.ofString "}"),V.str (Str.ofString "]")]) p=_:=zF;generalize upd H2 p (HO.lst [V.str (Str.ofString "}"),V.str (Str.ofString "]")])=H3 at g hp3⊢;obtain⟨x,e1,e2,_⟩:=tyA H3 g;refine⟨_,rfl,x,e1, ?_⟩;rw[e2];rcases hcl2 with e | e
  ·rw[mK e]
   exact zW (SqL.of hp3) (v:=.str (Str.ofString "]")) rfl ⟨by rw[e];rfl,g⟩
  ·rw[mG (by rw[e];decide)]
   exact zW (SqL.of hp3) (v:=.str (Str.ofString "}")) rfl ⟨by rw[e];rfl,g⟩
 rintro σ' H3 ⟨rfl,g3⟩;have sc3:=sc.same g3;have sta3:=hS.same g3;obtain⟨M4,hM4⟩:∃M4:St→Hp→Prop,M4=fun σ' H4=>σ'= [some (.ref st),some (.ref a),some (.str (duS S.du)),some (.str (tx mk)),some av,some (.str (tx cl))]∧Same H3 H4∧¬((S.du= .first∨S.du= .behind)∧t.k=3∧t.s=cl):=⟨_,rfl⟩;refine⟨M4,⟨_,rfl,fun p hp=>?_⟩, ?_⟩
 ·have g:=zH hp (HO.lst [V.str (Str.ofString "first"),V.str (Str.ofString "behind")])
  have hp4:upd H3 p (HO.lst [V.str (Str.ofString "first"),V.str (Str.ofString "behind")]) p=_:=zF;generalize upd H3 p (HO.lst [V.str (Str.ofString "first"),V.str (Str.ofString "behind")])=H4 at g hp4⊢;have sc4:=sc3.same g;refine⟨p,_,rfl, .inl (SqL.of hp4),rfl,rfl,_,rfl, ?_⟩;have hin:=in_fb S.du
  by_cases hfb:S.du= .first∨S.du= .behind
  ·refine iP (by show inV _ _=true;exact hin.mpr hfb) ⟨_,rfl,_,rfl,rfl, ?_⟩
   by_cases hmc:t.k=3∧t.s=cl
   ·refine iP (by rw[hmk,mK hmc.1,hmc.2]) ?_
    have hne:=wf.nonE (hfb.imp id .inl);obtain⟨fr,r,hstk⟩:=rG hne;have eN:nxt S t.k t.s= .go (xF r S.many fr.tree):=by
     have hs:t.s=fr.cls:=by rw[hmc.2,hcl,hstk]
     rcases hfb with h | h
     ·unfold nxt;rw[h,hstk];exact mK ⟨hmc.1,hs⟩
     ·unfold nxt;rw[h,hstk];exact mK ⟨hmc.1,hs⟩
    have q3':=q3 _ eN
    cases as with
    | nil=>rw[hstk] at hlen;cases hlen
    | cons b as=>
    have ho:=sc4.ho;rw[wL] at ho;have sc5:=sc4.wo (as.reverse.map V.ref);refine⟨_,rfl,st,rfl, .ref o,wH▸DGet.k (k:=kOf (Str.ofString "open")) sc4.hst, .inl ⟨rfl,_,SqL.of ho⟩,o,_, .ref b,rfl,rfl,ho,by simp, ?_⟩;rw[List.dropLast_concat];generalize upd H4 o (.lst (as.reverse.map V.ref))=H5 at sc5⊢;have hn:=sc5.hn;rw[hstk,show((fr::r).map fun f=>V.str (tx f.nm)).reverse=(r.map fun f=>V.str (tx f.nm)).reverse++ [V.str (tx fr.nm)] by simp] at hn;have sc6:=sc5.wn ((r.map fun f=>V.str (tx f.nm)).reverse);refine⟨_,rfl,st,rfl, .ref nn,uQ▸DGet.k (k:=kOf (Str.ofString "names")) sc5.hst, .inl ⟨rfl,_,SqL.of hn⟩,nn,_, .str (tx fr.nm),rfl,rfl,hn,by simp, ?_⟩;rw[List.dropLast_concat];generalize upd H5 nn (.lst ((r.map fun f=>V.str (tx f.nm)).reverse))=H6 at sc6⊢;intro p6 hp6;have sc7:=sc6.same (zH hp6 (.lst [V.str (Str.ofString "end"),V.str (Str.ofString "behind")]));have hp7:upd H6 p6 (.lst [V.str (Str.ofString "end"),V.str (Str.ofString "behind")]) p6=_:=zF;generalize upd H6 p6 (.lst [V.str (Str.ofString "end"),V.str (Str.ofString "behind")])=H7 at sc7 hp7⊢;refine⟨_,rfl,st,rfl, .ref o,wH▸DGet.k (k:=kOf (Str.ofString "open")) sc7.hst,o,rfl,_,SqL.of sc7.ho, ?_⟩;rw[hstk] at sc7 hlen
    cases r with
    | nil=>
     cases as with
     | cons _ _=>cases hlen
     | nil=>
     refine zW (SqL.of hp7) (v:=.str (Str.ofString "end")) rfl ⟨_,rfl,st,rfl,_,jI▸DPut.k (k:=kOf (Str.ofString "due")) sc7.hst (by show 5<_;rw[mJ];decide),q3' _ ?_⟩;have hwb:=hw2 b rfl;obtain⟨c1,c2⟩:=(sc7.wst (.str (Str.ofString "end")) (.int S.many) wv).close;refine⟨o,nn,[],wv,c1,fun _=>?_,fun _ z=>nomatch z⟩;rw[←hwb] at c2;exact c2
    | cons f2 r=>
     cases as with
     | nil=>cases hlen
     | cons b2 as=>
     rw[mK (show 0<(((b2::as).reverse.map V.ref).length:Int) by rw[wL,mC];show(0:Int)<((_+1:Nat):Int);lia)];refine zW (SqL.of hp7) (v:=.str (Str.ofString "behind")) rfl ⟨_,rfl,st,rfl,_,jI▸DPut.k (k:=kOf (Str.ofString "due")) sc7.hst (by show 5<_;rw[mJ];decide),q3' _ ?_⟩;obtain⟨c1,c2⟩:=(sc7.wst (.str (Str.ofString "behind")) (.int S.many) wv).close;refine⟨o,nn,b2::as,wv, ?_,fun z=>absurd z (rE _ _),fun x hx=>hw2 x hx⟩;have en:∀t:T,(f2.add t).nm=f2.nm:=fun t=>by cases f2<;>rfl
     rw[show((xF (f2::r) S.many fr.tree).stk.map fun f=>V.str (tx f.nm)).reverse=((f2::r).map fun f=>V.str (tx f.nm)).reverse by
      show((f2.add fr.tree::r).map fun f=>V.str (tx f.nm)).reverse=_;rw[mY,en,mY]]
     exact c1
   ·refine iN (fun z=>hmc ?_) ?_
    ·rcases hcl2 with e | e
     ·rw[e] at z⊢;exact(mk_iff 93).mp z
     ·rw[e] at z⊢;exact(mk_iff 125).mp z
    ·rw[hM4];exact⟨rfl,g,fun y=>hmc y.2⟩
  ·refine iN (fun z=>hfb (hin.mp z)) ?_
   rw[hM4];exact⟨rfl,g,fun y=>hfb y.1⟩
 intro σ' H4 hM;rw[hM4] at hM;obtain⟨rfl,g4,hno⟩:=hM;have sc4:=sc3.same g4;have sta4:=sta3.same g4;refine⟨_,rfl,rfl, ?_⟩;have hnc:∀fr r,S.stk=fr::r→(S.du= .first∨S.du= .behind)→¬(t.k=3∧t.s=fr.cls):=fun fr r e1 e2 z=>hno ⟨e2,z.1,by rw[z.2,hcl,e1]⟩
 by_cases hbh:S.du= .behind
 ·obtain⟨fr,r,hstk⟩:=rG (wf.nonE (.inr (.inl hbh)))
  have eN:nxt S t.k t.s=if t.k=3∧t.s= [44] then .go {S with du:=.more} else .bad:=by
   unfold nxt;rw[hbh,hstk];exact mG (hnc fr r hstk (.inr hbh))
  rw[eN] at q1 q3;refine iP ((d_end .behind).mpr hbh) ⟨_,rfl,st,rfl,_,jI▸DPut.k (k:=kOf (Str.ofString "due")) sc4.hst (by show 5<_;rw[mJ];decide), ?_⟩;have sc5:=sc4.wst (.str (Str.ofString "more")) (.int S.many) wv;have has:as≠ []:=fun z=>by rw[z,hstk] at hlen;cases hlen
  generalize upd H4 st (.dK (stK o nn (.str (Str.ofString "more")) (.int S.many) wv))=H5 at sc5⊢;have sta5:Sta F st H5 {S with du:=.more}:=⟨o,nn,as,wv,sc5,fun z=>absurd z has,hw2⟩;intro p hp;have g:=zH hp (HO.lst [V.str (Str.ofString "bad"),V.str (Str.ofString "")]);have hp6:upd H5 p (HO.lst [V.str (Str.ofString "bad"),V.str (Str.ofString "")]) p=_:=zF;generalize upd H5 p (HO.lst [V.str (Str.ofString "bad"),V.str (Str.ofString "")])=H6 at g hp6⊢;refine⟨_,rfl,rfl, ?_⟩
  by_cases h44:t.k=3∧t.s= [44]
  ·rw[mK (show V.str (tx mk)=V.str (Str.ofString ",") from(mk_iff 44).mpr h44)]
   exact zW (SqL.of hp6) (v:=.str (Str.ofString "")) rfl (q3 _ (mK h44) H6 (sta5.same g))
  ·rw[mG (show¬V.str (tx mk)=V.str (Str.ofString ",") from fun z=>h44 ((mk_iff 44).mp z))]
   refine zW (SqL.of hp6) (v:=.str (Str.ofString "bad")) rfl (q1 (mG h44) H6 _ (sta5.same g) ⟨wf.deep,wf.many,wf.size,wf.inner,(fun z=>nomatch z),(fun _=>by show S.stk≠ [];rw[hstk];exact rE _ _),fun z=>?_⟩);rcases z with z | z<;>cases z
 refine iN (fun z=>hbh ((d_end .behind).mp z)) ⟨_,rfl, ?_⟩;obtain⟨x,e1,_,e3⟩:=tyA H4 (g3.trans g4);refine⟨x,e1, ?_⟩;have thing:(∀ks us nm r,S.stk= .rcd ks us nm::r→nm∉ks∧ks.length<30)→nxt S t.k t.s=thg S.stk S.many t.k t.s→zYv [V.ref st,V.ref a] H4 Q E0:=fun z1 z2=>by
  rw[z2] at q1 q2 q3;exact⟨F,st,a,S,t,rfl,sta4,wf,haO,hok,hk5,z1,fun y H' hs=>q1 y H' S hs wf,q2,q3⟩
 by_cases hrc:∃ks us nm r,S.stk= .rcd ks us nm::r
 ·refine iP (e3.mpr hrc) ⟨_,rfl,rfl, ?_⟩
  obtain⟨ks,us,nm,r,hstk⟩:=hrc
  by_cases hth:S.du= .thing
  ·refine⟨false,by rw[aW];exact nB ((d_end .thing).mpr hth),jR ⟨_,rfl,_,rfl,thing (fun ks us nm r e=>?_) (by unfold nxt;rw[hth])⟩⟩
   obtain⟨ks',us',nm',y1,y2,y3⟩:=wf.thg (.inl hth) _ _ e;cases y1;exact⟨y2,y3⟩
  ·refine⟨true,by rw[tO,sK];exact fun z=>hth ((d_end .thing).mp z),gK ⟨_,rfl,_,rfl, ?_⟩⟩
   have eN:nxt S t.k t.s=nmd ks us r S.many t.k t.s:=by
    unfold nxt;rw[hstk]
    cases hd:S.du with
    | thing=>exact absurd hd hth
    | behind=>exact absurd hd hbh
    | colon=>exact absurd hd h2
    | done=>exact absurd hd h1
    | first=>exact mG (hnc _ _ hstk (.inl hd))
    | more=>rfl
   rw[eN] at q1 q2 q3;exact⟨F,st,a,S,t,ks,us,nm,r,rfl,sta4,wf,haO,hok,hk5,hstk,fun y H' hs=>q1 y H' S hs wf,q2,q3⟩
 ·refine iN (fun z=>hrc (e3.mp z)) ⟨_,rfl,_,rfl,thing (fun ks us nm r e=>absurd ⟨ks,us,nm,r,e⟩ hrc) ?_⟩
  have hin:inn S.stk S.many t.k t.s=thg S.stk S.many t.k t.s:=by
   unfold inn;split
   ·rename_i e;exact absurd ⟨_,_,_,_,e⟩ hrc
   ·rfl
  unfold nxt
  cases hd:S.du with
  | thing=>rfl
  | behind=>exact absurd hd hbh
  | colon=>exact absurd hd h2
  | done=>exact absurd hd h1
  | more=>exact hin
  | first=>
   obtain⟨fr,r,hstk⟩:=rG (wf.nonE (.inl hd));rw[hstk] at hin⊢;exact(mG (hnc _ _ hstk (.inl hd))).trans hin
end
end K27
namespace K27
open PySem L2 PySem.W
seal L2.PSs L2.PS L2.PE L2.PT L2.PW L2.PA L2.PI L2.PG L2.PGs L2.PPs L2.PTs
abbrev sDu:Stmt:=top 56
def Tks(H:Hp)(xs:List V)(l:List Lk):Prop:=xs.length=l.length∧∀(i:Nat) t,l[i]? =some t→∃a,xs[i]? =some (.ref a)∧TkN H a t
def S0:Mc:=⟨[], .thing,0, .non⟩
theorem wf0:Wf S0:=⟨by decide,by decide,(fun f hf=>nomatch hf),(fun f hf=>nomatch hf),(fun z=>nomatch z),(fun z=>by rcases z with z | z | z | z<;>cases z),fun _ f r z=>nomatch z⟩
theorem zRx(o nn:Addr):gM [] (stK o nn (.str (Str.ofString "thing")) (.int 0) .non)=stK o nn (.str (Str.ofString "thing")) (.int 0) .non:=by
 unfold gM stK;simp only[bQ,List.foldl_nil];rw[vD (kvs:=([]:List (Key×V))) _ kG,nH];rw[vD (kvs:=[(kOf (Str.ofString "open"),V.ref o)]) _ (by rw[yL uS,kG]),nU,nH];rw[vD (kvs:=[(kOf (Str.ofString "open"),V.ref o),(kOf (Str.ofString "names"),V.ref nn)]) _ (by rw[yL gJ,yL jY,kG]),nU,nU,nH];rw[vD (kvs:=[(kOf (Str.ofString "open"),V.ref o),(kOf (Str.ofString "names"),V.ref nn),(kOf (Str.ofString "due"),V.str (Str.ofString "thing"))]) _ (by rw[yL jU,yL jJ,yL gN,kG]),nU,nU,nU,nH];rw[vD (kvs:=[(kOf (Str.ofString "open"),V.ref o),(kOf (Str.ofString "names"),V.ref nn),(kOf (Str.ofString "due"),V.str (Str.ofString "thing")),(kOf (Str.ofString "many"),V.int 0)]) _ (by rw[yL qY,yL qL,yL jT,yL jF,kG])]
 rfl
theorem sta0{H:Hp}{st o nn:Addr}(h1:H st=none)(h2:upd H st (.dK []) o=none)(h3:upd (upd H st (.dK [])) o (.lst []) nn=none):Sta H st (upd (upd (upd (upd H st (.dK [])) o (.lst [])) nn (.lst [])) st (.dK (stK o nn (.str (Str.ofString "thing")) (.int 0) .non))) S0:=by
 have n1:o≠st:=fun z=>by rw[z,zF] at h2;cases h2
 have n2:nn≠o:=fun z=>by rw[z,zF] at h3;cases h3
 have n3:nn≠st:=fun z=>by rw[z,zL (Ne.symm n1),zF] at h3;cases h3
 have e2:H o=none:=by rw[zL n1] at h2;exact h2
 have e3:H nn=none:=by rw[zL n2,zL n3] at h3;exact h3
 refine⟨o,nn,[], .non,⟨?_,zF,by rw[zL n1,zL (Ne.symm n2),zF];rfl,by rw[zL n3,zF];rfl,nJ,fun b u e=>?_⟩,fun _=>rfl,fun _ z=>nomatch z⟩
 ·simp only[mtb,mN,pJ,mF,nP,rD,bX,not_false_eq_true,List.nodup_nil,and_true]
  exact⟨⟨Ne.symm n1,Ne.symm n3⟩,Ne.symm n2⟩
 ·have b1:b≠st:=fun z=>by rw[z,h1] at e;cases e
  have b2:b≠o:=fun z=>by rw[z,e2] at e;cases e
  have b3:b≠nn:=fun z=>by rw[z,e3] at e;cases e
  rw[jB (by simp only[mtb,mN,mF,nP,rD,bX];exact⟨b1,b2,b3⟩),zL b1,zL b3,zL b2,zL b1];exact e
section
variable{P:Program}{w:World}{K:PySem.W.Frag}{mg:Str→Option Value}{base:Heap}{f:Addr}{fd:FuncData}
def spDu:Sp:=fun vs H Q _=>∃(p:Addr)(xs:List V)(l:List Lk),vs= [.ref p]∧H p=some (.lst xs)∧Tks H xs l∧OkLs l∧l.length≤100000∧run S0 l≠ .no∧
 (∀n,run S0 l= .bad n→∀q H',Same H H'→H' q=some (.tup [.str (Str.ofString "bad"), .int n])→Q (.ref q) H')∧
 (run S0 l= .great→∀q n H',Same H H'→H' q=some (.tup [.str (Str.ofString "great"), .int n])→Q (.ref q) H')∧
 (∀t,run S0 l= .good t→∀q v H',Same H H'→H' q=some (.tup [.str (Str.ofString "good"),v])→Rep H' v t→Q (.ref q) H')
theorem scDu:zV ["_law_row","_law_state","_law_token","_law_word"] ["_law_row"] (zO sDu):=by walk_at "sc"
theorem ok_du(F:Fun K "_law_due" "_law_due" sDu f fd)(B:Bl mg)(M:Ms mg)(G_law_next:Dn P w K mg base 3 "_law_next" ["_law_state","_law_token"] yAq):FnOk P w K mg base CX0 4 f fd ["_law_row"] spDu:=by
 refine F.ok scDu (by walk_at "ln") fun c A o s H vs Q E hr h=>?_;obtain⟨p,xs,l,rfl,hp,htk,hok,hl,hno,q1,q2,q3⟩:=h;have nd:=scDu.nd;have hu:=kF hr;refine⟨_,(zB (pS 1 nd (zMf (wB zD (yF zE) (wB zD (yF zE) (wB zD zD (wB zD zC (wB zD jC zMd))))) (by rfl) (by rfl) (rE _ _) (by decide)))
  (zB (zFs PassesOwn.never rfl (zWz (pv 0)) (yO (i:=2) nd rfl (pR rfl)) (zB (pS 3 nd (pD G_law_next hr (zA (pv 1) (zA (pv 2) zE))))
  (zB (zR (zK zS (pv 3) zD (zJ _)) (zG (zN (yP (zA zD (zA (yR hu (pv 1) zD (fun _ _=>rfl)) zE))))) zM)
  (zG (zR (zK vE (pv 3) zD (zJ _)) (zG (zN (yP (zA (pv 3) (zA (zQ yB (pv 2) zC (fun _ _=>rfl)) zE))))) zM)))))
  (zG (zN (yP (zA zD (zA jC zE))))))), ?_⟩
 walk_at "st";walk_at "rd6";intro st h1 o h2 nn h3;have n1:o≠st:=fun z=>by rw[z,zF] at h2;cases h2
 have n3:nn≠st:=fun z=>by rw[z,zL (Ne.symm n1),zF] at h3;cases h3
 refine⟨by rw[zL (Ne.symm n3),zL (Ne.symm n1),zF],stK o nn (.str (Str.ofString "thing")) (.int 0) .non,rfl,by show 5≤15;lia, ?_⟩;rw[zRx];have hs0:=sta0 h1 h2 h3;generalize upd (upd (upd (upd H st (.dK [])) o (.lst [])) nn (.lst [])) st (.dK (stK o nn (.str (Str.ofString "thing")) (.int 0) .non))=H1 at hs0⊢;have g1:=hs0.fr;refine⟨⟨xs,SqL.of (g1 _ _ hp)⟩,zOv (xs:=xs) (fun i σ H2=>∃o1 o2 S,σ= [some (.ref p),some (.ref st),o1,o2]∧Sta H st H2 S∧Wf S∧run S0 l=run S (l.drop i)) ⟨none,none,S0,rfl,hs0,wf0,rfl⟩ (fun i σ H2 _ ⟨_,_,_,_,z,_⟩=>SqL.of (z.fr _ _ hp)) ?_ ?_⟩
 ·rintro i x σ H2 hx ⟨o1,o2,S,rfl,hS,wf,hrun⟩
  have hil:=(nG.mp hx).1;rw[htk.1] at hil;have ht:l[i]? =some l[i]:=by simp[hil]
  obtain⟨a,ha,htn⟩:=htk.2 i _ ht;rw[hx] at ha;cases ha;generalize l[i]=t at ht htn;have hdr:l.drop i=t::l.drop (i+1):=by
   rw[sB hil];have:=(nG.mp ht).2;rw[this]
  rw[hdr] at hrun;have hokt:=hok t (pB ht);walk_at "rd6";refine⟨H,st,a,S,t,rfl,hS,wf,htn,hokt,fun e H' S' hs' wf'=>?_,fun e H' hs'=>?_,fun S' e H' hs'=>?_,fun e H' hs'=>?_⟩
  ·refine⟨rfl,iN (by decide+kernel) ⟨rfl,true,by decide+kernel,gK (yC (SqT.of (hs'.fr _ _ htn)) (v:=.int t.n) rfl fun p5 hp5=>q1 t.n (hrun.trans (vK e)) p5 _ (hs'.fr.trans (zH hp5 _)) zF)⟩⟩
  ·refine⟨rfl,iN (by decide+kernel) ⟨rfl,true,by decide+kernel,gK (yC (SqT.of (hs'.fr _ _ htn)) (v:=.int t.n) rfl fun p5 hp5=>q2 (hrun.trans (zAg e)) p5 t.n _ (hs'.fr.trans (zH hp5 _)) zF)⟩⟩
  ·exact⟨rfl,iN (by decide+kernel) ⟨rfl,false,by decide+kernel,jR ⟨⟨_,rfl⟩,S',hs',zFw wf e,hrun.trans (jG e)⟩⟩⟩
  ·have hdn:S.du= .done:=by
    have e':=e;unfold nxt at e';split at e'
    ·assumption
    ·split at e'<;>cases e'
    ·exact absurd e' qD
    ·unfold inn at e'
     split at e'
     ·exact absurd e' kE
     ·exact absurd e' qD
    ·split at e'
     ·cases e'
     split at e'
     ·cases e'
     split at e'<;>cases e'
    ·split at e'
     ·cases e'
     split at e'
     ·cases e'
     unfold inn at e';split at e'
     ·exact absurd e' kE
     ·exact absurd e' qD
   have hfr:=hs'.fr;obtain⟨o',nn',as,wv,sc,hw1,hw2⟩:=hs';have has:as= []:=by
    have:=sc.op.len;rw[wf.done hdn] at this;exact nY this
   refine⟨rfl,iP rfl ⟨wv,zVm▸DGet.k (k:=kOf (Str.ofString "whole")) sc.hst,fun p5 hp5=>?_⟩⟩;refine q3 S.whole (hrun.trans (zIq e)) p5 wv _ (hfr.trans (zH hp5 _)) zF (Rep.same (fun b u eb=>zH hp5 _ _ _ (kI eb).2.2.1) _ _ (hw1 has))
 ·rintro σ H2 ⟨o1,o2,S,rfl,hS,wf,hrun⟩
  rw[htk.1,cU] at hrun;exact absurd hrun hno
end
end K27
namespace K27
open PySem L2 PySem.W
seal L2.PSs L2.PS L2.PE L2.PT L2.PW L2.PA L2.PI L2.PG L2.PGs L2.PPs L2.PTs
abbrev sOn:Stmt:=top 57
abbrev sTo:Stmt:=top 58
theorem bt_VE:bootBuiltins "ValueError" =some (.type "ValueError"):=by decide+kernel
structure Cf(K:Frag)(mg:Str→Option Value)(d:Nat→Addr)(B:Addr):Prop where
 mV:mg "ValueError" =none
 mB:mg "CabinetError" =some (.ref B)
 m0:mg "BadText" =some (.ref (d 0))
 m1:mg "TooGreat" =some (.ref (d 1))
 m2:mg "NoPlace" =some (.ref (d 2))
 x0:exmOne K (.ref (d 0)) (.ref B)=some true
 x1:exmOne K (.ref (d 1)) (.ref B)=some true
 G0:gR K (d 0)
 G1:gR K (d 1)
 at_:findIn K (.ref (d 0)) "at" =some none
 k00:kitOne K (.ref (d 0)) (.ref (d 0))=some true
 k01:kitOne K (.ref (d 0)) (.ref (d 1))=some false
 k02:kitOne K (.ref (d 0)) (.ref (d 2))=some false
 k0V:kitOne K (.ref (d 0)) (.type "ValueError")=some true
 k10:kitOne K (.ref (d 1)) (.ref (d 0))=some false
 k11:kitOne K (.ref (d 1)) (.ref (d 1))=some true
 k12:kitOne K (.ref (d 1)) (.ref (d 2))=some false
 k1V:kitOne K (.ref (d 1)) (.type "ValueError")=some true
section
variable{P:Program}{w:World}{K:PySem.W.Frag}{mg:Str→Option Value}{base:Heap}{f:Addr}{fd:FuncData}{d:Nat→Addr}{Bs:Addr}
def spOn(d:Nat→Addr):Sp:=fun vs H Q _=>∃x,vs= [.ref x]∧(CaughtZ H x (d 0)∨CaughtZ H x (d 1))∧Q (.bl true) H
theorem scOn:zV ["_law_e","_law_one_here"] ["_law_e"] (zO sOn):=by walk_at "sc"
theorem ok_on(F:Fun K "_law_one" "_law_one" sOn f fd)(B:Bl mg)(B5:Bl5 mg)(W:Cf K mg d Bs):FnOkH P w K mg base 1 f fd ["_law_e"] (spOn d):=by
 refine F.okh scOn (by walk_at "ln") fun c A o s H vs Q E hr h=>?_;obtain⟨x,rfl,hc,q⟩:=h;have nd:=scOn.nd;have mV:=W.mV;refine⟨_,(zB (pS 1 nd (yA vE (zP kN rfl B.isinstance zT (zA (pv 0) (zA (jL (v:=.ref (d 0)) rfl W.m0 rfl) zE))) (zP kN rfl B.isinstance zT (zA (pv 0) (zA (jL (v:=.ref (d 1)) rfl W.m1 rfl) zE))) (zJ _)))
  (zG (zN (wI (pv 1) (wI (zP (zPi (T:="ValueError")) rfl B.isinstance zT (zA (pv 0) (zA (vJ (v:=.ty "ValueError") rfl mV bt_VE rfl) zE))) (xL (zSb (zP kN rfl B.isinstance zT (zA (pv 0) (zA (jL (v:=.ref (d 2)) rfl W.m2 rfl) zE)))))))))), ?_⟩
 walk_at "st";walk_at "rd6";rcases hc with hc | hc
 ·exact⟨x,_,_,⟨rfl,rfl⟩,hc,W.G0,true,W.k00,x,_,_,⟨rfl,rfl⟩,hc,W.G0,false,W.k01,true,rfl,iP rfl ⟨_,hc,W.G0,true,W.k0V,iP rfl ⟨x,_,_,⟨rfl,rfl⟩,hc,W.G0,false,W.k02,q⟩⟩⟩
 ·exact⟨x,_,_,⟨rfl,rfl⟩,hc,W.G1,false,W.k10,x,_,_,⟨rfl,rfl⟩,hc,W.G1,true,W.k11,true,rfl,iP rfl ⟨_,hc,W.G1,true,W.k1V,iP rfl ⟨x,_,_,⟨rfl,rfl⟩,hc,W.G1,false,W.k12,q⟩⟩⟩
theorem scTo:zV ["_law_text","_law_e"] ["_law_text"] (zO sTo):=by walk_at "sc"
def spTo:Sp:=fun vs H Q _=>∃(L:List Nat)(l:List Lk),vs= [.str (tx L)]∧Src L l∧L.length≤20000∧
 (∀n,gS [] 0 l= .bad n→∀q H',Same H H'→H' q=some (.tup [.str (Str.ofString "bad"), .int n])→Q (.ref q) H')∧
 (gS [] 0 l= .great→∀q H',Same H H'→H' q=some (.tup [.str (Str.ofString "great"), .non])→Q (.ref q) H')∧
 (∀t,gS [] 0 l= .good t→∀q v H',Same H H'→H' q=some (.tup [.str (Str.ofString "good"),v])→Rep H' v t→Q (.ref q) H')
theorem ok_to(F:Fun K "_law_told" "_law_told" sTo f fd)(B:Bl mg)(W:Cf K mg d Bs)(Greadx:Dx nC P w K mg base 32 "read" ["text"] (zPv (d 0) (d 1)))(G_law_oneh:Dh P w K mg base 1 "_law_one" ["_law_e"] (spOn d)):FnOk P w K mg base CX0 33 f fd ["_law_text"] spTo:=by
 refine F.ok scTo (by walk_at "ln") fun c A o s H vs Q E hr h=>?_;obtain⟨L,l,rfl,hs,hL,q1,q2,q3⟩:=h;have nd:=scTo.nd;have hmCabinetError:=W.mB;have XGat:=W.G0;have Xfat:=W.at_;refine⟨_,(zG (zQe rfl rfl hmCabinetError nd (i:=1) rfl rfl rfl rfl rfl (fun _ _ _ _ hpa=>(zIr (zSz (zDu (PE.at zD) (zDu (zPz Greadx hr (by lia) rfl hpa (zA (pv 0) zE)) (PA.at zE)))))) (fun _ h=>h) (fun _=>(zB (zR (qM (yT (zYc G_law_oneh rfl hr.h (by lia) rfl (zA (pv 1) zE)))) (zG (zN (yP (zA zD (zA jC zE))))) zM)
  (zB (zR (yT (zP kN rfl B.isinstance zT (zA (pv 1) (zA (jL (v:=.ref (d 0)) rfl W.m0 rfl) zE)))) (zG (zN (yP (zA zD (zA (zFe XGat Xfat (pv 1)) zE))))) zM)
  (zG (zN (yP (zA zD (zA jC zE)))))))))), ?_⟩
 walk_at "st";unfold zXe zTr zJx zUl;walk_at "rd6";refine⟨L,l,rfl,hs,by lia, ?_⟩;rw[mG (by lia)];refine⟨fun n e dd H1 g1 hd=>⟨d 0,rfl,W.x0,fun x o hx=>?_⟩,fun e H1 g1=>⟨d 1,rfl,W.x1,fun x o hx=>?_⟩,fun t e v H1 g1 hv p hp=>q3 t e p v _ (g1.trans (zH hp _)) zF (Rep.same (fun b u eb=>zH hp _ _ _ ?_) _ _ hv)⟩
 ·have hdx:dd≠x:=fun z=>by rw[z,hx] at hd;cases hd
  have g2:Same H1 (upd H1 x (HO.frz o (exN x (d 0) (some dd)))):=zH hx _;have hx2:upd H1 x (HO.frz o (exN x (d 0) (some dd))) x=some (HO.frz o (exN x (d 0) (some dd))):=zF;generalize upd H1 x (HO.frz o (exN x (d 0) (some dd)))=H2 at g2 hx2⊢;have hc:CaughtZ H2 x (d 0):=⟨o, .inr ⟨dd,_,hx2,g2 _ _ hd⟩⟩;refine⟨⟨o,_,_,hx2⟩,x,rfl, .inl hc,true,rfl,iN (by decide) ⟨x,_,_,⟨rfl,rfl⟩,hc,W.G0,true,W.k00,iP rfl ⟨o,dd,hx2,_,g2 _ _ hd,n,rfl,fun p hp=>q1 n e p _ (g1.trans (g2.trans (zH hp _))) zF⟩⟩⟩
 ·have g2:Same H1 (upd H1 x (HO.frz o (exN x (d 1) none))):=zH hx _
  have hx2:upd H1 x (HO.frz o (exN x (d 1) none)) x=some (HO.frz o (exN x (d 1) none)):=zF;generalize upd H1 x (HO.frz o (exN x (d 1) none))=H2 at g2 hx2⊢;have hc:CaughtZ H2 x (d 1):=⟨o, .inl hx2⟩;refine⟨⟨o,_,_,hx2⟩,x,rfl, .inr hc,true,rfl,iN (by decide) ⟨x,_,_,⟨rfl,rfl⟩,hc,W.G1,false,W.k10,iN (by decide) fun p hp=>q2 e p _ (g1.trans (g2.trans (zH hp _))) zF⟩⟩
 ·have:=kC eb
  rw[qJ this] at eb;exact eb
end
end K27
namespace K27
open PySem L2
seal L2.PSs L2.PS L2.PE L2.PT L2.PW L2.PA L2.PI L2.PG L2.PGs L2.PPs L2.PTs
abbrev zSc:Stmt:=top 43
abbrev zCv:Stmt:=top 44
mutual
def OkR:T→Prop
 | .non=>True
 | .bl _=>True
 | .int _=>True
 | .str _=>True
 | .lst us=>OkRs us
 | .dic ks us=>ks.Nodup∧ks.length=us.length∧ks.length≤30∧OkRs us
 | .tup _=>False
def OkRs:List T→Prop
 | []=>True
 | t::ts=>OkR t∧OkRs ts
end
theorem OkRs.mem{t:T}:∀{ts:List T},OkRs ts→t∈ts→OkR t
 | [],_,h=>nomatch h
 | u::ts,h,hm=>(mF.mp hm).elim (fun e=>e▸h.1) (OkRs.mem h.2)
theorem OkRs.snoc{t:T}(h':OkR t):∀{ts:List T},OkRs ts→OkRs (ts++ [t])
 | [],_=>⟨h',nJ⟩
 | _::_,h=>⟨h.1,OkRs.snoc h' h.2⟩
theorem kB{k:List Nat}{t:T}:∀{ks:List (List Nat)}{us:List T}{i:Nat},ks.Nodup→ks[i]? =some k→us[i]? =some t→gZ k ks us=t
 | [],_,i,_,h,_=>by simp at h
 | _::_,[],i,_,_,h=>by simp at h
 | k'::ks,c::us,0,n,h1,h2=>by
  cases h1;cases h2;exact mK rfl
 | k'::ks,c::us,i+1,n,h1,h2=>by
  have h1:ks[i]? =some k:=by simpa using h1
  have h2:us[i]? =some t:=by simpa using h2
  have hn:=pJ.mp n;show(if k'=k then c else gZ k ks us)=t;rw[mG (fun z=>hn.1 (by rw[z];exact pB h1))];exact kB hn.2 h1 h2
section
variable{P:Program}{w:World}{K:W.Frag}{mg:Str→Option Value}{base:Heap}{f:Addr}{fd:FuncData}
def zXq(t:String):Int:=if t= "NoneType" then 0 else if t= "bool" then 1 else if t= "int" then 2 else if t= "str" then 3 else if t= "list" then 5 else if t= "dict" then 6 else 4
def zKh:Sp:=fun vs H Q _=>∃(v:V)(t:String),vs= [v]∧tyS H v=some t∧∀H',Same H H'→Q (.int (zXq t)) H'
theorem scSort:zV ["_law_thing"] ["_law_thing"] (zO zSc):=by walk_at "sc"
theorem zXn(F:Fun K "_law_sort" "_law_sort" zSc f fd)(B:Bl mg):FnOk P w K mg base CX0 1 f fd ["_law_thing"] zKh:=by
 refine F.ok scSort (by walk_at "ln") fun c A o s H vs Q E hr h=>?_;obtain⟨v,t,rfl,ht,q⟩:=h;have nd:=scSort.nd;refine⟨_,(zB (zR (zFm (zUm (pv 0))) (zG (zN zC)) zM)
  (zB (zR (yT (pI B.isinstance zT B.bool zEw (pv 0))) (zG (zN zC)) zM)
  (zB (zR (yT (pI B.isinstance zT B.int xO (pv 0))) (zG (zN zC)) zM)
  (zB (zR (yT (pI B.isinstance zT B.str uV (pv 0))) (zG (zN zC)) zM)
  (zG (zN (zI yD (zI yD zC (yM yZ rfl B.int xO (zA (pI B.isinstance zT B.list qG (pv 0)) zE))) (zI wO zC (yM yZ rfl B.int xO (zA (pI B.isinstance zT B.dict gU (pv 0)) zE)))))))))), ?_⟩
 walk_at "st";walk_at "rd3";have hm:=zFl ht;have q':=q H (Same.refl H);simp only[ht,Option.some.injEq,bW]
 by_cases hv:v= .non
 ·subst hv;cases ht;rw[mK rfl];exact q'
 ·rw[mG hv]
  simp only[tyL,mF,nP,rD] at hm;rcases hm with rfl | rfl | rfl | rfl | rfl | rfl | rfl
  ·exact absurd (zMc ht) hv
  all_goals (simpa [wD,zXq] using q')
theorem zCm:∀n:Nat,(List.replicate n true).all id=true
 | 0=>rfl
 | n+1=>by rw[pU,cO,zCm n];rfl
theorem zDs:∀xs:List Str,zAu (xs.map V.str) (xs.map V.str)=true
 | []=>rfl
 | x::xs=>by
  show(eqV (.str x) (.str x)&& zAu (xs.map V.str) (xs.map V.str))=true;rw[zDs xs,Bool.and_true];exact nB rfl
def uJ(n:Nat):Sp:=fun vs H Q _=>∃(v u:V)(t:T),vs= [v,u]∧Rep H v t∧Rep H u t∧OkR t∧T.dep t<n∧T.sz t≤1000∧∀H',Same H H'→Q (.bl true) H'
theorem scAlike:zV ["_law_one_here","_law_other"] ["_law_one_here","_law_other"] (zO zCv):=by walk_at "sc"
theorem zOm{n:Nat}(F:Fun K "_law_alike" "_law_alike" zCv f fd)(B:Bl2 mg)(G_law_sort:Dn P w K mg base 1 "_law_sort" ["_law_thing"] zKh)(G_law_alike:Dn P w K mg base (2+n) "_law_alike" ["_law_one_here","_law_other"] (uJ n)):
  FnOk P w K mg base CX0 (2+n+1) f fd ["_law_one_here","_law_other"] (uJ (n+1)):=by
 refine F.ok scAlike (by walk_at "ln") fun c A o s H vs Q E hr h=>?_;obtain⟨v,u,t,rfl,hv,hw,hf,hd,hz,q⟩:=h;have nd:=scAlike.nd;have hu:=kF hr;have hu0:=hr.units0;refine⟨_,(zB (zR (zK vE (pD G_law_sort hr (zA (pv 0) zE)) (pD G_law_sort hr (zA (pv 1) zE)) (zJ _)) (zG (zN qW)) zM)
  (zB (zR (yT (pI B.isinstance zT B.list qG (pv 0))) (zB (zR (zK vE (zP yH rfl B.len yK (zA (pv 0) zE)) (zP yH rfl B.len yK (zA (pv 1) zE)) (zJ _)) (zG (zN qW)) zM)
  (zG (zN (zP (wR rfl) rfl B.all jE (zA (wT (own:=["_law_k"]) (F:=[("_law_one_here",0),("_law_other",1)]) ⟨rfl,by walk_at "wu",by walk_at "wu",by walk_at "wu",(.cons rfl rfl rfl (.cons rfl rfl rfl .nil))⟩ rfl (vB rfl B.range (zA (zP yH rfl B.len yK (zA (pv 0) zE)) zE)) (fun _ _ _ _=>yO (i:=0) (by show(vP ["_law_k"] [("_law_one_here",0),("_law_other",1)]).Nodup;decide+kernel) rfl (pR rfl)) (fun _ _ _ _=>wF) (fun _ _ _ _=>(pD G_law_alike hr (zA (zQ (zHu (K:=K) rfl) (pv 1) (pv 0) (fun _ _=>rfl)) (zA (zQ (zHu (K:=K) rfl) (pv 2) (pv 0) (fun _ _=>rfl)) zE))))) zE))))) zM)
  (zB (zR (yT (pI B.isinstance zT B.dict gU (pv 0))) (zB (zR (zK (zNn hu0) (zP (gD rfl) rfl B.sorted zEs (zA (pv 0) zE)) (zP (gD rfl) rfl B.sorted zEs (zA (pv 1) zE)) (zJ _)) (zG (zN qW)) zM)
  (zG (zN (zP (wR rfl) rfl B.all jE (zA (zFz (wT (own:=["_law_name"]) (F:=[("_law_one_here",0),("_law_other",1)]) ⟨rfl,by walk_at "wu",by walk_at "wu",by walk_at "wu",(.cons rfl rfl rfl (.cons rfl rfl rfl .nil))⟩ rfl (zGo (pv 0)) (fun _ _ _ _=>yO (i:=0) (by show(vP ["_law_name"] [("_law_one_here",0),("_law_other",1)]).Nodup;decide+kernel) rfl (pR rfl)) (fun _ _ _ _=>wF) (fun _ _ _ _=>(pD G_law_alike hr (zA (yR hu (pv 1) (pv 0) (fun _ _=>rfl)) (zA (yR hu (pv 2) (pv 0) (fun _ _=>rfl)) zE)))))) zE))))) zM)
  (zG (zN (yA zS (pv 0) (pv 1) (zJ _))))))), ?_⟩
 walk_at "st";walk_at "rd3";refine⟨v,_,rfl,hv.ty,fun H1 g1=>⟨u,_,rfl,(Rep.same g1 _ _ hw).ty,fun H2 g2=>⟨rfl,false,by simp,jR ?_⟩⟩⟩;have g0:=g1.trans g2;have hv:=Rep.same g0 _ _ hv;have hw:=Rep.same g0 _ _ hw
 cases t with
 | lst us=>
  have hty:tyS H2 v=some "list":=hv.ty;refine⟨_,hty,iP (by decide+kernel) ?_⟩;obtain⟨a,xs,rfl,ha,hx⟩:=hv;obtain⟨b,ys,rfl,hb,hy⟩:=hw;have hd':T.deps us+1<n+1:=hd;have hz':T.szs us+1≤1000:=hz;have hxl:=hx.length;have hyl:=hy.length;have hul:=T.szs_len us;refine⟨a,rfl,xs,SqL.of ha,b,rfl,ys,SqL.of hb,false,by rw[hxl,hyl];simp,jR ⟨a,rfl,xs,SqL.of ha,by lia,by lia, ?_⟩⟩;rw[sH];refine uG (fun i zs H'=>Same H2 H'∧zs=(List.replicate i true).map V.bl) (by rw[mJ];lia) ⟨Same.refl _,rfl⟩ ?_ ?_
  ·rintro i zs H' hi _ ⟨g,rfl⟩
   obtain⟨t1,ht1,hr1⟩:=hx.get (i:=i) (v:=xs[i]) (by simp[hi]);obtain⟨t2,ht2,hr2⟩:=hy.get (i:=i) (v:=ys[i]) (by simp[hyl,←hxl,hi]);rw[ht2] at ht1;cases ht1;have hm:=pB ht2;have d1:=T.deps_le hm;have d2:=T.szs_le hm;walk_at "rd3";refine zW (SqL.of (g _ _ ha)) (v:=xs[i]) (by rw[Int.zero_add];exact yE (by simp[hi])) (zW (SqL.of (g _ _ hb)) (v:=ys[i]) (by rw[Int.zero_add];exact yE (by simp[hyl,←hxl,hi])) ⟨_,_,_,rfl,Rep.same g _ _ hr1,Rep.same g _ _ hr2,hf.mem hm,by lia,by lia,fun H4 g4=>⟨g.trans g4, ?_⟩⟩);rw[List.replicate_succ'];simp
  ·rintro zs H' _ ⟨g,rfl⟩ p hp
   refine⟨p,rfl,List.replicate xs.length true,SqL.of zF, ?_⟩;rw[zCm];exact q _ (g0.trans (g.trans (zH hp _)))
 | dic ks us=>
  have hty:tyS H2 v=some "dict":=hv.ty;refine⟨_,hty,iN (by decide+kernel) ⟨_,hty,iP (by decide+kernel) ?_⟩⟩;have hRd:=hv;obtain⟨a,ps,rfl,ha,hk,hx⟩:=hv;obtain⟨b,rs,rfl,hb,hkb,hy⟩:=hw;obtain⟨nk,hle,h30,hf⟩:=hf;have hd':T.deps us+1<n+1:=hd;have hz':T.szs us+1≤1000:=hz;refine⟨a,rfl,ps, .inl ha,ks.map tx,by rw[hk,cT];rfl,by rw[mZ];lia,fun l1 s1 hl1 hp1 hs1=>?_⟩;have G1:=zH hl1 (.lst (s1.map V.str));refine⟨b,rfl,rs, .inl (G1 _ _ hb),ks.map tx,by rw[hkb,cT];rfl,by rw[mZ];lia,fun l2 s2 hl2 hp2 hs2=>?_⟩;have G2:=zH hl2 (.lst (s2.map V.str));have e1:=uF hp1 hs1;have e2:=uF hp2 hs2;refine zSo (SqL.of (G2 _ _ zF)) (SqL.of zF) (zEf _) (zEf _) ⟨false, ?_,jR ?_⟩
  ·rw[e1,e2,mK rfl,zDs];rfl
  have G:=G1.trans G2;generalize upd (upd H2 l1 (.lst (s1.map V.str))) l2 (.lst (s2.map V.str))=H3 at G⊢;have gH:=g0.trans G;have hRd:=Rep.same G _ _ hRd;have ha:=G _ _ ha;have hb:=G _ _ hb;have hx:=Reps.same G _ _ hx;have hy:=Reps.same G _ _ hy;have hpl:ps.length=ks.length:=by
   have:=congrArg List.length hk;rw[mZ,mZ] at this
   lia
  have nkp:(ps.map (·.1)).Nodup:=by rw[hk];exact zJe nk
  have hsz:T.szs us<T.sz (.dic ks us):=sN _;refine⟨a,rfl,ps, .inl ⟨ha,fun o=>?_⟩⟩;have hxf:Reps (upd H3 a (.frz o (.dK ps))) (ps.map (·.2)) us:=gI hRd (sN _) hx;have hyf:Reps (upd H3 a (.frz o (.dK ps))) (rs.map (·.2)) us:=gI hRd hsz hy;have hbf:∀H',Same (upd H3 a (.frz o (.dK ps))) H'→Rd H' b (.dK rs):=fun H' g=>by
   by_cases e:b=a
   ·subst e
    rw[ha] at hb;cases hb;exact .inr ⟨o,g _ _ zF⟩
   ·exact .inl (g _ _ (by rw[zL e];exact hb))
  refine zOl (fun i zs H'=>Same (upd H3 a (.frz o (.dK ps))) H'∧zs=(List.replicate i true).map V.bl) ?_ ⟨Same.refl _,rfl⟩ (fun i zs H' h=>h.1 _ _ zF) ?_ ?_
  ·rw[mJ];lia
  ·rintro i kv zs H' hkv _ ⟨g,rfl⟩
   have hkey:(ks.map nK)[i]? =some kv.1:=by rw[←hk,pP,hkv];rfl
   obtain⟨k,hki,hkk⟩:∃k,ks[i]? =some k∧nK k=kv.1:=by
    rw[pP] at hkey
    cases hc:ks[i]? with
    | none=>rw[hc] at hkey;cases hkey
    | some k=>rw[hc] at hkey;exact⟨k,rfl,nV hkey⟩
   obtain⟨t1,ht1,hr1⟩:=hxf.get (i:=i) (v:=kv.2) (by rw[pP,hkv];rfl);have hmk:k∈ks:=pB hki;have e9:=kB nk hki ht1;rw[←e9] at hr1;have hm:=zDz hmk hle;have d1:=T.deps_le hm;have d2:=T.szs_le hm;obtain⟨y,hy1,hy2⟩:=Rep.at_name nk hkb hyf hmk;walk_at "rd3";refine⟨kv.2, .inl ⟨ps,kv.1, .inr ⟨o,g _ _ zF⟩,rfl,(zFx nkp hkv).symm⟩,y, .inl ⟨rs,kv.1,hbf _ g,rfl, ?_⟩,kv.2,y,gZ k ks us,rfl,Rep.same g _ _ hr1,Rep.same g _ _ hy2,hf.mem hm,by lia,by lia,fun H4 g4=>⟨g.trans g4, ?_⟩⟩
   ·rw[←hkk];exact hy1.symm
   ·rw[List.replicate_succ']
    simp
  ·rintro zs H' _ ⟨g,rfl⟩ p hp
   have gs:Same H3 (thaw H3 (upd H' p (.lst ((List.replicate ps.length true).map V.bl)))):=zOp (o:=o) ha (g.trans (zH hp _));refine⟨p,rfl,List.replicate ps.length true,SqL.of (uD zF (by intro o v z;cases z)), ?_⟩;rw[zCm];exact q _ (gH.trans gs)
 | non=>
  cases (show v=_ from hv);cases (show u=_ from hw);exact⟨_,rfl,iN (by decide+kernel) ⟨_,rfl,iN (by decide+kernel) ⟨rfl,q _ g0⟩⟩⟩
 | tup us=>exact hf.elim
 | bl b=>
  cases (show v=_ from hv);cases (show u=_ from hw);refine⟨_,rfl,iN (by decide+kernel) ⟨_,rfl,iN (by decide+kernel) ⟨rfl, ?_⟩⟩⟩;have z:=q _ g0;cases b<;>exact z
 | int b=>
  cases (show v=_ from hv);cases (show u=_ from hw);refine⟨_,rfl,iN (by decide+kernel) ⟨_,rfl,iN (by decide+kernel) ⟨rfl, ?_⟩⟩⟩;rw[nB rfl];exact q _ g0
 | str b=>
  cases (show v=_ from hv);cases (show u=_ from hw);refine⟨_,rfl,iN (by decide+kernel) ⟨_,rfl,iN (by decide+kernel) ⟨rfl, ?_⟩⟩⟩;rw[nB rfl];exact q _ g0
theorem zOn(F:Fun K "_law_alike" "_law_alike" zCv f fd):FnOk P w K mg base CX0 2 f fd ["_law_one_here","_law_other"] (uJ 0):=by
 refine F.ok scAlike (by walk_at "ln") fun c A o s H vs Q E hr h=>?_;obtain⟨v,u,t,rfl,hv,hw,hf,hd,_⟩:=h;exact absurd hd (cY _)
theorem zEm(F:Fun K "_law_alike" "_law_alike" zCv f fd)(B:Bl2 mg)(Gs:Dn P w K mg base 1 "_law_sort" ["_law_thing"] zKh)(b:Binds K fd ["_law_one_here","_law_other"] [])(kp:W.keepIn K (.ref f)=true)(m:mg "_law_alike" =some (.ref f)):
  ∀n:Nat,FnOk P w K mg base CX0 (2+n) f fd ["_law_one_here","_law_other"] (uJ n)
 | 0=>zOn F
 | n+1=>zOm F B Gs ⟨_,_,zEm F B Gs b kp m n,b,kp,m⟩
end
end K27
namespace K27
open PySem L2 PySem.W
def Fr.us:Fr→List T
 | .row us=>us
 | .rcd _ us _=>us
def szF:List Fr→Nat
 | []=>0
 | f::r=>T.szs f.us+1+szF r
def okF:Fr→Prop
 | .row us=>OkRs us
 | .rcd ks us _=>ks.Nodup∧ks.length=us.length∧ks.length≤30∧OkRs us
def Gf:List Fr→Prop
 | []=>True
 | f::r=>okF f∧T.deps f.us+(r.length+1)≤8∧Gf r
structure MI(S:Mc):Prop where
 g:Gf S.stk
 z:szF S.stk≤S.many
 n:∀ks us nm,Fr.rcd ks us nm∈S.stk.tail→nm∉ks
 w:S.du= .done→OkR S.whole∧T.dep S.whole≤8∧T.sz S.whole≤S.many
theorem zVz{f:Fr}(h:okF f):OkR f.tree∧T.dep f.tree=T.deps f.us+1∧T.sz f.tree=T.szs f.us+1:=by
 cases f with
 | row us=>exact⟨h,rfl,rfl⟩
 | rcd ks us nm=>exact⟨h,rfl,rfl⟩
theorem zDb{stk:List Fr}{m:Nat}{t:T}(hg:Gf stk)(hz:szF stk+T.sz t≤m)(hn:∀ks us nm,Fr.rcd ks us nm∈stk→nm∉ks∧ks.length<30)(ht:OkR t)(hd:T.dep t+stk.length≤8):MI (xF stk m t):=by
 cases stk with
 | nil=>exact⟨nJ,rK _,(fun _ _ _ z=>nomatch z),fun _=>⟨ht,hd,by show T.sz t≤m;have:szF []=0:=rfl;lia⟩⟩
 | cons f r=>
  obtain⟨h1,h2,h3⟩:=hg;have e:szF (f::r)=T.szs f.us+1+szF r:=rfl;rw[mE] at hd;have hu:(f.add t).us=f.us++ [t]:=by cases f<;>rfl
  refine⟨⟨?_, ?_,h3⟩, ?_,(fun ks us nm z=>(hn ks us nm (mQ _ z)).1),fun z=>nomatch z⟩
  ·cases f with
   | row us=>exact OkRs.snoc ht h1
   | rcd ks us nm=>
    obtain⟨a,b,c,d⟩:=h1;obtain⟨n1,n2⟩:=hn ks us nm mH;refine⟨?_, ?_, ?_,OkRs.snoc ht d⟩
    ·rw[List.nodup_append]
     exact⟨a,by simp,fun x hx y hy=>by rw[mS.mp hy];exact fun z=>n1 (by rw[←z];exact hx)⟩
    ·rw[mC,mC,b];rfl
    ·rw[mC];show _+1≤_;lia
  ·rw[hu,T.deps_append]
   have:T.deps [t]=max (T.dep t) 0:=rfl;rw[this]
   lia
  ·show T.szs (f.add t).us+1+szF r≤m
   rw[hu,zIj]
   lia
theorem zUh{S S':Mc}{k:Nat}{s:List Nat}(wf:Wf S)(mi:MI S)(hrc:∀ks us nm r,S.stk= .rcd ks us nm::r→nm∉ks∧ks.length<30)(h:K27.thg S.stk S.many k s= .go S'):MI S':=by
 unfold K27.thg at h;split at h
 ·cases h
 split at h
 ·cases h
 rename_i hc;have c3:¬(k=3∧S.stk.length=8):=by
  simp only[bR,pQ,bX] at hc;exact hc.2.2.1
 have hall:∀ks us nm,Fr.rcd ks us nm∈S.stk→nm∉ks∧ks.length<30:=fun ks us nm hm=>by
  cases hst:S.stk with
  | nil=>rw[hst] at hm;exact nomatch hm
  | cons f r=>
   rw[hst] at hm;rcases mF.mp hm with e | hm
   ·rw[←e] at hst;exact hrc ks us nm r hst
   ·exact⟨mi.n ks us nm (by rw[hst];exact hm),wf.inner (.rcd ks us nm) (by rw[hst];exact hm)⟩
 have hd:=wf.deep;have hz:=mi.z;split at h
 ·rename_i h3
  cases h;have hnew:okF (if s= [91] then Fr.row [] else Fr.rcd [] [] [])∧(if s= [91] then Fr.row [] else Fr.rcd [] [] []).us= []:=by
   split
   ·exact⟨nJ,rfl⟩
   ·exact⟨⟨List.nodup_nil,rfl,rK _,nJ⟩,rfl⟩
  refine⟨⟨hnew.1, ?_,mi.g⟩, ?_,(fun ks us nm z=>(hall ks us nm z).1),fun z=>nomatch z⟩
  ·rw[hnew.2];show 0+_≤_;lia
  ·show T.szs (if s= [91] then Fr.row [] else Fr.rcd [] [] []).us+1+szF S.stk≤S.many+1
   rw[hnew.2];show 0+1+_≤_;lia
 ·cases h
  have hl:OkR (vS k s)∧T.dep (vS k s)=0∧T.sz (vS k s)=1:=by
   unfold vS;split
   ·exact⟨nJ,rfl,rfl⟩
   split
   ·split
    ·exact⟨nJ,rfl,rfl⟩
    ·exact⟨nJ,rfl,rfl⟩
   ·exact⟨nJ,rfl,rfl⟩
  exact zDb mi.g (by rw[hl.2.2];lia) hall hl.1 (by rw[hl.2.1];lia)
theorem yAm{S S':Mc}{k:Nat}{s:List Nat}{ks:List (List Nat)}{us:List T}{nm:List Nat}{r:List Fr}(mi:MI S)(hst:S.stk= .rcd ks us nm::r)(h:nmd ks us r S.many k s= .go S'):MI S':=by
 unfold nmd at h;split at h
 ·cases h
 split at h
 ·cases h
 cases h;have hg:=mi.g;have hz:=mi.z;have hn:=mi.n;rw[hst] at hg hz hn;exact⟨hg,hz,hn,fun z=>nomatch z⟩
theorem yBf{S S':Mc}{k:Nat}{s:List Nat}(wf:Wf S)(mi:MI S)(h:nxt S k s= .go S'):MI S':=by
 have close:∀f r,S.stk=f::r→MI (xF r S.many f.tree):=fun f r e=>by
  have hg:=mi.g;have hz:=mi.z;have hn:=mi.n;have hi:=wf.inner;rw[e] at hg hz hn hi;obtain⟨a,b,c⟩:=hg;obtain⟨t1,t2,t3⟩:=zVz a;have ez:szF (f::r)=T.szs f.us+1+szF r:=rfl;exact zDb c (by rw[t3];lia) (fun ks us nm z=>⟨hn ks us nm z,hi (.rcd ks us nm) z⟩) t1 (by rw[t2];lia)
 have hinn:inn S.stk S.many k s= .go S'→MI S':=fun z=>by
  unfold inn at z;split at z
  ·rename_i e
   exact yAm mi e z
  ·rename_i hx
   exact zUh wf mi (fun ks us nm r e=>absurd e (hx ks us nm r)) z
 unfold nxt at h;split at h
 ·split at h<;>cases h
 ·split at h
  ·cases h
   exact⟨mi.g,mi.z,mi.n,fun z=>nomatch z⟩
  ·cases h
 ·rename_i hd
  refine zUh wf mi (fun ks us nm r e=>?_) h;obtain⟨ks',us',nm',y1,y2,y3⟩:=wf.thg (.inl hd) _ _ e;cases y1;exact⟨y2,y3⟩
 ·exact hinn h
 ·split at h
  ·cases h
  ·rename_i f r e
   split at h
   ·cases h;exact close f r e
   split at h
   ·cases h
    exact⟨mi.g,mi.z,mi.n,fun z=>nomatch z⟩
   ·cases h
 ·split at h
  ·cases h
  ·rename_i f r e
   split at h
   ·cases h;exact close f r e
   ·rw[←e] at h
    exact hinn h
theorem zRu{S:Mc}{k:Nat}{s:List Nat}(e':nxt S k s= .good):S.du= .done:=by
 unfold nxt at e';split at e'
 ·assumption
 ·split at e'<;>cases e'
 ·exact absurd e' qD
 ·unfold inn at e'
  split at e'
  ·exact absurd e' kE
  ·exact absurd e' qD
 ·split at e'
  ·cases e'
  split at e'
  ·cases e'
  split at e'<;>cases e'
 ·split at e'
  ·cases e'
  split at e'
  ·cases e'
  unfold inn at e';split at e'
  ·exact absurd e' kE
  ·exact absurd e' qD
theorem zHo{t:T}:∀(l:List Lk)(S:Mc),Wf S→MI S→run S l= .good t→OkR t∧T.dep t≤8∧T.sz t≤200
 | [],_,_,_,h=>nomatch h
 | u::l,S,wf,mi,h=>by
  have e:run S (u::l)=(match nxt S u.k u.s with | .go S'=>run S' l | .bad=>.bad u.n | .great=>.great | .good=>.good S.whole):=rfl
  rw[e] at h
  cases hx:nxt S u.k u.s with
  | go S'=>rw[hx] at h;exact zHo l S' (zFw wf hx) (yBf wf mi hx) h
  | bad=>rw[hx] at h;cases h
  | great=>rw[hx] at h;cases h
  | good=>
   rw[hx] at h;cases h;obtain⟨a,b,c⟩:=mi.w (zRu hx);have:=wf.many;exact⟨a,b,by lia⟩
theorem mi0:MI S0:=⟨nJ,mL _,(fun _ _ _ z=>nomatch z),fun z=>nomatch z⟩
end K27
namespace K27
open PySem L2 PySem.W
seal L2.PSs L2.PS L2.PE L2.PT L2.PW L2.PA L2.PI L2.PG L2.PGs L2.PPs L2.PTs
abbrev sAs:Stmt:=top 59
section
variable{P:Program}{w:World}{K:PySem.W.Frag}{mg:Str→Option Value}{base:Heap}{f:Addr}{fd:FuncData}
def spAs:Sp:=fun vs H Q _=>∃p q:Addr,vs= [.ref p, .ref q]∧(∀H',Same H H'→Q (.bl true) H')∧
  ((∃n:Nat,H p=some (.tup [.str (Str.ofString "bad"), .int n])∧H q=some (.tup [.str (Str.ofString "bad"), .int n]))∨
   (∃n:Int,H p=some (.tup [.str (Str.ofString "great"), .non])∧H q=some (.tup [.str (Str.ofString "great"), .int n]))∨
   ∃v u t,H p=some (.tup [.str (Str.ofString "good"),v])∧H q=some (.tup [.str (Str.ofString "good"),u])∧Rep H v t∧Rep H u t∧OkR t∧T.dep t≤8∧T.sz t≤200)
theorem scAs:zV ["_law_told_here","_law_due_here"] ["_law_told_here","_law_due_here"] (zO sAs):=by walk_at "sc"
theorem ok_as(F:Fun K "_law_as_due" "_law_as_due" sAs f fd)(B:Bl mg)(G_law_alike:Dn P w K mg base (2+10) "_law_alike" ["_law_one_here","_law_other"] (uJ 10)):FnOk P w K mg base CX0 13 f fd ["_law_told_here","_law_due_here"] spAs:=by
 refine F.ok scAs (by walk_at "ln") fun c A o s H vs Q E hr h=>?_;obtain⟨p,q,rfl,Q1,h⟩:=h;have nd:=scAs.nd;refine⟨_,(zB (zR (zK vE (zQ yB (pv 0) zC (fun _ _=>rfl)) (zQ yB (pv 1) zC (fun _ _=>rfl)) (zJ _)) (zG (zN qW)) zM)
  (zB (zR (zK zS (zQ yB (pv 1) zC (fun _ _=>rfl)) zD (zJ _)) (zG (zN (pD G_law_alike hr (zA (zQ yB (pv 0) zC (fun _ _=>rfl)) (zA (zQ yB (pv 1) zC (fun _ _=>rfl)) zE))))) zM)
  (zG (zN (zAo (yA zS (zQ yB (pv 1) zC (fun _ _=>rfl)) zD (zJ _)) (xL (wI (pI B.isinstance zT B.int xO (zQ yB (pv 0) zC (fun _ _=>rfl))) (wI (zSb (pI B.isinstance zT B.bool zEw (zQ yB (pv 0) zC (fun _ _=>rfl)))) (xL (yA zS (zQ yB (pv 0) zC (fun _ _=>rfl)) (zQ yB (pv 1) zC (fun _ _=>rfl)) (zJ _))))))))))), ?_⟩
 walk_at "st";walk_at "rd6";have q0:=Q1 H (Same.refl _);rcases h with⟨n,hp,hq⟩|⟨n,hp,hq⟩|⟨v,u,t,hp,hq,hv,hu',hok,hd,hz⟩
 ·refine yC (SqT.of hp) (v:=.str (Str.ofString "bad")) rfl (yC (SqT.of hq) (v:=.str (Str.ofString "bad")) rfl ⟨rfl,false,by decide+kernel,jR (yC (SqT.of hq) (v:=.str (Str.ofString "bad")) rfl ⟨rfl,iN (by decide+kernel) (yC (SqT.of hq) (v:=.str (Str.ofString "bad")) rfl ⟨rfl,iN (by decide+kernel) ?_⟩)⟩)⟩)
  refine yC (SqT.of hp) (v:=.int n) rfl ⟨"int",rfl,iP (by decide) (yC (SqT.of hp) (v:=.int n) rfl ⟨"int",rfl,true,by decide,iP rfl (yC (SqT.of hp) (v:=.int n) rfl (yC (SqT.of hq) (v:=.int n) rfl ⟨rfl, ?_⟩))⟩)⟩;rw[nB rfl];exact q0
 ·exact yC (SqT.of hp) (v:=.str (Str.ofString "great")) rfl (yC (SqT.of hq) (v:=.str (Str.ofString "great")) rfl ⟨rfl,false,by decide+kernel,jR (yC (SqT.of hq) (v:=.str (Str.ofString "great")) rfl ⟨rfl,iN (by decide+kernel) (yC (SqT.of hq) (v:=.str (Str.ofString "great")) rfl ⟨rfl,iP rfl q0⟩)⟩)⟩)
 ·exact yC (SqT.of hp) (v:=.str (Str.ofString "good")) rfl (yC (SqT.of hq) (v:=.str (Str.ofString "good")) rfl ⟨rfl,false,by decide+kernel,jR (yC (SqT.of hq) (v:=.str (Str.ofString "good")) rfl ⟨rfl,iP rfl (yC (SqT.of hp) (v:=v) rfl (yC (SqT.of hq) (v:=u) rfl ⟨v,u,t,rfl,hv,hu',hok,by lia,by lia,Q1⟩))⟩)⟩)
end
end K27
namespace K27
open PySem L2 PySem.W
seal L2.PSs L2.PS L2.PE L2.PT L2.PW L2.PA L2.PI L2.PG L2.PGs L2.PPs L2.PTs
abbrev zGf:Stmt:=top 47
abbrev zKn:Stmt:=top 48
def OkN(t:Tk):Prop:=(OkTk t∧(t.1=2→t.2.length≤60))∨(t.1=5∧∃last,uP t.2 last)
theorem zKz:∀j∈ [0,1,2,3,5],∀k∈ [0,1,2,3,5],kL j=kL k→j=k:=by decide+kernel
theorem OkN.k{t:Tk}(h:OkN t):t.1∈ [0,1,2,3,5]:=by
 rcases h with⟨⟨_,⟨a,_⟩|⟨a,_⟩|⟨a,_⟩|⟨a,_⟩⟩,_⟩|⟨a,_⟩<;>rw[a]<;>decide
theorem xU{t:Tk}(h:OkN t){j:Nat}(hj:j∈ [0,1,2,3,5]):(V.str (kL t.1)=V.str (kL j))↔t.1=j:=⟨fun z=>zKz _ h.k _ hj (V.str.inj z),fun z=>by rw[z]⟩
theorem OkN.len{t:Tk}(h:OkN t):t.2.length≤100:=by
 rcases h with⟨h,_⟩|⟨_,l,h⟩
 ·exact h.1
 ·have:=h.1;lia
theorem OkN.slen{t:Tk}(h:OkN t):(shw t).length≤122:=by
 have hl:=h.len;unfold shw;split
 ·rename_i h2
  have:t.2.length≤60:=by
   rcases h with⟨_,h⟩|⟨h,_⟩
   ·exact h h2
   ·rw[h] at h2;cases h2
  have:=zFi t.2;rw[mE,mC];simp only[mE,nA]
  lia
 ·lia
def zAf(a b:Tk):Bool:=if a.1=5∨b.1=5 then decide (a.1=5)||(decide (a.1=2)&& decide (b.2.head? =some 39)) else stk a b
section
variable{P:Program}{w:World}{K:PySem.W.Frag}{mg:Str→Option Value}{base:Heap}{f:Addr}{fd:FuncData}
def TkP(H:Hp)(p:Addr)(t:Tk):Prop:=H p=some (.tup [.str (kL t.1), .str (tx t.2)])
def zIa:Sp:=fun vs H Q _=>∃(p p':Addr)(t t':Tk),vs= [.ref p, .ref p']∧TkP H p t∧TkP H p' t'∧OkN t∧OkN t'∧Q (.bl (zAf t t')) H
theorem scSticks:zV ["_law_one_here","_law_other"] ["_law_one_here","_law_other"] (zO zGf):=by walk_at "sc"
theorem zOf(F:Fun K "_law_sticks" "_law_sticks" zGf f fd):FnOk P w K mg base CX0 1 f fd ["_law_one_here","_law_other"] zIa:=by
 refine F.ok scSticks (by walk_at "ln") fun c A o s H vs Q E hr h=>?_;obtain⟨p,p',t,t',rfl,hp,hp',ht,ht',q⟩:=h;have nd:=scSticks.nd;refine⟨_,(zB (zR (PW.pt (jS (zK zS (zQ yB (pv 0) zC (fun _ _=>rfl)) zD (zJ _)) (vX (zK zS (zQ yB (pv 1) zC (fun _ _=>rfl)) zD (zJ _))))) (zG (zN (zAo (yA zS (zQ yB (pv 0) zC (fun _ _=>rfl)) zD (zJ _)) (xL (wI (yA zS (zQ yB (pv 0) zC (fun _ _=>rfl)) zD (zJ _)) (xL (yA zS (zQ xK (zQ yB (pv 1) zC (fun _ _=>rfl)) zC (fun _ _=>rfl)) zD (zJ _)))))))) zM)
  (zB (zR (PW.pt (wA (zK zS (xI vY (zQ yB (pv 1) zC (fun _ _=>rfl)) kJ (yU zC)) zD (zJ _)) (xV (zK zS (zQ yB (pv 1) zC (fun _ _=>rfl)) zD (zJ _))))) (zG (zN qW)) zM)
  (zB (zR (zK zS (zQ yB (pv 0) zC (fun _ _=>rfl)) zD (zJ _)) (zG (zN (zAo (yA zS (zQ yB (pv 1) zC (fun _ _=>rfl)) zD (zJ _)) (xL (yA zS (zQ yB (pv 1) zC (fun _ _=>rfl)) zD (zJ _)))))) zM)
  (zG (zN (wI (yA zS (zQ yB (pv 0) zC (fun _ _=>rfl)) (zQ yB (pv 1) zC (fun _ _=>rfl)) (zJ _)) (xL (yA vE (zQ yB (pv 0) zC (fun _ _=>rfl)) zD (zJ _))))))))), ?_⟩
 walk_at "st";walk_at "rd6";have r0:∀{Q:VK},Q (V.str (kL t.1)) H→zNu K (.ref p) (.int 0) H Q:=fun q=>yC (SqT.of hp) (yE (j:=0) rfl) q;have r0':∀{Q:VK},Q (V.str (kL t'.1)) H→zNu K (.ref p') (.int 0) H Q:=fun q=>yC (SqT.of hp') (yE (j:=0) rfl) q;have hl':=ht'.len;have k_is:∀{t:Tk},OkN t→∀j∈ [0,1,2,3,5],(V.str (kL t.1)=V.str (kL j))↔t.1=j:=fun h j hj=>xU h hj;rw[show Str.ofString "none" =kL 5 from rfl];unfold zAf at q
 by_cases a5:t.1=5
 ·rw[mK (.inl a5),nB a5,aO] at q
  exact r0 ⟨rfl,iP ((xU ht (by decide)).mpr a5) (r0 ⟨rfl,iP ((xU ht (by decide)).mpr a5) q⟩)⟩
 refine r0 ⟨rfl,iN (fun z=>a5 ((xU ht (by decide)).mp z)) (r0' ⟨rfl, ?_⟩)⟩
 by_cases b5:t'.1=5
 ·rw[mK (.inr b5),mM a5,tM] at q
  refine iP ((xU ht' (by decide)).mpr b5) (r0 ⟨rfl,iN (fun z=>a5 ((xU ht (by decide)).mp z)) (r0 ⟨rfl, ?_⟩)⟩);rw[show Str.ofString "text" =kL 2 from rfl]
  by_cases a2:t.1=2
  ·rw[nB a2,Bool.true_and] at q
   obtain⟨c,b',e,_⟩:∃c b',t'.2=c::b'∧c∉letL++yX:=by
    rcases ht' with⟨h,_⟩|⟨_,l,h⟩
    ·have:=OkTk.k h
     rw[b5] at this;exact absurd this (by decide)
    ·exact h.2.1
   refine iP ((xU ht (by decide)).mpr a2) (yC (SqT.of hp') (v:=.str (tx t'.2)) rfl (xA (by rw[zU,mJ];lia) (yE (j:=0) (show(ts (tx t'.2))[0]? =some c by rw[yJ,e];rfl)) ⟨rfl, ?_⟩));rw[e] at q;have:decide (V.str (tx [c])=V.str (Str.ofString "'"))=decide ((c::b').head? =some 39):=pL.mpr ⟨fun y=>by
    have:=congrArg ts (V.str.inj y);have: [c]= [39]:=this
    simpa using this,fun y=>by
    have:c=39:=by simpa using y
    rw[this];rfl⟩
   rw[this];exact q
  ·rw[mM a2,tV] at q
   exact iN (fun z=>a2 ((xU ht (by decide)).mp z)) q
 refine iN (fun z=>b5 ((xU ht' (by decide)).mp z)) ?_;rw[mG (fun z=>z.elim a5 b5)] at q;refine yC (SqT.of hp') (yE (j:=1) rfl) ⟨_,rfl,by rw[zU,mJ];lia, ?_⟩;rw[show(some (1:Int))=some ((1:Nat):Int) from rfl,zIe,yJ,zDy,show Str.ofString "number" =kL 0 from rfl,show Str.ofString "word" =kL 1 from rfl,show Str.ofString "mark" =kL 3 from rfl];refine⟨rfl, ?_⟩;have e45:(V.str (tx (t'.2.take 1))=V.str (tx [45]))↔t'.2.take 1= [45]:=⟨fun z=>by have:=congrArg ts (V.str.inj z);rwa [yJ,yJ] at this,fun z=>by rw[z]⟩;unfold stk at q
 by_cases c1:t'.2.take 1= [45]
 ·refine iP (e45.mpr c1) (r0' ⟨rfl, ?_⟩)
  by_cases c2:t'.1=0
  ·rw[mK ⟨c1,c2⟩] at q
   exact iP ((xU ht' (by decide)).mpr c2) q
  ·rw[mG fun z=>c2 z.2] at q
   refine iN (fun z=>c2 ((xU ht' (by decide)).mp z)) ?_;refine r0 ⟨rfl, ?_⟩
   by_cases a:t.1=1
   ·refine iP ((xU ht (by decide)).mpr a) (r0' ⟨rfl, ?_⟩)
    rw[mK a] at q
    by_cases b:t'.1=1
    ·rw[nB b,aO] at q
     exact iP ((xU ht' (by decide)).mpr b) q
    ·rw[mM b,tM] at q
     refine iN (fun z=>b ((xU ht' (by decide)).mp z)) (r0' ⟨rfl, ?_⟩);rw[show decide (V.str (kL t'.1)=V.str (kL 0))=decide (t'.1=0) from pL.mpr (xU ht' (by decide))];exact q
   ·refine iN (fun z=>a ((xU ht (by decide)).mp z)) (r0 (r0' ⟨rfl, ?_⟩))
    rw[mG a] at q
    by_cases b:t.1=t'.1
    ·rw[nB b,Bool.true_and] at q
     refine iP (by rw[b]) (r0 ⟨rfl, ?_⟩);rw[show decide (V.str (kL t.1)=V.str (kL 3))=decide (t.1=3) from pL.mpr (xU ht (by decide))];exact q
    ·rw[mM b,tV] at q
     exact iN (fun z=>b (zKz _ ht.k _ ht'.k (V.str.inj z))) q
 ·rw[mG fun z=>c1 z.1] at q
  refine iN (fun z=>c1 (e45.mp z)) ?_;refine r0 ⟨rfl, ?_⟩
  by_cases a:t.1=1
  ·refine iP ((xU ht (by decide)).mpr a) (r0' ⟨rfl, ?_⟩)
   rw[mK a] at q
   by_cases b:t'.1=1
   ·rw[nB b,aO] at q
    exact iP ((xU ht' (by decide)).mpr b) q
   ·rw[mM b,tM] at q
    refine iN (fun z=>b ((xU ht' (by decide)).mp z)) (r0' ⟨rfl, ?_⟩);rw[show decide (V.str (kL t'.1)=V.str (kL 0))=decide (t'.1=0) from pL.mpr (xU ht' (by decide))];exact q
  ·refine iN (fun z=>a ((xU ht (by decide)).mp z)) (r0 (r0' ⟨rfl, ?_⟩))
   rw[mG a] at q
   by_cases b:t.1=t'.1
   ·rw[nB b,Bool.true_and] at q
    refine iP (by rw[b]) (r0 ⟨rfl, ?_⟩);rw[show decide (V.str (kL t.1)=V.str (kL 3))=decide (t.1=3) from pL.mpr (xU ht (by decide))];exact q
   ·rw[mM b,tV] at q
    exact iN (fun z=>b (zKz _ ht.k _ ht'.k (V.str.inj z))) q
def zNl:Sp:=fun vs H Q _=>∃(p:Addr)(t:Tk),vs= [.ref p]∧TkP H p t∧OkN t∧∀H',Same H H'→Q (.str (tx (shw t))) H'
theorem scShown:zV ["_law_token"] ["_law_token"] (zO zKn):=by walk_at "sc"
theorem zUg(F:Fun K "_law_shown" "_law_shown" zKn f fd)(B:Bl mg):FnOk P w K mg base CX0 1 f fd ["_law_token"] zNl:=by
 refine F.ok scShown (by walk_at "ln") fun c A o s H vs Q E hr h=>?_;obtain⟨p,t,rfl,hp,ht,q⟩:=h;have nd:=scShown.nd;refine⟨_,(zB (zR (zK zS (zQ yB (pv 0) zC (fun _ _=>rfl)) zD (zJ _)) (zG (zN (zI yW (zI yW zD (xQ pG tZ aA zSm zD (zA (xQ pG PySem.F.slot_str_split PySem.F.type_str_split zQi (zQ yB (pv 0) zC (fun _ _=>rfl)) (zA zD zE)) zE))) zD))) zM)
  (zG (zN (zQ yB (pv 0) zC (fun _ _=>rfl))))), ?_⟩
 walk_at "st";walk_at "rd6";have hl:=ht.len;have hk:=xU ht (j:=2) (by decide);rw[show Str.ofString "text" =kL 2 from rfl];refine yC (SqT.of hp) (yE (j:=0) rfl) ⟨rfl, ?_⟩
 by_cases c:t.1=2
 ·refine iP (hk.mpr c) ⟨rfl,yC (SqT.of hp) (yE (j:=1) rfl) ⟨rfl, ?_⟩⟩
  have hx:(tx t.2).length=t.2.length:=zU _;have h1:=zIy (tx t.2) (Str.ofString "'") (Str.ofString "''");have h2:(Str.ofString "''").length=2:=by decide+kernel
  have h3:(Str.ofString "'").length=1:=by decide+kernel
  rw[hx,h2] at h1;have hsl:=PyProof.Rows.split_le (tx t.2) (Str.ofString "'");rw[hx] at hsl;refine⟨tx t.2,Str.ofString "'",rfl,rfl,by lia,by lia,fun l hl'=>?_⟩;refine⟨Str.ofString "''",l,Txt.split (tx t.2) (Str.ofString "'"),rfl,rfl,SqL.of zF, ?_, ?_⟩
  ·have:=zPd (tx t.2) (Str.ofString "'")
   rw[hx] at this;rw[h2];lia
  ·rw[zDn]
   refine⟨_,rfl,by lia,by rw[zXg];lia, ?_⟩;have e:Txt.replace (tx t.2) (Str.ofString "'") (Str.ofString "''")=tx (dbl t.2):=by
    apply qZ;rw[zCd,zXs,show(tx [39]:Str)=⟨#[39]⟩ from rfl,zKs,yJ,yJ,yJ];rfl
   rw[e,zCd,xX,xX];have e2: [39]++dbl t.2++ [39]=shw t:=by unfold shw;rw[mK c];rfl
   rw[e2];exact q _ (zH hl' _)
 ·have e:shw t=t.2:=by unfold shw;rw[mG c]
  rw[e] at q;exact iN (fun z=>c (hk.mp z)) (yC (SqT.of hp) (yE (j:=1) rfl) (q _ (Same.refl _)))
end
end K27
namespace K27
open PySem L2 PySem.W
seal L2.PSs L2.PS L2.PE L2.PT L2.PW L2.PA L2.PI L2.PG L2.PGs L2.PPs L2.PTs
abbrev zQv:Stmt:=top 49
def wid:List Tk→Nat
 | []=>0
 | t::l=>(shw t).length+wid l
theorem zGu:∀a b:List Tk,wid (a++b)=wid a+wid b
 | [],b=>(rX _).symm
 | t::a,b=>by
  show(shw t).length+wid (a++b)=(shw t).length+wid a+wid b;rw[zGu a b];lia
theorem zIx(l:List Tk)(i:Nat):wid (l.take i)≤wid l:=by
 conv=>rhs;rw[←List.take_append_drop i l]
 rw[zGu];lia
theorem zTe{l:List Tk}{i:Nat}{t:Tk}(h:l[i]? =some t):wid (l.take (i+1))=wid (l.take i)+(shw t).length:=by
 rw[vL h,zGu];rfl
def ChnN(r:List (Nat×Tk)):Prop:=∀i x y,r[i]? =some x→r[i+1]? =some y→zAf x.2 y.2=true→0<y.1
theorem ChnN.snoc{r:List (Nat×Tk)}{y:Nat×Tk}(h:ChnN r)(hy:∀x,r.getLast? =some x→zAf x.2 y.2=true→0<y.1):ChnN (r++ [y]):=by
 intro i a b ha hb hs
 by_cases c:i+1<r.length
 ·rw[nM (by lia)] at ha
  rw[nM c] at hb;exact h i a b ha hb hs
 ·have hl:=(nG.mp hb).1
  rw[mC] at hl;simp only[mE,nA] at hl;have e:i+1=r.length:=by lia
  rw[nO (by lia),e,tY] at hb;cases hb;rw[nM (by lia)] at ha;refine hy a ?_ hs;rw[aL,←e];exact ha
def PvL(H:Hp)(p:Addr)(c:Int)(p2:Addr)(tks:List Tk):Nat→St→Hp→Prop:=fun i σ H'=>∃(r:List (Nat×Tk))(b:Nat)(o4 o5 o6:Option V)(ys:List V),σ= [some (.ref p),some (.int c),some (.str (tx (lay r++List.replicate b 32))),some (.ref p2),o4,o5,o6]∧Same H H'∧H' p2=some (.lst ys)∧Tks H' ys (vV 0 r)∧ys.length=i∧r.map (·.2)=tks.take i∧ChnN r∧b≤3∧(0<i→b=0)∧(lay r).length≤wid (tks.take i)+3*i∧(∀y∈r,OkN y.2)
def MidI(H:Hp)(p:Addr)(c:Int)(p2:Addr)(r:List (Nat×Tk))(t:Tk)(i:Nat):St→Hp→Prop:=fun σ H'=>∃(b:Nat)(o5 o6:Option V),σ= [some (.ref p),some (.int c),some (.str (tx (lay r++List.replicate b 32))),some (.ref p2),some (.int i),o5,o6]∧Same H H'∧b≤3∧ChnN (r++ [(b,t)])
theorem zBg:∀(n:Nat)(a b:List (Nat×Tk)),vV n (a++b)=vV n a++vV (n+(lay a).length) b
 | n,[],b=>rfl
 | n,x::a,b=>by
  show _::vV _ (a++b)=_::(vV _ a++_);rw[zBg,uN,show n+x.1+(shw x.2).length+(lay a).length=n+(x.1+(shw x.2).length+(lay a).length) by lia]
theorem zPy(n b:Nat)(t:Tk):vV n [(b,t)]= [⟨t.1,t.2,n+b⟩]:=rfl
theorem Tks.same{H H':Hp}{xs:List V}{l:List Lk}(g:Same H H')(h:Tks H xs l):Tks H' xs l:=⟨h.1,fun i t e=>by obtain⟨a,h1,h2⟩:=h.2 i t e;exact⟨a,h1,g _ _ h2⟩⟩
theorem Tks.snoc{H:Hp}{xs:List V}{l:List Lk}{q:Addr}{t:Lk}(h:Tks H xs l)(hq:TkN H q t):Tks H (xs++ [.ref q]) (l++ [t]):=by
 refine⟨by rw[mC,mC,h.1];rfl,fun i u e=>?_⟩
 by_cases hi:i<l.length
 ·rw[nM hi] at e
  obtain⟨a,h1,h2⟩:=h.2 i u e;exact⟨a,by rw[nM (by rw[h.1];exact hi)];exact h1,h2⟩
 ·have:i=l.length:=by
   have:=(nG.mp e).1;rw[mC] at this;simp only[mE,nA] at this
   lia
  subst this;rw[nO (mL _),tY] at e;cases e;exact⟨q,by rw[nO (by rw[h.1];exact mL _),h.1,tY];rfl,hq⟩
theorem Tks.put{H:Hp}{xs zs:List V}{l:List Lk}{p:Addr}{u:HO}(h:Tks H xs l)(hp:H p=some (.lst zs)):Tks (upd H p u) xs l:=⟨h.1,fun i t e=>by
 obtain⟨a,h1,h2⟩:=h.2 i t e;refine⟨a,h1, ?_⟩;show upd H p u a=_;rw[zL (fun z=>by rw[z] at h2;exact absurd (hp.symm.trans h2) (by simp))];exact h2⟩
theorem zQb{H H2:Hp}{p q:Addr}{xs:List V}{l:List Lk}(t:Lk)(g:Same H H2)(hp0:H p=none)(hp:H2 p=some (.lst xs))(h:Tks H2 xs l)(hq:H2 q=none):Same H (upd (upd H2 q (.tup [.str (kL t.k), .str (tx t.s), .int t.n])) p (.lst (xs++ [.ref q])))∧Tks (upd (upd H2 q (.tup [.str (kL t.k), .str (tx t.s), .int t.n])) p (.lst (xs++ [.ref q]))) (xs++ [.ref q]) (l++ [t]):=by
 have s1:=zH hq (.tup [.str (kL t.k), .str (tx t.s), .int t.n]);have hne:q≠p:=fun z=>by rw[z,hp] at hq;cases hq
 refine⟨fun b u e=>?_, ?_⟩
 ·have hb:b≠p:=fun z=>by rw[z,hp0] at e;cases e
  rw[zL hb];exact s1 _ _ (g _ _ e)
 ·refine Tks.snoc ((h.same s1).put (s1 _ _ hp)) ?_
  show upd _ p _ q=_;rw[zL hne];exact zF
def TksP(H:Hp)(xs:List V)(l:List Tk):Prop:=xs.length=l.length∧∀(i:Nat) t,l[i]? =some t→∃a,xs[i]? =some (.ref a)∧TkP H a t
theorem zId(r:List (Nat×Tk))(b:Nat)(t:Tk):lay (r++ [(b,t)])=lay r++List.replicate b 32++shw t:=by
 rw[jD,nE];show lay r++(List.replicate b 32++(shw t++ []))=_;rw[mN]
section
variable{P:Program}{w:World}{K:PySem.W.Frag}{mg:Str→Option Value}{base:Heap}{f:Addr}{fd:FuncData}
def zRh:Sp:=fun vs H Q _=>∃(p:Addr)(xs:List V)(tks:List Tk)(c:Int),vs= [.ref p, .int c]∧H p=some (.lst xs)∧TksP H xs tks∧(∀t∈tks,OkN t)∧tks.length≤1000∧wid tks≤16000∧0≤c∧c<1000003∧
 ∀(o l:Addr)(r:List (Nat×Tk))(e:Nat)(H':Hp),Same H H'→H' o=some (.tup [.str (tx (lay r++List.replicate e 32)), .ref l])→(∃zs,H' l=some (.lst zs)∧Tks H' zs (vV 0 r++ [⟨4,[],(lay r++List.replicate e 32).length⟩]))→(∀y∈r,OkN y.2)→ChnN r→r.map (·.2)=tks→(lay r++List.replicate e 32).length≤19996→Q (.ref o) H'
theorem scLaid:zV ["_law_row","_law_cell_here","_law_text","_law_found","_law_k","_law_more","_law_least"] ["_law_row","_law_cell_here"] (zO zQv):=by walk_at "sc"
theorem zXh(F:Fun K "_law_laid" "_law_laid" zQv f fd)(B:Bl2 mg)(G_law_sticks:Dn P w K mg base 1 "_law_sticks" ["_law_one_here","_law_other"] zIa)(G_law_shown:Dn P w K mg base 1 "_law_shown" ["_law_token"] zNl):FnOk P w K mg base CX0 2 f fd ["_law_row","_law_cell_here"] zRh:=by
 refine F.ok scLaid (by walk_at "ln") fun c A o s H vs Q E hr h=>?_;obtain⟨p,xs,tks,c,rfl,hp,hT,hok,h24,hwid,hc0,hc1,q⟩:=h;have nd:=scLaid.nd;refine⟨_,(zB (pS 2 nd (zI xJ zD (zQ zX (yF (zA zC (zA zC (zA (zI zY (pv 1) zC) zE)))) (zI zY (zI zZ (pv 1) zC) zC) (fun _ _=>rfl))))
  (zB (pS 3 nd (yF zE))
  (zB (zFs PassesOwn.never rfl (vB rfl B.range (zA (zP yH rfl B.len yK (zA (pv 0) zE)) zE)) (yO (i:=4) nd rfl (pR rfl)) (zB (pS 5 nd (zI zY (zI yD (zI yD (pv 1) (zI wO (pv 4) zC)) (zI wO (zI wO (pv 4) (pv 4)) zC)) zC))
  (zB (xZ (zR (zK qH (pv 4) zC (zJ _)) (zB (pS 6 nd (yM yZ rfl B.int xO (zA (pD G_law_sticks hr (zA (zQ zX (pv 0) (zI jO (pv 4) zC) (fun _ _=>rfl)) (zA (zQ zX (pv 0) (pv 4) (fun _ _=>rfl)) zE))) zE)))
  (zG (pS 2 nd (zI yW (pv 2) (zI xJ zD (zP (zOx rfl) rfl B.max zZq (zA (pv 6) (zA (zQ zX (yF (zA zC (zA zC (zA (zI zY (zI zZ (pv 5) zC) zC) zE)))) (zI zY (pv 5) zC) (fun _ _=>rfl)) zE)))))))) zM))
  (zB (yY (xQ nN nW nZ xH (pv 3) (zA (yP (zA (zQ yB (zQ zX (pv 0) (pv 4) (fun _ _=>rfl)) zC (fun _ _=>rfl)) (zA (zQ yB (zQ zX (pv 0) (pv 4) (fun _ _=>rfl)) zC (fun _ _=>rfl)) (zA (zP yG rfl B.len yK (zA (pv 2) zE)) zE)))) zE)))
  (zG (pS 2 nd (zI yW (pv 2) (pD G_law_shown hr (zA (zQ zX (pv 0) (pv 4) (fun _ _=>rfl)) zE)))))))))
  (zB (pS 2 nd (zI yW (pv 2) (zI xJ zD (zQ zX (yF (zA zC (zA (zI zY (zI zZ (pv 1) zC) zC) zE))) (zI zY (zI zZ (pv 1) zC) zC) (fun _ _=>rfl)))))
  (zG (zN (yP (zA (pv 2) (zA (zI zCf (pv 3) (yF (zA (yP (zA zD (zA zD (zA (zP yG rfl B.len yK (zA (pv 2) zE)) zE)))) zE))) zE))))))))), ?_⟩
 walk_at "st";walk_at "rd6";intro p1 hp1;have e1:=zF (H:=H) (a:=p1) (o:=.lst [V.int 0,V.int 0,V.int (c % 4)]);have s1:=zH hp1 (.lst [V.int 0,V.int 0,V.int (c % 4)]);generalize upd H p1 _=H1 at s1 e1⊢;obtain⟨v,hv,hm⟩:=wZ (xs:=[V.int 0,V.int 0,V.int (c % 4)]) (i:=c / 4 % 3) (by lia) (by simp only[mE,nA];lia);obtain⟨n,rfl,n0,n3⟩:∃n:Int,v= .int n∧0≤n∧n≤3:=by
  simp only[mF,nP,rD] at hm;rcases hm with rfl | rfl | rfl
  ·exact⟨_,rfl,by lia,by lia⟩
  ·exact⟨_,rfl,by lia,by lia⟩
  ·exact⟨_,rfl,by lia,by lia⟩
 refine zW (SqL.of e1) hv ⟨n,rfl,by decide,by lia,by lia,fun p2 hp2=>?_⟩;have s2:=s1.trans (zH hp2 (.lst []));have hp2H:H p2=none:=zEn s1 hp2;have hxl:=hT.1;have ts_sp:ts (Str.ofString " ")= [32]:=by decide+kernel
 rw[ts_sp,qK];refine⟨xs,SqL.of (s2 _ _ hp),by lia,by lia,zCe (PvL H p c p2 tks) ⟨[],n.toNat,none,none,none,[],rfl,s2,zF,⟨rfl,(fun i t e=>nomatch e)⟩,rfl,rfl,(fun i x y h=>nomatch h),by lia,fun h=>absurd h (rR _),rK _,(fun y h=>nomatch h)⟩ ?_ ?_⟩
 ·rintro i σ H' hi ⟨r,b,o4,o5,o6,ys,rfl,g,hp2',hR,hyl,hrm,hch,hb3,hb0,hlen,hrok⟩
  obtain⟨t,ht⟩:∃t,tks[i]? =some t:=⟨_,pY (by lia)⟩;obtain⟨a,ha1,ha2⟩:=hT.2 i t ht;have htok:=hok t (pB ht);have hrl:r.length=i:=by
   have:=congrArg List.length hrm;rw[mZ,pT] at this
   lia
  have hwt:=zIx tks i;have hws:=zTe ht;walk_at "rd6";refine⟨.inl (by lia),MidI H' p c p2 r t i, ?_, ?_⟩
  ·walk_at "rd6"
   simp only[Int.zero_add];have hpH:=g _ _ hp
   by_cases c0:(0:Int)<(i:Int)
   ·have hi0:0<i:=by lia
    have hb:=hb0 hi0;subst hb;obtain⟨u,hu⟩:∃u,tks[i - 1]? =some u:=⟨_,pY (by lia)⟩;obtain⟨a',hb1,hb2⟩:=hT.2 (i - 1) u hu;have huok:=hok u (pB hu);have elast:∀x,r.getLast? =some x→x.2=u:=fun x hx=>by
     rw[aL,hrl] at hx;have h1:(r.map (·.2))[i - 1]? =some x.2:=by rw[pP,hx];rfl
     rw[hrm,tH (by lia),hu] at h1;exact(nV h1).symm
    refine iP c0 (zW (SqL.of hpH) (show atI xs ((i:Int)- 1)=some (V.ref a') by rw[show(i:Int)- 1=((i - 1:Nat):Int) by lia];exact yE hb1) (zW (SqL.of hpH) (yE ha1) ⟨a',a,u,t,rfl,g _ _ hb2,g _ _ ha2,huok,htok,zAf u t,rfl,fun q1 hq1=>?_⟩));have hm0:=sG (c+(i:Int)*7919+(i:Int)*(i:Int)*31) (show(1000003:Int)≠0 by decide);generalize (c+(i:Int)*7919+(i:Int)*(i:Int)*31)% 1000003=m at hm0⊢;obtain⟨v,hv,hm⟩:=wZ (xs:=[V.int 0,V.int 1,V.int (m / 3 % 4)]) (i:=m % 3) (by lia) (by simp only[mE,nA];lia);obtain⟨j,rfl,j0,j3⟩:∃n:Int,v= .int n∧0≤n∧n≤3:=by
     simp only[mF,nP,rD] at hm;rcases hm with rfl | rfl | rfl
     ·exact⟨_,rfl,by lia,by lia⟩
     ·exact⟨_,rfl,by lia,by lia⟩
     ·exact⟨_,rfl,by lia,by lia⟩
    have sq:=zH hq1 (.lst [V.int 0,V.int 1,V.int (m / 3 % 4)]);obtain⟨k,hk0,hk3,hks⟩:∃k:Nat,(if j>(if zAf u t=true then(1:Int) else 0) then j else(if zAf u t=true then 1 else 0))=(k:Int)∧k≤3∧(zAf u t=true→0<k):=by
     refine⟨(if j>(if zAf u t=true then(1:Int) else 0) then j else(if zAf u t=true then 1 else 0)).toNat, ?_⟩
     cases zAf u t with
     | false=>
      simp only[sR,sW];split
      ·exact⟨by lia,by lia,fun h=>nomatch h⟩
      ·exact⟨rfl,by decide,fun h=>nomatch h⟩
     | true=>
      simp only[tL];split
      ·exact⟨by lia,by lia,fun _=>by lia⟩
      ·exact⟨rfl,by decide,fun _=>by decide⟩
    refine zW (SqL.of zF) hv ⟨_,j,⟨rfl,rfl⟩, ?_⟩;rw[hk0,ts_sp,qK,sH,xX,zU,zU];simp only[aH,mN];refine⟨by decide,by lia,by lia, ?_,k,_,_,rfl,sq,hk3,hch.snoc fun x hx hs=>?_⟩
    ·rw[zU,mU];lia
    ·rw[elast x hx] at hs
     exact hks hs
   ·have hi0:i=0:=by lia
    subst hi0;have er:r= []:=nY hrl;subst er;refine iN c0 ⟨b,_,_,rfl,Same.refl _,hb3,hch.snoc fun x hx=>?_⟩;cases hx
  ·rintro σ' H'' ⟨b',o5',o6',rfl,g',hb',hch'⟩
   walk_at "rd6";have G:=g.trans g';have hlr:(lay r++List.replicate b' 32).length=(lay r).length+b':=by rw[mC,mU]
   refine⟨.inl ⟨rfl,_,SqL.of (g' _ _ hp2')⟩,zW (SqL.of (G _ _ hp)) (yE ha1) (yC (SqT.of (G _ _ ha2)) (yE (j:=0) rfl) (zW (SqL.of (G _ _ hp)) (yE ha1) (yC (SqT.of (G _ _ ha2)) (yE (j:=1) rfl) ⟨by rw[zU,hlr];lia,fun q1 hq1=>?_⟩)))⟩;rw[zU];obtain⟨g3,g4⟩:=zQb ⟨t.1,t.2,(lay r++List.replicate b' 32).length⟩ G hp2H (g' _ _ hp2') (hR.same g') hq1;refine⟨p2,ys,_,rfl,rfl,zH hq1 _ _ _ (g' _ _ hp2'),by rw[mJ];lia, ?_⟩;generalize hHH:upd (upd H'' q1 _) p2 _=HH at g3 g4⊢;have e2:HH p2=some (.lst (ys++ [.ref q1])):=by rw[←hHH];exact zF
   refine zW (SqL.of (g3 _ _ hp)) (yE ha1) ⟨a,t,rfl,g3 _ _ ha2,htok,fun H3 g5=>⟨_,rfl, ?_, ?_⟩⟩
   ·have:=htok.slen
    rw[zU,hlr];lia
   ·rw[xX,←zId]
    refine⟨r++ [(b',t)],0,_,_,_,_,by rw[aH,mN],g3.trans g5,g5 _ _ e2, ?_,by rw[mC,hyl];rfl, ?_,hch',rK _,fun _=>rfl, ?_,fun y hy=>?_⟩
    ·rw[zBg,zPy,rX,←hlr]
     exact g4.same g5
    ·rw[pK,hrm,vL ht];rfl
    ·have:=htok.slen
     rw[zId,mC,hlr,hws];lia
    ·rcases pA.mp hy with z | z
     ·exact hrok y z
     ·rw[mS.mp z];exact htok
 ·rintro σ H' ⟨r,b,o4,o5,o6,ys,rfl,g,hp2',hR,hyl,hrm,hch,hb3,hb0,hlen,hrok⟩
  rw[sH] at hrm hlen hyl hb0;walk_at "rd6";intro q1 hq1;have e1:=zF (H:=H') (a:=q1) (o:=.lst [V.int 0,V.int (c / 12 % 4)]);have s1:=zH hq1 (.lst [V.int 0,V.int (c / 12 % 4)]);generalize upd H' q1 _=H1 at s1 e1⊢;obtain⟨v,hv,hm⟩:=wZ (xs:=[V.int 0,V.int (c / 12 % 4)]) (i:=c / 48 % 2) (by lia) (by simp only[mE,nA];lia);obtain⟨j,rfl,j0,j3⟩:∃n:Int,v= .int n∧0≤n∧n≤3:=by
   simp only[mF,nP,rD] at hm;rcases hm with rfl | rfl
   ·exact⟨_,rfl,by lia,by lia⟩
   ·exact⟨_,rfl,by lia,by lia⟩
  have hrl:r.length=xs.length:=by
   have:=congrArg List.length hrm;rw[mZ,pT] at this
   lia
  have hlr:(lay r++List.replicate b 32).length=(lay r).length+b:=by rw[mC,mU]
  have hL:lay r++List.replicate b 32++List.replicate j.toNat 32=lay r++List.replicate (b+j.toNat) 32:=by rw[nE,List.replicate_append_replicate]
  have hwt:=zIx tks xs.length;have hLl:(lay r++List.replicate (b+j.toNat) 32).length≤19996:=by rw[mC,mU];lia
  refine zW (SqL.of e1) hv ⟨j,rfl,by decide,by lia,by lia, ?_⟩;rw[ts_sp,qK,xX,hL,zU,zU,zU,hlr,mU];generalize hLe:lay r++List.replicate (b+j.toNat) 32=L at hLl⊢;refine⟨by lia,by lia,fun q2 hq2 q3 hq3=>?_⟩;have e2:=zF (H:=H1) (a:=q2) (o:=.tup [V.str (Str.ofString "end"),V.str (Str.ofString ""),V.int L.length]);have s2:=zH hq2 (.tup [V.str (Str.ofString "end"),V.str (Str.ofString ""),V.int L.length]);generalize upd H1 q2 _=H2 at s2 e2 hq3⊢;have e3:=zF (H:=H2) (a:=q3) (o:=.lst [V.ref q2]);have s3:=zH hq3 (.lst [V.ref q2]);generalize upd H2 q3 _=H3 at s3 e3⊢;have g3:=s1.trans (s2.trans s3);refine⟨p2,q3,ys,[V.ref q2],rfl,rfl,g3 _ _ hp2',e3,by rw[mJ];simp only[mE,nA];lia,fun q4 hq4 q5 hq5=>?_⟩;have e4:=zF (H:=H3) (a:=q4) (o:=.lst (ys++ [V.ref q2]));have s4:=zH hq4 (.lst (ys++ [V.ref q2]));generalize upd H3 q4 _=H4 at s4 e4 hq5⊢;have s5:=zH hq5 (.tup [V.str (tx L),V.ref q4]);have g5:=g3.trans (s4.trans s5);have eL:(lay r++List.replicate (b+j.toNat) 32).length=L.length:=by rw[hLe]
  refine q q5 q4 r (b+j.toNat) _ (g.trans g5) (by rw[hLe];exact zF) ⟨_,s5 _ _ e4, ?_⟩ hrok hch (by rw[hrm,hxl,sP]) (by lia);rw[eL];exact Tks.snoc (hR.same g5) ((s3.trans (s4.trans s5)) _ _ e2)
end
end K27
namespace K27
open PySem L2 PySem.W
def zZu(tks:List Tk):Prop:=(∀t∈tks,OkTk t)∨∃pre b last post,tks=pre++(5,b)::post∧(∀t∈pre,OkTk t)∧(∀t∈post,OkTk t)∧uP b last∧(last=true→post= [])
theorem zHh{b:List Nat}{n:Nat}{rest:List Lk}:∀(a:List Lk)(S:Mc),run S (a++⟨5,b,n⟩::rest)=run S (a++ [⟨5,[],n⟩])
 | [],S=>by
  rw[nH,nH,vK (t:=⟨5,b,n⟩) (zTl S b),vK (t:=⟨5,[],n⟩) (zTl S [])]
 | u::a,S=>by
  show(match nxt S u.k u.s with | .go S'=>run S' (a++Lk.mk 5 b n::rest)| .bad=>.bad u.n | .great=>.great | .good=>.good S.whole)=(match nxt S u.k u.s with | .go S'=>run S' (a++ [Lk.mk 5 [] n])| .bad=>.bad u.n | .great=>.great | .good=>.good S.whole)
  cases nxt S u.k u.s with
  | go S'=>exact zHh a S'
  | bad=>rfl
  | great=>rfl
  | good=>rfl
theorem zUc{t:Tk}(h:OkTk t):t.1≠5:=fun z=>by
 have:=OkTk.k h;rw[z] at this;exact absurd this (by decide)
theorem zNw{a b:Tk}(ha:OkTk a)(hb:OkTk b):zAf a b=stk a b:=mG (fun z=>z.elim (zUc ha) (zUc hb))
theorem zRy{r:List (Nat×Tk)}(h:ChnN r)(hok:∀y∈r,OkTk y.2):Chn r:=fun i x y hx hy hs=>h i x y hx hy (by rw[zNw (hok x (pB hx)) (hok y (pB hy))];exact hs)
theorem zQf{a b:List (Nat×Tk)}(h:ChnN (a++b)):ChnN a:=fun i x y hx hy hs=>h i x y (by rw[nM (nG.mp hx).1];exact hx) (by rw[nM (nG.mp hy).1];exact hy) hs
theorem zJh:∀(n:Nat)(r:List (Nat×Tk)),(∀y∈r,OkN y.2)→OkLs (vV n r)
 | _,[],_=>fun t ht=>nomatch ht
 | n,x::r,h=>fun t ht=>by
  rcases mF.mp ht with e | ht
  ·rw[e]
   have hx:=h x mH;have hl:=hx.len;refine⟨by show x.2.2.length≤_;lia, ?_⟩;rcases hx with⟨⟨_,h2⟩,_⟩|⟨h5,_⟩
   ·rcases h2 with a | a | a | a
    ·exact .inl a
    ·exact .inr (.inl a)
    ·exact .inr (.inr (.inl a))
    ·exact .inr (.inr (.inr (.inl a)))
   ·exact .inr (.inr (.inr (.inr (.inr h5))))
  ·exact zJh _ r (fun y hy=>h y (mQ _ hy)) t ht
theorem zZt{tks:List Tk}{r:List (Nat×Tk)}{e:Nat}(hrow:zZu tks)(hm:r.map (·.2)=tks)(hN:∀y∈r,OkN y.2)(hc:ChnN r)(hl:tks.length≤1000):
  ∃l,Src (lay r++List.replicate e 32) l∧run S0 (vV 0 r++ [⟨4,[],(lay r++List.replicate e 32).length⟩])=run S0 l:=by
 have hrl:r.length=tks.length:=by rw[←hm,mZ]
 rcases hrow with hg |⟨pre,b,last,post,e1,hpre,hpost,hb,hlast⟩
 ·have hok:∀y∈r,OkTk y.2:=fun y hy=>hg y.2 (by rw[←hm];exact sL hy)
  exact⟨_, .inl ⟨r,e,rfl,hok,zRy hc hok,by lia,rfl⟩,rfl⟩
 ·rw[e1] at hm
  obtain⟨r1,r2',er,m1,m2⟩:=List.map_eq_append_iff.mp hm
  cases r2' with
  | nil=>cases m2
  | cons x r2=>
  rw[mY] at m2;obtain⟨m3,m4⟩:=List.cons.inj m2;obtain⟨g,tk⟩:=x;have m3:tk=(5,b):=m3;subst m3;subst er;have hok1:∀y∈r1,OkTk y.2:=fun y hy=>hpre y.2 (by rw[←m1];exact sL hy);have hok2:∀y∈r2,OkTk y.2:=fun y hy=>hpost y.2 (by rw[←m4];exact sL hy);obtain⟨c,b',eb,hcb⟩:=hb.2.1;have eL:lay (r1++(g,(5,b))::r2)++List.replicate e 32=lay r1++List.replicate g 32++(b++(lay r2++List.replicate e 32)):=by
   rw[jD];show lay r1++(List.replicate g 32++(shw (5,b)++lay r2))++_=_;rw[show shw (5,b)=b from rfl];simp only[nE]
  rw[eL];have hi1:(r1++(g,(5,b))::r2)[r1.length]? =some (g,(5,b)):=by
   rw[nO (mL _),tY];rfl
  have hbad:BadT (b++(lay r2++List.replicate e 32)):=by
   cases r2 with
   | nil=>exact hb.2.2.1 e
   | cons x r2=>
    have hx:0<x.1:=by
     refine hc r1.length (g,(5,b)) x hi1 ?_ ?_
     ·rw[nO (by lia),show r1.length+1 - r1.length=1 by lia];rfl
     ·show(if(5:Nat)=5∨x.2.1=5 then decide ((5:Nat)=5)|| _ else _)=true
      rw[mK (.inl rfl)];rfl
    have hlf:last=false:=by
     cases last with
     | false=>rfl
     | true=>
      have:=hlast rfl;rw[this] at m4;cases m4
    have:lay (x::r2)++List.replicate e 32=32::(List.replicate (x.1 - 1) 32++(shw x.2++lay r2)++List.replicate e 32):=by
     show List.replicate x.1 32++(shw x.2++lay r2)++_=_;rw[show x.1=(x.1 - 1)+1 by lia,pU];simp
    rw[this];exact hb.2.2.2 hlf _
  refine⟨_, .inr ⟨r1,g,_,rfl,hok1,zRy (zQf hc) hok1,by rw[mC] at hrl;lia,hbad,fun hg0 z hz=>?_,rfl⟩, ?_⟩
  ·intro c1 r' e2
   rw[eb] at e2;have hc1:c1=c:=(List.cons.inj e2).1.symm;rw[hc1];have hz':r1[r1.length - 1]? =some z:=by rw[←aL];exact hz
   have hr1:0<r1.length:=by
    cases r1 with
    | nil=>cases hz
    | cons _ _=>exact sU _
   have hns:¬zAf z.2 (5,b)=true:=fun y=>by
    have:=hc (r1.length - 1) z (g,(5,b)) (by rw[nM (by lia)];exact hz') (by rw[show r1.length - 1+1=r1.length by lia];exact hi1) y;have this:0<g:=this
    lia
   unfold zSq;split
   ·exact fun y=>hcb (nX _ y)
   split
   ·exact hcb
   split
   ·rename_i h2
    intro y;refine hns ?_;show(if z.2.1=5∨(5:Nat)=5 then decide (z.2.1=5)||(decide (z.2.1=2)&& decide (b.head? =some 39)) else _)=true
    rw[mK (.inr rfl),nB h2,eb,mS.mp y];simp
   ·exact fun y=>nomatch y
  ·rw[zBg,nE]
   show run S0 (vV 0 r1++(⟨5,b,0+(lay r1).length+g⟩::(vV _ r2++_)))=_;rw[rX];exact zHh _ _
end K27
namespace K27
open PySem L2 PySem.W
seal L2.PSs L2.PS L2.PE L2.PT L2.PW L2.PA L2.PI L2.PG L2.PGs L2.PPs L2.PTs
abbrev sWb:Stmt:=top 62
abbrev sLi:Stmt:=top 60
def OkS(t:Tk):Prop:=OkTk t∧(t.1=2→t.2.length≤60)
theorem zWi{k:List Nat}(h:gG k=true):OkTk (1,k):=by
 have hl:=zKu h;unfold gG at h;simp only[rC,pQ,pH] at h;obtain⟨⟨⟨h1,h2⟩,h3⟩,h4⟩:=h
 cases k with
 | nil=>cases h3
 | cons c r=>exact⟨nR hl (by decide), .inr (.inl ⟨rfl,c,r,rfl,by simpa using h3,fun d hd=>h4 d (mQ _ hd)⟩)⟩
theorem zYt{i:Int}(h: -(10 ^ 12)≤i∧i≤10 ^ 12):∃L,Str.ofString (toString i)=tx L∧OkTk (0,L):=by
 have hl:=zVo h;have e:=zSx i;rw[zSd (if i<0 then -i else i),xX] at e;have h0:0≤(if i<0 then -i else i):=by split<;>lia
 obtain⟨b1,b2⟩:=uL h0;refine⟨_,e, ?_, .inl ⟨rfl,_,_,rfl, ?_,b1,b2⟩⟩
 ·rw[e,zU] at hl
  exact nR hl (by decide)
 ·split
  ·exact .inr rfl
  ·exact .inl rfl
theorem TksP.same{H H':Hp}{xs:List V}{l:List Tk}(g:Same H H')(h:TksP H xs l):TksP H' xs l:=⟨h.1,fun i t e=>by obtain⟨a,h1,h2⟩:=h.2 i t e;exact⟨a,h1,g _ _ h2⟩⟩
theorem TksP.app{H:Hp}{xs ys:List V}{a b:List Tk}(h:TksP H xs a)(h':TksP H ys b):TksP H (xs++ys) (a++b):=by
 refine⟨by rw[mC,mC,h.1,h'.1],fun i t e=>?_⟩
 by_cases hi:i<a.length
 ·rw[nM hi] at e
  rw[nM (by rw[h.1];exact hi)];exact h.2 i t e
 ·rw[nO (by lia)] at e
  rw[nO (by rw[h.1];lia),h.1];exact h'.2 _ t e
theorem TksP.take{H:Hp}{xs:List V}{a:List Tk}(n:Nat)(h:TksP H xs a):TksP H (xs.take n) (a.take n):=by
 refine⟨by rw[pT,pT,h.1],fun i t e=>?_⟩;have hi:i<n:=by
  have:=(nG.mp e).1;rw[pT] at this
  lia
 rw[tH hi] at e;rw[tH hi];exact h.2 i t e
theorem TksP.drop{H:Hp}{xs:List V}{a:List Tk}(n:Nat)(h:TksP H xs a):TksP H (xs.drop n) (a.drop n):=by
 refine⟨by rw[nL,nL,h.1],fun i t e=>?_⟩;rw[rQ] at e⊢;exact h.2 _ t e
theorem TksP.one{H:Hp}{q:Addr}{t:Tk}(h:TkP H q t):TksP H [.ref q] [t]:=⟨rfl,fun i u e=>by
 cases i with
 | zero=>cases e;exact⟨q,rfl,h⟩
 | succ i=>simp at e⟩
section
variable{P:Program}{w:World}{K:PySem.W.Frag}{mg:Str→Option Value}{base:Heap}{f:Addr}{fd:FuncData}
def spWb:Sp:=fun vs H Q _=>∃(p:Addr)(xs:List V)(tks:List Tk)(n:Nat)(c:Int),vs= [.ref p, .int n, .int c]∧H p=some (.lst xs)∧TksP H xs tks∧(∀t∈tks,OkS t)∧n≤tks.length∧tks.length≤500∧0≤c∧
 ∀(q:Addr)(zs:List V)(tks':List Tk)(H':Hp),Same H H'→H' q=some (.lst zs)→TksP H' zs tks'→zZu tks'→(∀t∈tks',OkN t)→tks'.length≤tks.length+1→Q (.ref q) H'
theorem scWb:zV ["_law_row","_law_at","_law_cell_here","_law_string","_law_last","_law_found"] ["_law_row","_law_at","_law_cell_here"] (zO sWb):=by walk_at "sc"
theorem ok_wb(F:Fun K "_law_with_bad" "_law_with_bad" sWb f fd)(G_law_bad:Dn P w K mg base 1 "_law_bad" ["_law_cell_here"] zYf):FnOk P w K mg base CX0 2 f fd ["_law_row","_law_at","_law_cell_here"] spWb:=by
 refine F.ok scWb (by walk_at "ln") fun c A o s H vs Q E hr h=>?_;obtain⟨p,xs,tks,n,c,rfl,hp,hT,hok,hn,h500,hc,q⟩:=h;have nd:=scWb.nd;refine⟨_,(zB (zBv (pD G_law_bad hr (zA (pv 2) zE)) (zEz (n:=2) rfl (wE (yO (i:=3) nd rfl (pR rfl)) (wE (yO (i:=4) nd rfl (pR rfl)) zAv))))
  (zB (pS 5 nd (zI zCf (xI zGq (pv 0) kJ (yU (pv 1))) (yF (zA (yP (zA zD (zA (pv 3) zE))) zE))))
  (zG (zN (vQ (yT (pv 4)) (pv 5) (zI zCf (pv 5) (xI zGq (pv 0) (yU (pv 1)) kJ))))))), ?_⟩
 walk_at "st";walk_at "rd6";refine⟨c,rfl,hc,fun p1 b l H1 g1 hp1 hb=>?_⟩;refine⟨p1,rfl,_,SqT.of hp1,rfl,_,_,rfl,_,_,rfl,rfl,p,xs,rfl,SqL.of (g1 _ _ hp),fun p2 hp2=>?_⟩;rw[zYs];have g2:=zH hp2 (.lst (xs.take n));have h2:upd H1 p2 (.lst (xs.take n)) p2=_:=zF;generalize upd H1 p2 (.lst (xs.take n))=H2 at g2 h2⊢;intro p3 hp3;have g3:=zH hp3 (.tup [V.str (Str.ofString "none"),V.str (tx b)]);have h3:upd H2 p3 (.tup [V.str (Str.ofString "none"),V.str (tx b)]) p3=_:=zF;generalize upd H2 p3 (.tup [V.str (Str.ofString "none"),V.str (tx b)])=H3 at g3 h3⊢;intro p4 hp4;have g4:=zH hp4 (.lst [V.ref p3]);have h4:upd H3 p4 (.lst [V.ref p3]) p4=_:=zF;generalize upd H3 p4 (.lst [V.ref p3])=H4 at g4 h4⊢;have hxl:=hT.1;refine⟨p2,p4,_,_,rfl,rfl,g4 _ _ (g3 _ _ h2),h4,by rw[mJ,pT];show _+1≤_;lia,fun p5 hp5=>⟨l,rfl, ?_⟩⟩;have g5:=zH hp5 (.lst (xs.take n++ [V.ref p3]));have h5:upd H4 p5 (.lst (xs.take n++ [V.ref p3])) p5=_:=zF;generalize upd H4 p5 (.lst (xs.take n++ [V.ref p3]))=H5 at g5 h5⊢;have g15:=g1.trans (g2.trans (g3.trans (g4.trans g5)));have hP:TksP H5 (xs.take n++ [V.ref p3]) (tks.take n++ [(5,b)]):=((hT.take n).same g15).app (TksP.one (t:=(5,b)) (g5 _ _ (g4 _ _ h3)));have hpre:∀t∈tks.take n,OkTk t:=fun t ht=>(hok t (List.mem_of_mem_take ht)).1;have hpost:∀t∈tks.drop n,OkTk t:=fun t ht=>(hok t (List.mem_of_mem_drop ht)).1;have hN:∀t∈tks.take n++ [(5,b)],OkN t:=fun t ht=>(pA.mp ht).elim (fun z=>.inl (hok t (List.mem_of_mem_take z))) fun z=>by rw[mS.mp z];exact .inr ⟨rfl,l,hb⟩
 have hl1:(tks.take n++ [(5,b)]).length=n+1:=by rw[mC,pT];show _+1=_;lia
 cases l with
 | true=>exact iP rfl (q p5 _ _ H5 g15 h5 hP (.inr ⟨tks.take n,b,true,[],rfl,hpre,(fun t z=>nomatch z),hb,fun _=>rfl⟩) hN (by lia))
 | false=>
  refine iN (by decide) ⟨p,xs,rfl,SqL.of (g15 _ _ hp),fun p6 hp6=>?_⟩;rw[zRi];have g6:=zH hp6 (.lst (xs.drop n));have h6:upd H5 p6 (.lst (xs.drop n)) p6=_:=zF;generalize upd H5 p6 (.lst (xs.drop n))=H6 at g6 h6⊢;refine⟨p5,p6,_,_,rfl,rfl,g6 _ _ h5,h6, ?_,fun p7 hp7=>?_⟩
  ·rw[mJ,mC,pT,nL];show _+1+_≤_;lia
  have g7:=g15.trans (g6.trans (zH hp7 (.lst (xs.take n++ [V.ref p3]++xs.drop n))));refine q p7 _ _ _ g7 zF ((hP.same (g6.trans (zH hp7 _))).app ((hT.drop n).same g7)) (.inr ⟨tks.take n,b,false,tks.drop n,by rw[nE];rfl,hpre,hpost,hb,fun z=>nomatch z⟩) (fun t ht=>(pA.mp ht).elim (hN t) fun z=>.inl (hok t (List.mem_of_mem_drop z))) ?_;rw[mC,hl1,nL]
  lia
def spLi:Sp:=fun vs H Q _=>∃(F:Hp)(st:Addr)(S:Mc)(m:Int),vs= [.ref st, .int m]∧Sta F st H S∧Wf S∧0≤m∧m<1000003∧
 ∀(p:Addr)(t:Tk)(H':Hp),Sta F st H' S→H' p=some (.tup [.str (kS t.1), .str (tx t.2)])→OkS t→Q (.ref p) H'
theorem scLi:zV ["_law_state","_law_more","_law_cell_here","_law_due_here","_law_around","_law_close"] ["_law_state","_law_more"] (zO sLi):=by walk_at "sc"
theorem ok_li(F:Fun K "_law_likely" "_law_likely" sLi f fd)(B:Bl mg)(G_law_token_by:Dn P w K mg base 3 "_law_token_by" ["_law_more"] zQt)(G_law_name_by:Dn P w K mg base 1 "_law_name_by" ["_law_more"] zSt)(G_law_text_by:Dn P w K mg base 2 "_law_text_by" ["_law_more"] zKp)(G_law_number_by:Dn P w K mg base 1 "_law_number_by" ["_law_more"] zXy):FnOk P w K mg base CX0 4 f fd ["_law_state","_law_more"] spLi:=by
 refine F.ok scLi (by walk_at "ln") fun c A o s H vs Q E hr h=>?_;obtain⟨F,st,S,m,rfl,hS,wf,hm0,hm1,q⟩:=h;have nd:=scLi.nd;have hu:=kF hr;refine⟨_,(zB (pS 2 nd (zI zZ (pv 1) zC))
  (zB (pS 3 nd (yR hu (pv 0) zD (fun _ _=>rfl)))
  (zB (zR (zK zS (zI zY (pv 1) zC) zC (zJ _)) (zG (zN (pD G_law_token_by hr (zA (pv 2) zE)))) zM)
  (zB (zR (zK zS (pv 3) zD (zJ _)) (zG (zN (yP (zA zD (zA zD zE))))) zM)
  (zB (xZ (pS 4 nd (vQ (zK qH (zP yH rfl B.len yK (zA (yR hu (pv 0) zD (fun _ _=>rfl)) zE)) zC (zJ _)) (zQ zX (yR hu (pv 0) zD (fun _ _=>rfl)) (wQ xN zC) (fun _ _=>rfl)) jC)))
  (zB (xZ (pS 5 nd (yP (zA zD (zA (zQ zX (yF (zA zD (zA zD zE))) (yM yZ rfl B.int xO (zA (zP (wW (T:="list") (by decide)) rfl B.isinstance zT (zA (pv 4) (zA (vJ (v:=.ty "list") rfl B.list qG rfl) zE))) zE)) (fun _ _=>rfl)) zE)))))
  (zB (zR (zK zS (pv 3) zD (zJ _)) (zG (zN (zQ zX (yF (zA (yP (zA zD (zA zD zE))) (zA (pv 5) zE))) (yM yZ rfl B.int xO (zA (yA jP (zI zY (zI zZ (pv 1) zC) zC) zC (zJ _)) zE)) (fun _ _=>rfl)))) zM)
  (zB (xZ (zR (PW.pt (jS (PW.pt (wA (zK zS (pv 3) zD (zJ _)) (xV (zK zS (zI zY (zI zZ (pv 1) zC) zC) zC (zJ _))))) (vX (PW.pt (wA (zK zS (pv 3) zD (zJ _)) (xV (zK zS (zI zY (zI zZ (pv 1) zC) zC) zC (zJ _)))))))) (zG (zN (pv 5))) zM))
  (zB (xZ (zR (PW.pt (wA (yT (zP (wW (T:="dict") (by decide)) rfl B.isinstance zT (zA (pv 4) (zA (vJ (v:=.ty "dict") rfl B.dict gU rfl) zE)))) (xV (zK vE (pv 3) zD (zJ _))))) (zG (zN (yP (zA zD (zA (pD G_law_name_by hr (zA (pv 2) zE)) zE))))) zM))
  (zB (xZ (zR (PW.pt (wA (zK jP (zI zY (zI zZ (pv 1) zC) zC) zC (zJ _)) (xV (zK jP (zP yH rfl B.len yK (zA (yR hu (pv 0) zD (fun _ _=>rfl)) zE)) zC (zJ _))))) (zG (zN (yP (zA zD (zA (zQ xK zD (zI zY (zI zZ (pv 1) zC) zC) (fun _ _=>rfl)) zE))))) zM))
  (zB (zR (zK zS (zI zY (zI zZ (pv 1) zC) zC) zC (zJ _)) (zG (zN (yP (zA zD (zA (pD G_law_text_by hr (zA (pv 2) zE)) zE))))) zM)
  (zG (zN (zQ zX (yF (zA (yP (zA zD (zA (yM vI rfl B.str uV (zA (pD G_law_number_by hr (zA (pv 2) zE)) zE)) zE))) (zA (yP (zA zD (zA (zQ zX (yF (zA zD (zA zD (zA zD zE)))) (zI zY (pv 2) zC) (fun _ _=>rfl)) zE))) zE))) (zI zY (zI zZ (pv 1) zC) zC) (fun _ _=>rfl))))))))))))))), ?_⟩
 unfold zQp;walk_at "st";walk_at "rd6";obtain⟨o,nn,as,wv,sc,hw1,hw2⟩:=id hS;refine⟨_,zGd▸DGet.k (k:=kOf (Str.ofString "due")) sc.hst, ?_⟩;have hmk:∀c∈mkL,OkS (3,[c]):=fun c hc=>⟨⟨by show 1≤100;lia, .inr (.inr (.inr ⟨rfl,c,rfl,hc⟩))⟩,fun z=>absurd (show(3:Nat)=2 from z) (by decide)⟩
 by_cases h29:m % 29=3
 ·exact iP h29 ⟨m / 64,rfl,by lia,by lia,fun p t H' g hp ht h60=>q p t H' (hS.same g) hp ⟨ht,h60⟩⟩
 refine iN h29 ⟨rfl, ?_⟩
 by_cases hco:V.str (duS S.du)=V.str (Str.ofString "colon")
 ·exact iP hco fun p hp=>q p (3,[58]) _ (hS.same (zH hp _)) zF (hmk 58 (by decide+kernel))
 refine iN hco ?_;obtain⟨av,hav⟩:∃av,av=(match as with | []=>V.non | b::_=>V.ref b):=⟨_,rfl⟩
 refine⟨fun σ' H2=>σ'= [some (.ref st),some (.int m),some (.int (m / 64)),some (.str (duS S.du)),some av,none]∧H2=H, ?_, ?_⟩
 ·refine⟨.ref o,wH▸DGet.k (k:=kOf (Str.ofString "open")) sc.hst,o,rfl,_,SqL.of sc.ho, ?_⟩
  cases as with
  | nil=>exact iN (by decide) ⟨by rw[hav],rfl⟩
  | cons b as=>
   have ho:=sc.ho;rw[wL] at ho⊢;exact iP (by rw[mC];show(0:Int)<((_+1:Nat):Int);lia) ⟨.ref o,wH▸DGet.k (k:=kOf (Str.ofString "open")) sc.hst,zW (SqL.of ho) (xE _ _) ⟨by rw[hav],rfl⟩⟩
 rintro σ' H2 ⟨rfl,rfl⟩;have hop:=sc.op;have tyA:∀H3,Same H2 H3→∃x,tyR H3 av=some x:=fun H3 g=>by
  clear q sc hS hw1 wf;generalize S.stk=stk at*
  cases as with
  | nil=>exact⟨"NoneType",by rw[hav];rfl⟩
  | cons b as=>
   cases stk with
   | nil=>exact hop.elim
   | cons fr stk=>
    cases fr with
    | row us=>
     obtain⟨⟨vs,h1,h2⟩,h3⟩:=hop;exact⟨"list",by rw[hav];exact zRc (g _ _ h1)⟩
    | rcd ks us nm=>
     obtain⟨⟨ps,h1,h2,h3,_⟩,h4⟩:=hop;exact⟨"dict",by rw[hav];exact uM (.inl (g _ _ h1))⟩
 refine⟨fun σ' H3=>∃pc c,σ'= [some (.ref st),some (.int m),some (.int (m / 64)),some (.str (duS S.du)),some av,some (.ref pc)]∧Same H2 H3∧c∈mkL∧H3 pc=some (.tup [.str (Str.ofString "mark"), .str (tx [c])]), ?_, ?_⟩
 ·intro p hp
  have g:=zH hp (HO.lst [V.str (Str.ofString "}"),V.str (Str.ofString "]")]);have hp3:upd H2 p (HO.lst [V.str (Str.ofString "}"),V.str (Str.ofString "]")]) p=_:=zF;generalize upd H2 p (HO.lst [V.str (Str.ofString "}"),V.str (Str.ofString "]")])=H3 at g hp3⊢;obtain⟨x,e1⟩:=tyA H3 g;refine⟨_,rfl,x,e1, ?_⟩
  by_cases hl:wD x "list" =true
  ·rw[mK hl]
   exact zW (SqL.of hp3) (v:=.str (Str.ofString "]")) rfl fun p4 hp4=>⟨p4,93,rfl,g.trans (zH hp4 _),by decide+kernel,zF⟩
  ·rw[mG hl]
   exact zW (SqL.of hp3) (v:=.str (Str.ofString "}")) rfl fun p4 hp4=>⟨p4,125,rfl,g.trans (zH hp4 _),by decide+kernel,zF⟩
 rintro σ' H3 ⟨pc,c,rfl,g3,hc,hpc⟩;have sta3:=hS.same g3;have qc:Q (.ref pc) H3:=q pc (3,[c]) H3 sta3 hpc (hmk c hc);refine⟨_,rfl,rfl, ?_⟩
 by_cases hbh:V.str (duS S.du)=V.str (Str.ofString "behind")
 ·refine iP hbh fun p hp=>⟨_,rfl,fun p1 hp1=>⟨_,rfl,m,rfl, ?_⟩⟩
  have g4:=zH hp (HO.tup [V.str (Str.ofString "mark"),V.str (Str.ofString ",")]);have h4:upd H3 p (HO.tup [V.str (Str.ofString "mark"),V.str (Str.ofString ",")]) p=_:=zF;generalize upd H3 p (HO.tup [V.str (Str.ofString "mark"),V.str (Str.ofString ",")])=H4 at g4 h4 hp1⊢;have g5:=zH hp1 (HO.lst [V.ref p,V.ref pc])
  by_cases h9:m / 2 % 9<3
  ·rw[mK h9]
   exact zW (SqL.of zF) (v:=.ref pc) rfl (q pc (3,[c]) _ (sta3.same (g4.trans g5)) (g5 _ _ (g4 _ _ hpc)) (hmk c hc))
  ·rw[mG h9]
   exact zW (SqL.of zF) (v:=.ref p) rfl (q p (3,[44]) _ (sta3.same (g4.trans g5)) (g5 _ _ h4) (hmk 44 (by decide+kernel)))
 refine iN hbh ⟨fun σ' H4=>σ'= [some (.ref st),some (.int m),some (.int (m / 64)),some (.str (duS S.du)),some av,some (.ref pc)]∧H4=H3, ?_, ?_⟩
 ·have more:∃v,[some (V.ref st),some (V.int m),some (V.int (m / 64)),some (V.str (duS S.du)),some av,some (V.ref pc)][3]? =some (some v)∧zKf v (V.str (Str.ofString "more"))=true∧(if v=V.str (Str.ofString "more") then∃v,[some (V.ref st),some (V.int m),some (V.int (m / 64)),some (V.str (duS S.du)),some av,some (V.ref pc)][1]? =some (some v)∧∃i,v=V.int i∧(if i / 2 % 23=1 then∃v,[some (V.ref st),some (V.int m),some (V.int (m / 64)),some (V.str (duS S.du)),some av,some (V.ref pc)][5]? =some (some v)∧Q v H3 else[some (V.ref st),some (V.int m),some (V.int (m / 64)),some (V.str (duS S.du)),some av,some (V.ref pc)]= [some (.ref st),some (.int m),some (.int (m / 64)),some (.str (duS S.du)),some av,some (.ref pc)]∧H3=H3) else[some (V.ref st),some (V.int m),some (V.int (m / 64)),some (V.str (duS S.du)),some av,some (V.ref pc)]= [some (.ref st),some (.int m),some (.int (m / 64)),some (.str (duS S.du)),some av,some (.ref pc)]∧H3=H3):=by
   refine⟨_,rfl,rfl, ?_⟩;split
   ·refine⟨_,rfl,m,rfl, ?_⟩
    split
    ·exact⟨_,rfl,qc⟩
    ·exact⟨rfl,rfl⟩
   ·exact⟨rfl,rfl⟩
  refine⟨_,rfl,rfl, ?_⟩
  by_cases hf:V.str (duS S.du)=V.str (Str.ofString "first")
  ·refine iP hf ⟨_,rfl,m,rfl, ?_⟩
   by_cases h7:m / 2 % 7=1
   ·exact iP h7 ⟨_,rfl,qc⟩
   ·exact iN h7 more
  ·exact iN hf more
 rintro σ' H4 ⟨rfl,rfl⟩;refine⟨fun σ' H5=>σ'= [some (.ref st),some (.int m),some (.int (m / 64)),some (.str (duS S.du)),some av,some (.ref pc)]∧H5=H4, ?_, ?_⟩
 ·obtain⟨x,e1⟩:=tyA H4 g3
  refine⟨_,rfl,x,e1, ?_⟩
  by_cases hd:wD x "dict" =true
  ·refine iP hd ⟨_,rfl,rfl, ?_⟩
   by_cases hth:V.str (duS S.du)=V.str (Str.ofString "thing")
   ·exact⟨false,by rw[aW];exact nB hth,jR ⟨rfl,rfl⟩⟩
   ·exact⟨true,by rw[tO];exact mM hth,gK ⟨_,rfl,m / 64,rfl,by lia,by lia,fun H5 g5 p hp=>q p (1,zHc (m / 64)) _ (sta3.same (g5.trans (zH hp _))) zF ⟨zWi (zSw _),fun z=>absurd (show(1:Nat)=2 from z) (by decide)⟩⟩⟩
  ·exact iN hd ⟨rfl,rfl⟩
 rintro σ' H5 ⟨rfl,rfl⟩;refine⟨fun σ' H6=>σ'= [some (.ref st),some (.int m),some (.int (m / 64)),some (.str (duS S.du)),some av,some (.ref pc)]∧H6=H5, ?_, ?_⟩
 ·have sc5:=sc.same g3
  refine⟨_,rfl,m,rfl, ?_⟩
  by_cases h5:m / 2 % 5<2
  ·refine iP h5 ⟨_,rfl,st,rfl, .ref o,wH▸DGet.k (k:=kOf (Str.ofString "open")) sc5.hst,o,rfl,_,SqL.of sc5.ho, ?_⟩
   by_cases h8:((as.reverse.map V.ref).length:Int)<8
   ·refine iP h8 ⟨_,rfl,m,rfl, ?_⟩
    rcases(show m / 10 % 2=0∨m / 10 % 2=1 by lia) with e | e
    ·rw[e]
     exact xA (by decide) (show atI (ts (Str.ofString "[{")) 0=some 91 by decide+kernel) fun p hp=>q p (3,[91]) _ (sta3.same (zH hp _)) zF (hmk 91 (by decide+kernel))
    ·rw[e]
     exact xA (by decide) (show atI (ts (Str.ofString "[{")) 1=some 123 by decide+kernel) fun p hp=>q p (3,[123]) _ (sta3.same (zH hp _)) zF (hmk 123 (by decide+kernel))
   ·exact iN h8 ⟨rfl,rfl⟩
  ·exact iN h5 ⟨rfl,rfl⟩
 rintro σ' H6 ⟨rfl,rfl⟩;refine⟨_,rfl,m,rfl, ?_⟩
 by_cases h52:m / 2 % 5=2
 ·refine iP h52 ⟨_,rfl,m / 64,rfl,by lia,by lia,fun x hx H7 g7 p hp=>?_⟩
  unfold zCx at hx;simp only[rC,pQ,pH] at hx;exact q p (2,x) _ (sta3.same (g7.trans (zH hp _))) zF ⟨⟨by show x.length≤100;lia, .inr (.inr (.inl ⟨rfl,hx.2⟩))⟩,fun _=>by show x.length≤60;lia⟩
 ·refine iN h52 ⟨_,rfl,m / 64,rfl,by lia,by lia,fun H7 g7=>?_⟩
  obtain⟨hn0,hn1⟩:=zNh (m / 64);refine⟨_,rfl, ?_, ?_⟩
  ·have:=Nat.log2_lt (n:=(zDo (m / 64)).natAbs) (k:=1920)
   by_cases h0:(zDo (m / 64)).natAbs=0
   ·rw[h0];decide
   ·refine(this h0).mpr (cI (show _≤10 ^ 12 by lia) ?_)
    exact mX (show 10 ^ 12<2 ^ 40 by decide) (tD (by decide) (by decide))
  intro p hp;have g8:=zH hp (HO.tup [V.str (Str.ofString "number"),V.str (Str.ofString (toString (zDo (m / 64))))]);have h8:upd H7 p (HO.tup [V.str (Str.ofString "number"),V.str (Str.ofString (toString (zDo (m / 64))))]) p=_:=zF;generalize upd H7 p (HO.tup [V.str (Str.ofString "number"),V.str (Str.ofString (toString (zDo (m / 64))))])=H8 at g8 h8⊢;intro p1 hp1;have g9:=zH hp1 (HO.lst [V.str (Str.ofString "none"),V.str (Str.ofString "yes"),V.str (Str.ofString "no")]);have h9:upd H8 p1 (HO.lst [V.str (Str.ofString "none"),V.str (Str.ofString "yes"),V.str (Str.ofString "no")]) p1=_:=zF;generalize upd H8 p1 (HO.lst [V.str (Str.ofString "none"),V.str (Str.ofString "yes"),V.str (Str.ofString "no")])=H9 at g9 h9⊢;refine⟨_,rfl,m / 64,rfl, ?_⟩;obtain⟨v,hv,hm⟩:=wZ (xs:=[V.str (Str.ofString "none"),V.str (Str.ofString "yes"),V.str (Str.ofString "no")]) (i:=m / 64 % 3) (by lia) (by simp only[mE,nA];lia);have w3:∃x,v= .str (tx x)∧OkTk (1,x):=by
   have wd:∀(z:Str)(c:Nat)(r:List Nat),ts z=c::r→c∈letL→(∀d∈r,d∈letL++yX)→r.length≤90→∃x,V.str z= .str (tx x)∧OkTk (1,x):=fun z c r e h1 h2 h3=>⟨ts z,by rw[vH],by show(ts z).length≤100;rw[e,mE];lia, .inr (.inl ⟨rfl,c,r,e,h1,h2⟩)⟩;simp only[mF,nP,rD] at hm;rcases hm with rfl | rfl | rfl
   ·exact wd _ 110 [111,110,101] (by decide+kernel) (by decide+kernel) (by decide+kernel) (by decide)
   ·exact wd _ 121 [101,115] (by decide+kernel) (by decide+kernel) (by decide+kernel) (by decide)
   ·exact wd _ 110 [111] (by decide+kernel) (by decide+kernel) (by decide+kernel) (by decide)
  obtain⟨x,rfl,hx⟩:=w3;refine zW (SqL.of h9) hv fun p2 hp2=>?_;have g10:=zH hp2 (HO.tup [V.str (Str.ofString "word"),V.str (tx x)]);have h10:upd H9 p2 (HO.tup [V.str (Str.ofString "word"),V.str (tx x)]) p2=_:=zF;generalize upd H9 p2 (HO.tup [V.str (Str.ofString "word"),V.str (tx x)])=H10 at g10 h10⊢;intro p3 hp3;have g11:=zH hp3 (HO.lst [V.ref p,V.ref p2]);have gA:=sta3.same (g7.trans (g8.trans (g9.trans (g10.trans g11))));refine⟨_,rfl,m,rfl, ?_⟩;rcases(show m / 10 % 2=0∨m / 10 % 2=1 by lia) with e | e
  ·rw[e]
   obtain⟨L,eL,hLk⟩:=zYt (zNh (m / 64));rw[eL] at h8;exact zW (SqL.of zF) (v:=.ref p) rfl (q p (0,L) _ gA (g11 _ _ (g10 _ _ (g9 _ _ h8))) ⟨hLk,fun z=>absurd (show(0:Nat)=2 from z) (by decide)⟩)
  ·rw[e]
   exact zW (SqL.of zF) (v:=.ref p2) rfl (q p2 (1,x) _ gA (g11 _ _ h10) ⟨hx,fun z=>absurd (show(1:Nat)=2 from z) (by decide)⟩)
end
end K27
namespace K27
open PySem L2 PySem.W
seal L2.PSs L2.PS L2.PE L2.PT L2.PW L2.PA L2.PI L2.PG L2.PGs L2.PPs L2.PTs
abbrev zGm:Stmt:=top 63
theorem zGt{G H:Hp}:∀{as:List Addr}{fs:List Fr}{c:Option V},Opn G H c as fs→∀b∈as,∀{xs:List V},¬H b=some (.tup xs)
 | [],[],_,_,b,hb,_=>nomatch hb
 | a::as, .row _::_,_,⟨⟨vs,h1,_⟩,h⟩,b,hb,xs=>fun z=>(mF.mp hb).elim (fun e=>by subst e;rw[h1] at z;cases z) (fun hb=>zGt h b hb z)
 | a::as, .rcd _ _ _::_,_,⟨⟨vs,h1,_⟩,h⟩,b,hb,xs=>fun z=>(mF.mp hb).elim (fun e=>by subst e;rw[h1] at z;cases z) (fun hb=>zGt h b hb z)
theorem Sta.tup{F H:Hp}{st p:Addr}{S:Mc}{xs:List V}(h:Sta F st H S)(hp:H p=some (.tup xs)):Sta (upd F p (.tup xs)) st H S∧Same F (upd F p (.tup xs)):=by
 have hF:=h.fr;obtain⟨o,nn,as,wv,sc,hw1,hw2⟩:=h;have hpm:p∉mtb st o nn [] as:=fun z=>by
  rcases mF.mp z with z | z
  ·rw[z,sc.hst] at hp;cases hp
  rcases mF.mp z with z | z
  ·rw[z,sc.ho] at hp;cases hp
  rcases mF.mp z with z | z
  ·rw[z,sc.hn] at hp;cases hp
  ·exact zGt sc.op p z hp
 have gc:Same (cut F H (mtb st o nn [] as)) (cut (upd F p (.tup xs)) H (mtb st o nn [] as)):=fun b u e=>by
  obtain⟨h1,h2,h3,h4⟩:=kI e;have hb:b≠p:=fun z=>by
   rw[z,hp] at h3;cases h3;rcases h4 with⟨_,z⟩|⟨_,z⟩<;>cases z
  exact zAi h1 (by rw[zL hb];exact h2) h3 h4
 refine⟨⟨o,nn,as,wv,⟨sc.nd,sc.hst,sc.ho,sc.hn,sc.op.mono gc fun _ _=>rfl,fun b u e=>?_⟩,fun z=>Rep.same gc _ _ (hw1 z),hw2⟩,fun b u e=>?_⟩
 ·by_cases hb:b=p
  ·subst hb
   rw[zF] at e;cases e;rw[jB hpm];exact hp
  ·rw[zL hb] at e;exact sc.hF b u e
 ·by_cases hb:b=p
  ·subst hb
   rw[zF,←hp];exact hF b u e
  ·rw[zL hb];exact e
theorem Sta.own{F H:Hp}{st p:Addr}{S:Mc}{u:HO}(h:Sta F st H S)(hp:F p=some u)(u':HO):Sta (upd F p u') st (upd H p u') S:=by
 obtain⟨o,nn,as,wv,sc,hw1,hw2⟩:=h;obtain⟨hpm,hpH⟩:=wC (sc.hF p u hp);have ne:∀b∈mtb st o nn [] as,b≠p:=fun b hb z=>hpm (by rw[←z];exact hb);have gc:Same (cut F H (mtb st o nn [] as)) (cut (upd F p u') (upd H p u') (mtb st o nn [] as)):=fun b w e=>by
  obtain⟨h1,h2,h3,h4⟩:=kI e;have hb:b≠p:=fun z=>by rw[z,hp] at h2;cases h2
  exact zAi h1 (by rw[zL hb];exact h2) (by rw[zL hb];exact h3) h4
 refine⟨o,nn,as,wv,⟨sc.nd,by rw[zL (ne st (by simp))];exact sc.hst,by rw[zL (ne o (by simp))];exact sc.ho,by rw[zL (ne nn (by simp))];exact sc.hn,sc.op.mono gc fun b hb=>zL (ne b (by simp[hb])),fun b w e=>?_⟩,fun z=>Rep.same gc _ _ (hw1 z),hw2⟩
 by_cases hb:b=p
 ·subst hb
  rw[zF] at e;rw[jB hpm,zF];exact e
 ·rw[zL hb] at e
  obtain⟨h1,h2⟩:=wC (sc.hF b w e);rw[jB h1,zL hb];exact h2
theorem Sta.new{F H:Hp}{st p:Addr}{S:Mc}(h:Sta F st H S)(hp:H p=none)(u:HO)(hu:∃ys,u= .lst ys):Sta (upd F p u) st (upd H p u) S:=by
 have h':=h.same (zH hp u);have hFp:F p=none:=by
  cases e:F p with
  | none=>rfl
  | some w=>have:=h.fr p w e;rw[hp] at this;cases this
 obtain⟨o,nn,as,wv,sc,hw1,hw2⟩:=h;have hpm:p∉mtb st o nn [] as:=fun z=>by
  rcases mF.mp z with z | z
  ·rw[z,sc.hst] at hp;cases hp
  rcases mF.mp z with z | z
  ·rw[z,sc.ho] at hp;cases hp
  rcases mF.mp z with z | z
  ·rw[z,sc.hn] at hp;cases hp
  ·obtain⟨w,e⟩:=sc.op.there p z
   rw[hp] at e;cases e
 have ne:∀b∈mtb st o nn [] as,b≠p:=fun b hb z=>hpm (by rw[←z];exact hb);have gc:Same (cut F H (mtb st o nn [] as)) (cut (upd F p u) (upd H p u) (mtb st o nn [] as)):=fun b w e=>by
  obtain⟨h1,h2,h3,h4⟩:=kI e;have hb:b≠p:=fun z=>by rw[z,hp] at h3;cases h3
  exact zAi h1 (by rw[zL hb];exact h2) (by rw[zL hb];exact h3) h4
 refine⟨o,nn,as,wv,⟨sc.nd,by rw[zL (ne st (by simp))];exact sc.hst,by rw[zL (ne o (by simp))];exact sc.ho,by rw[zL (ne nn (by simp))];exact sc.hn,sc.op.mono gc fun b hb=>zL (ne b (by simp[hb])),fun b w e=>?_⟩,fun z=>Rep.same gc _ _ (hw1 z),hw2⟩
 by_cases hb:b=p
 ·subst hb
  rw[zF] at e;rw[jB hpm,zF];exact e
 ·rw[zL hb] at e
  obtain⟨h1,h2⟩:=wC (sc.hF b w e);rw[jB h1,zL hb];exact h2
theorem zRo{t:Tk}(h:OkTk t):kL t.1=kS t.1:=by
 obtain⟨_,⟨e,_⟩|⟨e,_⟩|⟨e,_⟩|⟨e,_⟩⟩:=h<;>rw[e]<;>rfl
theorem TksP.own{H:Hp}{xs zs:List V}{l:List Tk}{p:Addr}{u:HO}(h:TksP H xs l)(hp:H p=some (.lst zs)):TksP (upd H p u) xs l:=⟨h.1,fun i t e=>by
 obtain⟨a,h1,h2⟩:=h.2 i t e;refine⟨a,h1, ?_⟩;show upd H p u a=_;rw[zL (fun z=>by rw[z] at h2;exact absurd (hp.symm.trans h2) (by simp))];exact h2⟩
theorem zXr{t:Tk}(h:OkTk t):OkL ⟨t.1,t.2,0⟩:=by
 obtain⟨h1,h2⟩:=h;refine⟨by show t.2.length≤_;lia, ?_⟩;rcases h2 with a | a | a | a
 ·exact .inl a
 ·exact .inr (.inl a)
 ·exact .inr (.inr (.inl a))
 ·exact .inr (.inr (.inr (.inl a)))
theorem zPr:∀l:List Tk,(∀t∈l,(shw t).length≤122)→wid l≤122*l.length
 | [],_=>mL _
 | t::l,h=>by
  have h1:=h t mH;have h2:=zPr l fun u hu=>h u (mQ _ hu);show(shw t).length+wid l≤122*(l.length+1)
  lia
def Row(H:Hp)(st p:Addr)(n:Nat)(H':Hp)(S:Mc):Prop:=∃F xs tks,Sta F st H' S∧Wf S∧Same H F∧F p=some (.lst xs)∧TksP F xs tks∧(∀t∈tks,OkS t)∧tks.length≤n
theorem Row.le{H H':Hp}{st p:Addr}{n m:Nat}{S:Mc}(h:Row H st p n H' S)(hl:n≤m):Row H st p m H' S:=by
 obtain⟨F,xs,tks,a,b,c,d,e,f,g⟩:=h;exact⟨F,xs,tks,a,b,c,d,e,f,nR g hl⟩
theorem Row.add{H H1:Hp}{st p a:Addr}{n:Nat}{S:Mc}{F:Hp}{xs:List V}{tks:List Tk}{t:Tk}(hp0:H p=none)(hS:Sta F st H1 S)(hF:Same H F)(hp:F p=some (.lst xs))(hT:TksP F xs tks)(hok:∀t∈tks,OkS t)(hl:tks.length≤n)(ha:H1 a=some (.tup [.str (kS t.1), .str (tx t.2)]))(ht:OkS t):
  H1 p=some (.lst xs)∧∃F2,Sta F2 st (upd H1 p (.lst (xs++ [.ref a]))) S∧Same H F2∧F2 p=some (.lst (xs++ [.ref a]))∧TksP F2 (xs++ [.ref a]) (tks++ [t])∧(∀u∈tks++ [t],OkS u)∧(tks++ [t]).length≤n+1:=by
 have hpH:=hS.fr _ _ hp;obtain⟨h1,g1⟩:=hS.tup ha;have hap:a≠p:=fun z=>by rw[z,hpH] at ha;cases ha
 have hp1:upd F a (.tup [.str (kS t.1), .str (tx t.2)]) p=some (.lst xs):=g1 _ _ hp;refine⟨hpH,_,h1.own hp1 (.lst (xs++ [.ref a])),fun b u e=>?_,zF, ?_,fun u hu=>(pA.mp hu).elim (hok u) fun z=>by rw[mS.mp z];exact ht,by rw[mC];show _+1≤_;lia⟩
 ·rw[zL (fun z:b=p=>by rw[z,hp0] at e;cases e)]
  exact g1 _ _ (hF _ _ e)
 ·refine((hT.same g1).own hp1).app (TksP.one ?_)
  show upd _ p _ a=_;rw[zL hap,zF,zRo ht.1]
section
variable{P:Program}{w:World}{K:PySem.W.Frag}{mg:Str→Option Value}{base:Heap}{f:Addr}{fd:FuncData}
def zMh(K:PySem.W.Frag):Sp:=fun vs H Q _=>∃(a:Addr)(ns:List Int),vs= [.ref a]∧SqL K H a (ns.map V.int)∧ns.length≤63∧∀H',Q (.bl true) H'
theorem scLaw:zV ["_law_script","_law_state","_law_row","_law_k","_law_more","_law_text","_law_laid_here"] ["_law_script"] (zO zGm):=by walk_at "sc"
theorem yBh(F:Fun K "law" "law" zGm f fd)(B:Bl mg)(G_law_cell:Dn P w K mg base 1 "_law_cell" ["_law_script","_law_k"] (zKd K))(G_law_likely:Dn P w K mg base 4 "_law_likely" ["_law_state","_law_more"] spLi)(G_law_next:Dn P w K mg base 3 "_law_next" ["_law_state","_law_token"] yAq)(G_law_token_by:Dn P w K mg base 3 "_law_token_by" ["_law_more"] zQt)(G_law_with_bad:Dn P w K mg base 2 "_law_with_bad" ["_law_row","_law_at","_law_cell_here"] spWb)(G_law_laid:Dn P w K mg base 2 "_law_laid" ["_law_row","_law_cell_here"] zRh)(G_law_told:Dn P w K mg base 33 "_law_told" ["_law_text"] spTo)(G_law_due:Dn P w K mg base 4 "_law_due" ["_law_row"] spDu)(G_law_as_due:Dn P w K mg base 13 "_law_as_due" ["_law_told_here","_law_due_here"] spAs):FnOk P w K mg base CX0 34 f fd ["_law_script"] (zMh K):=by
 refine F.ok scLaw (by walk_at "ln") fun c A o s H vs Q E hr h=>?_;obtain⟨a,ns,rfl,ha,hns,q⟩:=h;have nd:=scLaw.nd;have hu:=kF hr;refine⟨_,(zB (pS 1 nd (zMf (wB zD (yF zE) (wB zD (yF zE) (wB zD zD (wB zD zC (wB zD jC zMd))))) (by rfl) (by rfl) (rE _ _) (by decide)))
  (zB (pS 2 nd (yF zE))
  (zB (xZ (zFs PassesOwn.never rfl (vB rfl B.range (zA (zI yD zC (zI zY (pD G_law_cell hr (zA (pv 0) (zA zC zE))) zC)) zE)) (yO (i:=3) nd rfl (pR rfl)) (zG (zR (zK vE (yR hu (pv 1) zD (fun _ _=>rfl)) zD (zJ _)) (zB (yY (xQ nN nW nZ xH (pv 2) (zA (pD G_law_likely hr (zA (pv 1) (zA (pD G_law_cell hr (zA (pv 0) (zA (zI yD zC (pv 3)) zE))) zE))) zE)))
  (zG (zR (zK vE (pD G_law_next hr (zA (pv 1) (zA (yP (zA (zQ yB (zQ zX (pv 2) (wQ xN zC) (fun _ _=>rfl)) zC (fun _ _=>rfl)) (zA (zQ yB (zQ zX (pv 2) (wQ xN zC) (fun _ _=>rfl)) zC (fun _ _=>rfl)) (zA zC zE)))) zE))) zD (zJ _)) (zG zRv) zM))) zM))))
  (zB (xZ (wN PassesOwn.never (PW.pt (wA (zK qH (zP yH rfl B.len yK (zA (yR hu (pv 1) zD (fun _ _=>rfl)) zE)) zC (zJ _)) (wA (zK zS (yR hu (pv 1) zD (fun _ _=>rfl)) zD (zJ _)) (xV (zK qH (zI zY (pD G_law_cell hr (zA (pv 0) (zA zC zE))) zC) zC (zJ _)))))) (zB (yY (xQ nN nW nZ xH (pv 2) (zA (yP (zA zD (zA (zQ zX (yF (zA zD (zA zD zE))) (yM yZ rfl B.int xO (zA (zP (wW (T:="list") (by decide)) rfl B.isinstance zT (zA (zQ zX (yR hu (pv 1) zD (fun _ _=>rfl)) (wQ xN zC) (fun _ _=>rfl)) (zA (vJ (v:=.ty "list") rfl B.list qG rfl) zE))) zE)) (fun _ _=>rfl)) zE))) zE)))
  (zG (yY (pD G_law_next hr (zA (pv 1) (zA (yP (zA (zQ yB (zQ zX (pv 2) (wQ xN zC) (fun _ _=>rfl)) zC (fun _ _=>rfl)) (zA (zQ yB (zQ zX (pv 2) (wQ xN zC) (fun _ _=>rfl)) zC (fun _ _=>rfl)) (zA zC zE)))) zE))))))))
  (zB (xZ (zFs PassesOwn.never rfl (vB rfl B.range (zA (zI zZ (zI zY (zI zZ (pD G_law_cell hr (zA (pv 0) (zA zC zE))) zC) zC) zC) zE)) (yO (i:=3) nd rfl (pR rfl)) (zG (yY (xQ nN nW nZ xH (pv 2) (zA (pD G_law_token_by hr (zA (pD G_law_cell hr (zA (pv 0) (zA (zI yD zC (pv 3)) zE))) zE)) zE))))))
  (zB (pS 4 nd (pD G_law_cell hr (zA (pv 0) (zA zC zE))))
  (zB (xZ (zR (zK zS (zI zY (pv 4) zC) zC (zJ _)) (zG (pS 2 nd (pD G_law_with_bad hr (zA (pv 2) (zA (zI zY (zI zZ (pv 4) zC) (zI yD (zP yH rfl B.len yK (zA (pv 2) zE)) zC)) (zA (zI zZ (pv 4) zC) zE)))))) zM))
  (zB (zBv (pD G_law_laid hr (zA (pv 2) (zA (zI zZ (pD G_law_cell hr (zA (pv 0) (zA zC zE))) zC) zE))) (zEz (n:=2) rfl (wE (yO (i:=5) nd rfl (pR rfl)) (wE (yO (i:=6) nd rfl (pR rfl)) zAv))))
  (zG (zN (pD G_law_as_due hr (zA (pD G_law_told hr (zA (pv 5) zE)) (zA (pD G_law_due hr (zA (pv 6) zE)) zE))))))))))))), ?_⟩
 unfold zQp;walk_at "st";walk_at "rd6";intro st h1 o h2 nn h3;have n1:o≠st:=fun z=>by rw[z,zF] at h2;cases h2
 have n3:nn≠st:=fun z=>by rw[z,zL (Ne.symm n1),zF] at h3;cases h3
 refine⟨by rw[zL (Ne.symm n3),zL (Ne.symm n1),zF],stK o nn (.str (Str.ofString "thing")) (.int 0) .non,rfl,by show 5≤15;lia, ?_⟩;rw[zRx];have hs0:=sta0 h1 h2 h3;generalize upd (upd (upd (upd H st (.dK [])) o (.lst [])) nn (.lst [])) st (.dK (stK o nn (.str (Str.ofString "thing")) (.int 0) .non))=H1 at hs0⊢;intro p hp;have hp0:H p=none:=by
  cases e:H p with
  | none=>rfl
  | some u=>have:=hs0.fr p u e;rw[hp] at this;cases this
 have hs1:=hs0.new hp (.lst []) ⟨_,rfl⟩;have hg1:Same H (upd H1 p (.lst [])):=hs0.fr.trans (zH hp _);generalize upd H1 p (.lst [])=H2 at hs1 hg1⊢;refine⟨fun σ' H'=>∃o3 S,σ'= [some (.ref a),some (.ref st),some (.ref p),o3,none,none,none]∧Row H st p 119 H' S, ?_, ?_⟩
 ·refine vZ (hg1.seq ha) hns (by decide) (by decide) fun H3 g3=>⟨_,rfl, ?_⟩
  have c1:=qU ns 0;refine⟨by lia,by lia,zCe (fun i σ' H'=>∃o3 S,σ'= [some (.ref a),some (.ref st),some (.ref p),o3,none,none,none]∧Row H st p i H' S) ⟨none,S0,rfl,_,[],[],hs1.same g3,wf0,zH hp0 _,zF,⟨rfl,fun i t e=>nomatch e⟩,(fun t ht=>nomatch ht),mL _⟩ ?_ ?_⟩
  ·rintro i σ' H' hi ⟨o3,S,rfl,F,xs,tks,hS,wf,hF,hpF,hT,hok,hl⟩
   have hi2:(i:Int)<120:=by lia
   obtain⟨o',nn',as,wv,sc,_,_⟩:=id hS;walk_at "rd6";refine⟨_,zGd▸DGet.k (k:=kOf (Str.ofString "due")) sc.hst,rfl, ?_⟩
   by_cases hend:V.str (duS S.du)=V.str (Str.ofString "end")
   ·exact⟨false,by rw[aW];exact nB hend,jR ⟨S,F,xs,tks,hS,wf,hF,hpF,hT,hok,by lia⟩⟩
   refine⟨true,by rw[tO];exact mM hend,gK ⟨.inl ⟨rfl,_,SqL.of (hS.fr _ _ hpF)⟩, ?_⟩⟩;have hgH:Same H H':=hF.trans hS.fr;refine vZ (hgH.seq ha) hns (by lia) (by lia) fun H4 g4=>⟨F,st,S,_,rfl,hS.same g4,wf,qU _ _,uO _ _,fun p5 t H5 hS5 hp5 ht=>?_⟩;obtain⟨e1,F2,hS6,hF6,hp6,hT6,hok6,hl6⟩:=Row.add hp0 hS5 hF hpF hT hok hl hp5 ht;refine⟨p,xs,_,rfl,rfl,e1,by rw[mJ,hT.1];lia, ?_⟩;have ht6:upd H5 p (.lst (xs++ [.ref p5])) p5=some (.tup [.str (kS t.1), .str (tx t.2)]):=by
    rw[zL (fun z=>by rw[z,e1] at hp5;cases hp5)];exact hp5
   have hpp:upd H5 p (.lst (xs++ [.ref p5])) p=some (.lst (xs++ [.ref p5])):=zF;generalize upd H5 p (.lst (xs++ [.ref p5]))=H6 at hS6 ht6 hpp⊢;refine zW (SqL.of hpp) (xE _ _) (yC (SqT.of ht6) (v:=.str (kS t.1)) rfl (zW (SqL.of hpp) (xE _ _) (yC (SqT.of ht6) (v:=.str (tx t.2)) rfl fun p7 hp7=>?_)));have hS7:=hS6.same (zH hp7 (.tup [.str (kS t.1), .str (tx t.2), .int 0]));obtain⟨hS8,g8⟩:=hS7.tup (zF (H:=H6) (a:=p7) (o:=.tup [.str (kS t.1), .str (tx t.2), .int 0]));have row8:∀(H':Hp)(S':Mc),Sta (upd F2 p7 (.tup [.str (kS t.1), .str (tx t.2), .int 0])) st H' S'→Wf S'→Row H st p (i+1) H' S':=fun H' S' z1 z2=>⟨_,_,_,z1,z2,hF6.trans g8,g8 _ _ hp6,hT6.same g8,hok6,hl6⟩;refine⟨_,st,p7,S,⟨t.1,t.2,0⟩,rfl,hS8,wf, ?_,zXr ht.1,fun e H' S' z1 z2=>?_,fun e H' z1=>?_,fun S' e H' z1=>?_,fun e H' z1=>?_⟩
   ·show upd F2 p7 _ p7=_
    rw[zF,zRo ht.1];rfl
   ·exact⟨rfl,true,by decide+kernel,gK (by unfold zGa;exact⟨⟨_,rfl⟩,S',(row8 H' S' z1 z2).le (by lia)⟩)⟩
   ·exact⟨rfl,true,by decide+kernel,gK (by unfold zGa;exact⟨⟨_,rfl⟩,S,(row8 H' S z1 wf).le (by lia)⟩)⟩
   ·exact⟨rfl,false,by decide+kernel,jR ⟨S',row8 H' S' z1 (zFw wf e)⟩⟩
   ·exact⟨rfl,true,by decide+kernel,gK (by unfold zGa;exact⟨⟨_,rfl⟩,S,(row8 H' S z1 wf).le (by lia)⟩)⟩
  ·rintro σ' H' ⟨o3,S,rfl,F,xs,tks,hS,wf,hF,hpF,hT,hok,hl⟩
   exact⟨o3,S,rfl,F,xs,tks,hS,wf,hF,hpF,hT,hok,by lia⟩
 rintro σ' H' ⟨o3,S,rfl,hrow⟩;refine⟨fun σ' H'=>∃o3 S,σ'= [some (.ref a),some (.ref st),some (.ref p),o3,none,none,none]∧Row H st p 127 H' S, ?_, ?_⟩
 ·refine⟨fun m σ' H'=>∃S,σ'= [some (.ref a),some (.ref st),some (.ref p),o3,none,none,none]∧m=S.stk.length∧S.stk.length≤8∧Row H st p (127 - S.stk.length) H' S,⟨S.stk.length,S,rfl,rfl, ?_, ?_⟩, ?_⟩
  ·obtain⟨F,xs,tks,hS,wf,_⟩:=hrow
   exact wf.deep
  ·have:S.stk.length≤8:=by
    obtain⟨F,xs,tks,hS,wf,_⟩:=hrow;exact wf.deep
   exact hrow.le (by lia)
  rintro m σ' H' ⟨S,rfl,rfl,h8,F,xs,tks,hS,wf,hF,hpF,hT,hok,hl⟩;walk_at "rd6";obtain⟨o',nn',as,wv,sc,_,_⟩:=id hS;have row127:∀H2,Same H' H2→Row H st p 127 H2 S:=fun H2 g=>⟨F,xs,tks,hS.same g,wf,hF,hpF,hT,hok,by lia⟩;refine⟨.ref o',wH▸DGet.k (k:=kOf (Str.ofString "open")) sc.hst,o',rfl,_,SqL.of sc.ho, ?_⟩;have hop:=sc.op;have hlen:=hop.len
  cases hst:S.stk with
  | nil=>
   rw[hst] at hlen;have:as= []:=nY hlen;subst this;exact iN (by decide) ⟨S,row127 _ (Same.refl _)⟩
  | cons fr r=>
  cases as with
  | nil=>rw[hst] at hlen;cases hlen
  | cons b as=>
  have ho:=sc.ho;rw[wL] at ho⊢;refine iP (by rw[mC];show(0:Int)<((_+1:Nat):Int);lia) ⟨_,zGd▸DGet.k (k:=kOf (Str.ofString "due")) sc.hst,rfl, ?_⟩
  by_cases hbh:V.str (duS S.du)=V.str (Str.ofString "behind")
  case neg=>exact iN hbh ⟨S,row127 _ (Same.refl _)⟩
  have hdu:S.du= .behind:=zRa (V.str.inj hbh);have hgH:Same H H':=hF.trans hS.fr;refine iP hbh (vZ (hgH.seq ha) hns (by decide) (by decide) fun H1 g1=>⟨_,rfl, ?_⟩)
  by_cases hc3:0<uB ns 1 % 3
  case neg=>exact iN hc3 ⟨S,row127 _ g1⟩
  have hS1:=hS.same g1;refine iP hc3 ⟨_,fun _ _ h=>h, .inl ⟨rfl,_,SqL.of (hS1.fr _ _ hpF)⟩,fun p2 hp2=>?_⟩;have g2:=zH hp2 (HO.lst [V.str (Str.ofString "}"),V.str (Str.ofString "]")]);have hp2':upd H1 p2 (HO.lst [V.str (Str.ofString "}"),V.str (Str.ofString "]")]) p2=_:=zF;generalize upd H1 p2 (HO.lst [V.str (Str.ofString "}"),V.str (Str.ofString "]")])=H2 at g2 hp2'⊢;have g12:=g1.trans g2;have hS2:=hS.same g12;refine⟨.ref o',wH▸DGet.k (k:=kOf (Str.ofString "open")) (g12 _ _ sc.hst),zW (SqL.of (g12 _ _ ho)) (xE _ _) ?_⟩;obtain⟨x,ex,hv⟩:∃x,tyR H2 (.ref b)=some x∧atI [V.str (Str.ofString "}"),V.str (Str.ofString "]")] (if wD x "list" =true then 1 else 0)=some (.str (tx fr.cls)):=by
   rw[hst] at hop
   cases fr with
   | row us=>
    obtain⟨⟨vs,h1,h2⟩,h3⟩:=hop;exact⟨"list",zRc (g12 _ _ h1),rfl⟩
   | rcd ks us nm=>
    obtain⟨⟨ps,h1,h2,h3,_⟩,h4⟩:=hop;exact⟨"dict",uM (.inl (g12 _ _ h1)),rfl⟩
  refine⟨x,ex,zW (SqL.of hp2') hv fun p3 hp3=>?_⟩;have g3:=zH hp3 (HO.tup [V.str (Str.ofString "mark"),V.str (tx fr.cls)]);have hp3':upd H2 p3 (HO.tup [V.str (Str.ofString "mark"),V.str (tx fr.cls)]) p3=_:=zF;generalize upd H2 p3 (HO.tup [V.str (Str.ofString "mark"),V.str (tx fr.cls)])=H3 at g3 hp3'⊢;have ht:OkS (3,fr.cls):=by
   have:fr.cls= [93]∨fr.cls= [125]:=by cases fr with | row _=>exact .inl rfl | rcd _ _ _=>exact .inr rfl
   refine⟨?_,fun z=>absurd (show(3:Nat)=2 from z) (by decide)⟩;rcases this with e | e<;>rw[e]<;>exact⟨by show 1≤100;lia, .inr (.inr (.inr ⟨rfl,_,rfl,by decide+kernel⟩))⟩
  obtain⟨e1,F2,hS6,hF6,hp6,hT6,hok6,hl6⟩:=Row.add (t:=(3,fr.cls)) hp0 (hS2.same g3) hF hpF hT hok hl hp3' ht;rw[hst,mE] at h8 hl hl6;refine⟨p,xs,_,rfl,rfl,e1,by rw[mJ,hT.1];lia, ?_⟩;have ht6:upd H3 p (.lst (xs++ [.ref p3])) p3=some (.tup [.str (kS 3), .str (tx fr.cls)]):=by
   rw[zL (fun z=>by rw[z,e1] at hp3';cases hp3')];exact hp3'
  have hpp:upd H3 p (.lst (xs++ [.ref p3])) p=some (.lst (xs++ [.ref p3])):=zF;generalize upd H3 p (.lst (xs++ [.ref p3]))=H6 at hS6 ht6 hpp⊢;refine zW (SqL.of hpp) (xE _ _) (yC (SqT.of ht6) (v:=.str (kS 3)) rfl (zW (SqL.of hpp) (xE _ _) (yC (SqT.of ht6) (v:=.str (tx fr.cls)) rfl fun p7 hp7=>?_)));have hS7:=hS6.same (zH hp7 (.tup [.str (kS 3), .str (tx fr.cls), .int 0]));obtain⟨hS8,g8⟩:=hS7.tup (zF (H:=H6) (a:=p7) (o:=.tup [.str (kS 3), .str (tx fr.cls), .int 0]));have eN:nxt S 3 fr.cls= .go (xF r S.many fr.tree):=by
   unfold nxt;rw[hdu,hst];exact mK ⟨rfl,rfl⟩
  have hdl:(xF r S.many fr.tree).stk.length=r.length:=by cases r<;>rfl
  refine⟨_,st,p7,S,⟨3,fr.cls,0⟩,rfl,hS8,wf, ?_,zXr (t:=(3,fr.cls)) ht.1,fun e H' S' z1 z2=>?_,fun e H' z1=>?_,fun S' e H' z1=>?_,fun e H' z1=>?_⟩
  ·show upd F2 p7 _ p7=_
   rw[zF];rfl
  ·exact nomatch eN.symm.trans e
  ·exact nomatch eN.symm.trans e
  ·cases eN.symm.trans e
   refine⟨r.length,by rw[mE];lia,rfl,_,hdl.symm,by rw[hdl];lia, ?_⟩;rw[hdl];exact⟨_,_,_,z1,zFw wf eN,hF6.trans g8,g8 _ _ hp6,hT6.same g8,hok6,by lia⟩
  ·exact nomatch eN.symm.trans e
 rintro σ' H' ⟨o3,S,rfl,hrow⟩;obtain⟨F,xs,tks,hS,wf,hF,hpF,hT,hok,hl⟩:=hrow;have hgH:Same H H':=hF.trans hS.fr;have hpH:=hS.fr _ _ hpF;have hTH:=hT.same hS.fr;refine⟨fun σ' H2=>∃o3 xs tks,σ'= [some (.ref a),some (.ref st),some (.ref p),o3,none,none,none]∧Same H H2∧H2 p=some (.lst xs)∧TksP H2 xs tks∧(∀t∈tks,OkS t)∧tks.length≤128, ?_, ?_⟩
 ·refine⟨_,rfl,vZ (hgH.seq ha) hns (by decide) (by decide) fun H3 g3=>⟨_,rfl, ?_⟩⟩
  have c1:=qU ns 1;refine⟨by lia,by lia,zCe (fun i σ' H2=>∃o3 xs tks,σ'= [some (.ref a),some (.ref st),some (.ref p),o3,none,none,none]∧Same H H2∧H2 p=some (.lst xs)∧TksP H2 xs tks∧(∀t∈tks,OkS t)∧tks.length≤127+i) ⟨o3,xs,tks,rfl,hgH.trans g3,g3 _ _ hpH,hTH.same g3,hok,hl⟩ ?_ ?_⟩
  ·rintro i σ' H2 hi ⟨o3,xs,tks,rfl,g,hp2,hT2,hok,hl⟩
   walk_at "rd6";refine⟨.inl ⟨rfl,_,SqL.of hp2⟩,vZ (g.seq ha) hns (by lia) (by lia) fun H4 g4=>⟨_,rfl,qU _ _,uO _ _,fun p5 t H5 g5 hp5 ht h60=>⟨p,xs,_,rfl,rfl,g5 _ _ (g4 _ _ hp2),by rw[mJ,hT2.1];lia, ?_,xs++ [.ref p5],zF,tks++ [t], ?_,fun u hu=>(pA.mp hu).elim (hok u) fun z=>by rw[mS.mp z];exact⟨ht,h60⟩,by rw[mC];show _+1≤_;lia⟩⟩⟩
   ·intro b u e
    rw[zL (fun z:b=p=>by rw[z,hp0] at e;cases e)];exact(g.trans (g4.trans g5)) _ _ e
   ·have hp5':=g5 _ _ (g4 _ _ hp2)
    have hne:p5≠p:=fun z=>by rw[z,hp5'] at hp5;cases hp5
    refine((hT2.same (g4.trans g5)).own hp5').app (TksP.one ?_);show upd H5 p _ p5=_;rw[zL hne,zRo ht];exact hp5
  ·rintro σ' H2 ⟨o3,xs,tks,rfl,g,hp2,hT2,hok,hl⟩
   exact⟨o3,xs,tks,rfl,g,hp2,hT2,hok,by lia⟩
 rintro σ' H2 ⟨o3,xs,tks,rfl,g,hp2,hT2,hok,hl⟩;refine⟨_,rfl,vZ (g.seq ha) hns (by decide) (by decide) fun H3 g3=>?_⟩;have c4:=qU ns 140;have c5:=uO ns 140;generalize uB ns 140=more at c4 c5⊢;refine⟨fun σ' H4=>∃p' xs' tks',σ'= [some (.ref a),some (.ref st),some (.ref p'),o3,some (.int more),none,none]∧Same H H4∧H4 p'=some (.lst xs')∧TksP H4 xs' tks'∧zZu tks'∧(∀t∈tks',OkN t)∧tks'.length≤129, ?_, ?_⟩
 ·refine⟨_,rfl,more,rfl, ?_⟩
  by_cases hm:more % 4=1
  ·refine iP hm ⟨_,rfl,_,rfl,more,rfl,_,rfl,p,rfl,xs,SqL.of (g3 _ _ hp2),by lia,_,rfl,more,rfl,p,xs,tks,(more / 4 % (xs.length+1)).toNat,more / 512, ?_,g3 _ _ hp2,hT2.same g3,hok, ?_,by lia,by lia,fun q5 zs tks' H5 g5 hq5 hT5 hr5 hok5 hl5=>⟨q5,zs,tks',rfl,g.trans (g3.trans g5),hq5,hT5,hr5,hok5,by lia⟩⟩
   ·rw[Int.toNat_of_nonneg (sG _ (by lia))]
   ·have h1:=sT (more / 4) (show(0:Int)<xs.length+1 by lia)
    have h2:=sG (more / 4) (show(xs.length:Int)+1≠0 by lia);have:=hT2.1
    lia
  ·exact iN hm ⟨p,xs,tks,rfl,g.trans g3,g3 _ _ hp2,hT2.same g3, .inl fun t ht=>(hok t ht).1,fun t ht=>.inl (hok t ht),by lia⟩
 rintro σ' H4 ⟨p',xs',tks',rfl,g4,hp4,hT4,hr4,hok4,hl4⟩;refine⟨_,rfl,_,rfl,vZ (g4.seq ha) hns (by decide) (by decide) fun H5 g5=>⟨_,rfl, ?_⟩⟩;have c1:=qU ns 1;have c2:=uO ns 1;refine⟨p',xs',tks',_,rfl,g5 _ _ hp4,hT4.same g5,hok4,by lia, ?_,by lia,by lia,fun o6 l6 r e H6 g6 ho6 hl6' hN6 hc6 hm6 hL6=>?_⟩
 ·have:=zPr tks' (fun t ht=>(hok4 t ht).slen)
  lia
 obtain⟨l,hsrc,hrun⟩:=zZt (e:=e) hr4 hm6 hN6 hc6 (by lia);obtain⟨zs,hz6,hTz⟩:=hl6';have hLL:OkLs (vV 0 r++ [⟨4,[],(lay r++List.replicate e 32).length⟩]):=fun t ht=>(pA.mp ht).elim (zJh 0 r hN6 t) fun z=>by
  rw[mS.mp z];exact⟨by show 0≤_;lia, .inr (.inr (.inr (.inr (.inl ⟨rfl,rfl⟩))))⟩
 have hlen:(vV 0 r++ [(⟨4,[],(lay r++List.replicate e 32).length⟩:Lk)]).length≤100000:=by
  have hrl:r.length=tks'.length:=by rw[←hm6,mZ]
  rw[mC,gQ];show _+1≤_
  lia
 have hno:run S0 (vV 0 r++ [⟨4,[],(lay r++List.replicate e 32).length⟩])≠ .no:=gO (.inl rfl) _ _;generalize vV 0 r++ [⟨4,[],(lay r++List.replicate e 32).length⟩]=LL at hrun hTz hLL hlen hno;generalize lay r++List.replicate e 32=L at hsrc hL6 ho6;refine⟨o6,rfl,_,SqT.of ho6,rfl,_,_,rfl,_,_,rfl,rfl,_,rfl,L,l,rfl,hsrc,by lia,fun n en q7 H7 g7 hq7=>?_,fun en q7 H7 g7 hq7=>?_,fun t en q7 v H7 g7 hq7 hv7=>?_⟩
 ·have en':run S0 LL= .bad n:=hrun.trans en
  refine⟨_,rfl,l6,zs,LL,rfl,g7 _ _ hz6,hTz.same g7,hLL,hlen,hno,fun n' e' q8 H8 g8 hq8=>?_,fun e'=>(by cases en'.symm.trans e'),fun t e'=>(by cases en'.symm.trans e')⟩;cases en'.symm.trans e';exact⟨q7,q8,rfl,fun H9 _=>q H9, .inl ⟨n,g8 _ _ hq7,hq8⟩⟩
 ·have en':run S0 LL= .great:=hrun.trans en
  refine⟨_,rfl,l6,zs,LL,rfl,g7 _ _ hz6,hTz.same g7,hLL,hlen,hno,fun n' e'=>(by cases en'.symm.trans e'),fun e' q8 n8 H8 g8 hq8=>?_,fun t e'=>(by cases en'.symm.trans e')⟩;exact⟨q7,q8,rfl,fun H9 _=>q H9, .inr (.inl ⟨n8,g8 _ _ hq7,hq8⟩)⟩
 ·have en':run S0 LL= .good t:=hrun.trans en
  obtain⟨f1,f2,f3⟩:=zHo LL S0 wf0 mi0 en';refine⟨_,rfl,l6,zs,LL,rfl,g7 _ _ hz6,hTz.same g7,hLL,hlen,hno,fun n' e'=>(by cases en'.symm.trans e'),fun e'=>(by cases en'.symm.trans e'),fun t' e' q8 v8 H8 g8 hq8 hv8=>?_⟩;cases en'.symm.trans e';exact⟨q7,q8,rfl,fun H9 _=>q H9, .inr (.inr ⟨v,v8,t,g8 _ _ hq7,hq8,Rep.same g8 _ _ hv7,hv8,f1,f2,f3⟩)⟩
end
end K27
namespace K27
open PySem L2 PySem.W
def cls3(a b c:Addr):Nat→Addr
 | 0=>a
 | 1=>b
 | _=>c
theorem zAa{P:Program}{w:World}{x:Str}{t:Tok}{v:Value}{e:DictEntry}(h:e=⟨PyData.keyHash w.params x, .str x t,v⟩):∃k,(yQ P w).is k e.key=true∧e.hash=(yQ P w).hash k:=
 ⟨Sum.inr x,by rw[h];exact qT x t,by rw[h];rfl⟩
theorem zTc{P:Program}{w:World}{h:Heap}{a:Addr}{t1 t2 t3:Tok}{ep:Nat}(e:h.get? a=some ⟨.type "dict",none, .dict #[⟨PyData.keyHash w.params (Str.ofString "none"), .str (Str.ofString "none") t1, .none⟩,⟨PyData.keyHash w.params (Str.ofString "yes"), .str (Str.ofString "yes") t2, .bool true⟩,⟨PyData.keyHash w.params (Str.ofString "no"), .str (Str.ofString "no") t3, .bool false⟩] ep,#[]⟩):h.DictOf (yQ P w) a zGe:=by
 refine⟨_,_,_,e,⟨rfl,rfl,rfl⟩,rfl,fun x hx=>?_, .cons (qT _ t1) rfl (.cons (qT _ t2) rfl (.cons (qT _ t3) rfl .nil)),by decide+kernel⟩;have hx:=Array.mem_toList_iff.mpr hx;rcases mF.mp hx with z | z
 ·exact zAa z
 rcases mF.mp z with z | z
 ·exact zAa z
 rcases mF.mp z with z | z
 ·exact zAa z
 exact absurd z nP
def FA(K:W.Frag)(x:Str)(st:Stmt)(f:Addr):Prop:=W.nsIn K mainGlobals x=some (some (.ref f))∧∃oc od kV dc pm an cd ct sl,K.lookup f=some ⟨oc,od, .func (W.fnOf x x (xC st) (yV st) (zO st) .none kV dc pm an cd ct),sl⟩∧W.codeIn K cd x=true∧W.keepIn K (.ref f)=true
theorem FnOkH.up{P:Program}{w:World}{K:W.Frag}{mg:Str→Option Value}{base:Heap}{j k:Nat}{f:Addr}{fd:FuncData}{ps:List Str}{sp:Sp}(F:FnOkH P w K mg base j f fd ps sp)(h:j≤k):FnOkH P w K mg base k f fd ps sp:=⟨F.len,fun A outer s H args us vs Q E hr=>F.run A outer s H args us vs Q E (hr.mono h)⟩
theorem FA.out{K:W.Frag}{h:Heap}{mg:Str→Option Value}{x:Str}{st:Stmt}{f:Addr}(a:FA K x st f)(X:K.In h)(G:h.Ns mainGlobals mg):mg x=some (.ref f)∧(∃fd,Fun K x x st f fd)∧W.keepIn K (.ref f)=true:=by
 obtain⟨a,oc,od,kV,dc,pm,an,cd,ct,sl,l,c,k⟩:=a;exact⟨W.mg_of X G a,⟨_,qN l c k⟩,k⟩
section
variable{φ:Value→Prop}{P:Program}{w:World}{K:W.Frag}{mg:Str→Option Value}{base h:Heap}{k:Nat}{x:Str}{ps:List Str}{sp:Sp}{st:Stmt}{f:Addr}(X:K.In h)(G:h.Ns mainGlobals mg)(j:Nat)(a:FA K x st f)
include X G a
theorem dn_mk(o:∀{fd},Fun K x x st f fd→FnOk P w K mg base CX0 k f fd ps sp)(l:k≤j:=by decide)(b:∀fd,Fun K x x st f fd→Binds K fd ps []:=by walk_at "b"):Dn P w K mg base j x ps sp:=by
 obtain⟨m,⟨fd,F⟩,p⟩:=a.out X G;exact⟨_,_,FnOk.mono (o F) l,b _ F,p,m⟩
theorem yBe(o:∀{fd},Fun K x x st f fd→Binds K fd ps []→W.keepIn K (.ref f)=true→mg x=some (.ref f)→FnOk P w K mg base CX0 k f fd ps sp)(l:k≤j:=by decide)(b:∀fd,Fun K x x st f fd→Binds K fd ps []:=by walk_at "b"):Dn P w K mg base j x ps sp:=by
 obtain⟨m,⟨fd,F⟩,p⟩:=a.out X G;exact⟨_,_,FnOk.mono (o F (b _ F) p m) l,b _ F,p,m⟩
theorem dx_mk(o:∀{fd},Fun K x x st f fd→FnOk P w K mg base (CXE φ P w) k f fd ps sp)(l:k≤j:=by decide)(b:∀fd,Fun K x x st f fd→Binds K fd ps []:=by walk_at "b"):Dx φ P w K mg base j x ps sp:=by
 obtain⟨m,⟨fd,F⟩,p⟩:=a.out X G;exact⟨_,_,FnOk.mono (o F) l,b _ F,p,m⟩
theorem dh_mk(o:∀{fd},Fun K x x st f fd→FnOkH P w K mg base k f fd ps sp)(l:k≤j:=by decide)(b:∀fd,Fun K x x st f fd→Binds K fd ps []:=by walk_at "b"):Dh P w K mg base j x ps sp:=by
 obtain⟨m,⟨fd,F⟩,p⟩:=a.out X G;exact⟨_,_,FnOkH.up (o F) l,b _ F,p,m⟩
end
theorem all_mk{l:OpenLaw}{w:World}{K:Frag}{h:Heap}{mg:Str→Option Value}{fa f0 f1 f2 f3 f4 f5 f6 f7 f8 f9 f10 f11 f12 f13 f14 f15 f16 f17 f18 f19 f20 f21 f22 f23 f24 f25 f26 f27 f28 f29 f30 f31 f32 f33 f34 f35 f36 f37 f38 f39 f40:Addr}(X:K.In h)(G:h.Ns mainGlobals mg)(hfa:mg "law" =some (.ref fa))
  {od40 an40:Option Addr} {sl40:Array (Option Value)} {oc40 kV40 dc40 pm40 cd40 ct40:Value}
  {u0:Tok}
  {u1:Tok}
  {u2:Tok}
  {u3:Tok}
  {v0:Tok}
  {v1:Tok}
  {v2:Tok}
  {v3:Tok}
  {v4:Tok}
  {v5:Tok}
  {v6:Tok}
  {v7:Tok}
  {xR xW xB pC tC oC:Addr} {wt1 wt2 wt3:Tok} {xep:Nat} {pN pF pD:Addr} {pq:Str} {pbs:List Value} {psn:List Str} {psub:List Value} {pab:Bool} {pcol:Option Bool} {pdd:Option Addr} {pk0 pk1 pk2 pk3 pk5:Option Value} {pod pan:Option Addr} {psl:Array (Option Value)} {poc pkV pdc ppm pcd pct:Value} {pdo:Option Addr} {pdc' pdv:Value} {pdn:Nat} {pds:Array (Option Value)} {tN:Addr} {tq:Str} {tbs:List Value} {tsn:List Str} {tsub:List Value} {tab:Bool} {tcol:Option Bool} {tdd:Option Addr} {tk0 tk1 tk2 tk3 tk5:Option Value} {g0:Addr} {god0 gan0:Option Addr} {gsl0:Array (Option Value)} {goc0 gkV0 gdc0 gpm0 gcd0 gct0:Value} {g1:Addr} {god1 gan1:Option Addr} {gsl1:Array (Option Value)} {goc1 gkV1 gdc1 gpm1 gcd1 gct1:Value} {g2:Addr} {god2 gan2:Option Addr} {gsl2:Array (Option Value)} {goc2 gkV2 gdc2 gpm2 gcd2 gct2:Value} {g3:Addr} {god3 gan3:Option Addr} {gsl3:Array (Option Value)} {goc3 gkV3 gdc3 gpm3 gcd3 gct3:Value} {g4:Addr} {god4 gan4:Option Addr} {gsl4:Array (Option Value)} {goc4 gkV4 gdc4 gpm4 gcd4 gct4:Value} {g5:Addr} {god5 gan5:Option Addr} {gsl5:Array (Option Value)} {goc5 gkV5 gdc5 gpm5 gcd5 gct5:Value} {g6:Addr} {god6 gan6:Option Addr} {gsl6:Array (Option Value)} {goc6 gkV6 gdc6 gpm6 gcd6 gct6:Value} {g7:Addr} {god7 gan7:Option Addr} {gsl7:Array (Option Value)} {goc7 gkV7 gdc7 gpm7 gcd7 gct7:Value}
  (a0:FA K "kind_of" zGv f0)
  (a1:FA K "is_name" (top 11) f1)
  (a2:FA K "is_text_sign" zZv f2)
  (a3:FA K "is_sound_outside" zYp f3)
  (a4:FA K "tokens" zMm f4)
  (a5:FA K "kind_at" zVw f5)
  (a6:FA K "token_end" zFh f6)
  (a7:FA K "run_end" yAv f7)
  (a8:FA K "number_end" zNg f8)
  (a9:FA K "text_end" zIz f9)
  (a10:FA K "string_of" zLe f10)
  (a11:FA K "read" zQw f11)
  (a12:FA K "tokens_to_stray" zYz f12)
  (a13:FA K "begins_thing" zZh f13)
  (a14:FA K "plain_thing" yAz f14)
  (a15:FA K "_law_cell" zSy f15)
  (a16:FA K "_law_name_by" zUo f16)
  (a17:FA K "_law_signs" zLg f17)
  (a18:FA K "_law_text_by" zQk f18)
  (a19:FA K "_law_number_by" zZe f19)
  (a20:FA K "_law_sort" zSc f20)
  (a21:FA K "_law_alike" zCv f21)
  (a22:FA K "_law_word_by" zSi f22)
  (a23:FA K "_law_token_by" yAk f23)
  (a24:FA K "_law_sticks" zGf f24)
  (a25:FA K "_law_shown" zKn f25)
  (a26:FA K "_law_laid" zQv f26)
  (a27:FA K "_law_begins" sLb f27)
  (a28:FA K "_law_beyond" sLy f28)
  (a29:FA K "_law_value" sLv f29)
  (a30:FA K "_law_thing_next" sTn f30)
  (a31:FA K "_law_name_next" sNn f31)
  (a32:FA K "_law_next" sNx f32)
  (a33:FA K "_law_due" sDu f33)
  (a34:FA K "_law_one" sOn f34)
  (a35:FA K "_law_told" sTo f35)
  (a36:FA K "_law_as_due" sAs f36)
  (a37:FA K "_law_likely" sLi f37)
  (a38:FA K "_law_bad" zYo f38)
  (a39:FA K "_law_with_bad" sWb f39)
  (a40:nsIn K mainGlobals "law" =some (some (.ref f40)))
  (l40:K.lookup f40=some ⟨oc40,od40, .func (fnOf "law" "law" (xC zGm) (yV zGm) (zO zGm) .none kV40 dc40 pm40 an40 cd40 ct40),sl40⟩)
  (c40:codeIn K cd40 "law" =true)
  (k40:keepIn K (.ref f40)=true)
  (z0:nsIn K mainGlobals "len" =some none)
  (z1:nsIn K mainGlobals "range" =some none)
  (z2:nsIn K mainGlobals "isinstance" =some none)
  (z3:nsIn K mainGlobals "all" =some none)
  (z4:nsIn K mainGlobals "sum" =some none)
  (z5:nsIn K mainGlobals "int" =some none)
  (z6:nsIn K mainGlobals "str" =some none)
  (z7:nsIn K mainGlobals "bool" =some none)
  (z8:nsIn K mainGlobals "list" =some none)
  (z9:nsIn K mainGlobals "dict" =some none)
  (z10:nsIn K mainGlobals "tuple" =some none)
  (y0:nsIn K mainGlobals "max" =some none)
  (y1:nsIn K mainGlobals "min" =some none)
  (y2:nsIn K mainGlobals "sorted" =some none)
  (q0:nsIn K mainGlobals "abs" =some none)
  (q1:nsIn K mainGlobals "ord" =some none)
  (s0:nsIn K mainGlobals "LETTERS" =some (some (.str (Str.ofString "abcdefghijklmnopqrstuvwxyz") u0)))
  (s1:nsIn K mainGlobals "FIGURES" =some (some (.str (Str.ofString "0123456789") u1)))
  (s2:nsIn K mainGlobals "NAME_SIGNS" =some (some (.str (Str.ofString "abcdefghijklmnopqrstuvwxyz0123456789") u2)))
  (s3:nsIn K mainGlobals "MARKS" =some (some (.str (Str.ofString "[]{},:") u3)))
  (n0:nsIn K mainGlobals "MOST_IN_NAME" =some (some (.int 12 v0)))
  (n1:nsIn K mainGlobals "MOST_IN_TEXT" =some (some (.int 30 v1)))
  (n2:nsIn K mainGlobals "MOST_IN_ROW" =some (some (.int 60 v2)))
  (n3:nsIn K mainGlobals "MOST_IN_RECORD" =some (some (.int 30 v3)))
  (n4:nsIn K mainGlobals "MOST_DEPTH" =some (some (.int 8 v4)))
  (n5:nsIn K mainGlobals "MOST_SIZE" =some (some (.int 200 v5)))
  (n6:nsIn K mainGlobals "MOST_SIGNS" =some (some (.int 20000 v6)))
  (n7:nsIn K mainGlobals "MOST_IN_NUMBER" =some (some (.int 14 v7)))
  (xcl:nsIn K mainGlobals "Reader" =some (some (.ref xR)))
  (ga0:findIn K (.ref xR) "__init__" =some (some (.ref g0)))
  (gi0:isFn K (.ref g0)=true)
  (gl0:K.lookup g0=some ⟨goc0,god0, .func (fnOf "__init__" "Reader.__init__" (xC sRi) (yV sRi) (zO sRi) .none gkV0 gdc0 gpm0 gan0 gcd0 gct0),gsl0⟩)
  (gc0:codeIn K gcd0 "Reader.__init__" =true)
  (gk0:keepIn K (.ref g0)=true)
  (ga1:findIn K (.ref xR) "passes" =some (some (.ref g1)))
  (gi1:isFn K (.ref g1)=true)
  (gl1:K.lookup g1=some ⟨goc1,god1, .func (fnOf "passes" "Reader.passes" (xC sRp) (yV sRp) (zO sRp) .none gkV1 gdc1 gpm1 gan1 gcd1 gct1),gsl1⟩)
  (gc1:codeIn K gcd1 "Reader.passes" =true)
  (gk1:keepIn K (.ref g1)=true)
  (ga2:findIn K (.ref xR) "pass_over" =some (some (.ref g2)))
  (gi2:isFn K (.ref g2)=true)
  (gl2:K.lookup g2=some ⟨goc2,god2, .func (fnOf "pass_over" "Reader.pass_over" (xC sRo) (yV sRo) (zO sRo) .none gkV2 gdc2 gpm2 gan2 gcd2 gct2),gsl2⟩)
  (gc2:codeIn K gcd2 "Reader.pass_over" =true)
  (gk2:keepIn K (.ref g2)=true)
  (ga3:findIn K (.ref xR) "thing_here" =some (some (.ref g3)))
  (gi3:isFn K (.ref g3)=true)
  (gl3:K.lookup g3=some ⟨goc3,god3, .func (fnOf "thing_here" "Reader.thing_here" (xC sRt) (yV sRt) (zO sRt) .none gkV3 gdc3 gpm3 gan3 gcd3 gct3),gsl3⟩)
  (gc3:codeIn K gcd3 "Reader.thing_here" =true)
  (gk3:keepIn K (.ref g3)=true)
  (ga4:findIn K (.ref xR) "holder_here" =some (some (.ref g4)))
  (gi4:isFn K (.ref g4)=true)
  (gl4:K.lookup g4=some ⟨goc4,god4, .func (fnOf "holder_here" "Reader.holder_here" (xC sRh) (yV sRh) (zO sRh) .none gkV4 gdc4 gpm4 gan4 gcd4 gct4),gsl4⟩)
  (gc4:codeIn K gcd4 "Reader.holder_here" =true)
  (gk4:keepIn K (.ref g4)=true)
  (ga5:findIn K (.ref xR) "row_here" =some (some (.ref g5)))
  (gi5:isFn K (.ref g5)=true)
  (gl5:K.lookup g5=some ⟨goc5,god5, .func (fnOf "row_here" "Reader.row_here" (xC sRr) (yV sRr) (zO sRr) .none gkV5 gdc5 gpm5 gan5 gcd5 gct5),gsl5⟩)
  (gc5:codeIn K gcd5 "Reader.row_here" =true)
  (gk5:keepIn K (.ref g5)=true)
  (ga6:findIn K (.ref xR) "record_here" =some (some (.ref g6)))
  (gi6:isFn K (.ref g6)=true)
  (gl6:K.lookup g6=some ⟨goc6,god6, .func (fnOf "record_here" "Reader.record_here" (xC sRd) (yV sRd) (zO sRd) .none gkV6 gdc6 gpm6 gan6 gcd6 gct6),gsl6⟩)
  (gc6:codeIn K gcd6 "Reader.record_here" =true)
  (gk6:keepIn K (.ref g6)=true)
  (ga7:findIn K (.ref xR) "name_here" =some (some (.ref g7)))
  (gi7:isFn K (.ref g7)=true)
  (gl7:K.lookup g7=some ⟨goc7,god7, .func (fnOf "name_here" "Reader.name_here" (xC sRn) (yV sRn) (zO sRn) .none gkV7 gdc7 gpm7 gan7 gcd7 gct7),gsl7⟩)
  (gc7:codeIn K gcd7 "Reader.name_here" =true)
  (gk7:keepIn K (.ref g7)=true)
  (xpg:plainGet K xR Str.empty=true)
  (xhd:hasDictIn K xR=true)
  (xpo:plainOver K xR=true)
  (xsa:findIn K (.ref xR) "__setattr__" =some (some (.builtin "object.__setattr__")))
  (xmk:makesIn K xR=true)
  (xkc:keepIn K (.ref xR)=true)
  (xnf:findIn K (.ref xR) "found" =some none)
  (xnp:findIn K (.ref xR) "place" =some none)
  (xnb:findIn K (.ref xR) "begun" =some none)
  (xwa:nsIn K mainGlobals "WORDS" =some (some (.ref xW)))
  (xwl:K.lookup xW=some ⟨.type "dict",none, .dict #[⟨PyData.keyHash w.params (Str.ofString "none"), .str (Str.ofString "none") wt1, .none⟩,⟨PyData.keyHash w.params (Str.ofString "yes"), .str (Str.ofString "yes") wt2, .bool true⟩,⟨PyData.keyHash w.params (Str.ofString "no"), .str (Str.ofString "no") wt3, .bool false⟩] xep,#[]⟩)
  (xwn:(xW==sysModules)=false)
  (xaB:nsIn K mainGlobals "CabinetError" =some (some (.ref xB)))
  (xaV:nsIn K mainGlobals "ValueError" =some none)
  (xb1:tailIn K veMro (.ref xB::veMro)=true)
  (xc0:specialIn K (.ref xB) "__getattribute__" =some (some (.builtin "type.__getattribute__")))
  (xc1:readsIn K xB (.type "type")=true)
  (xc2:findCls K (.ref xB) (.type "type") "__init__" =some (.val (.builtin "ValueError.__init__")))
  (xe6:specialIn K (.builtin "object.__class__") "__get__" =some (some (.builtin "getset_descriptor.__get__")))
  (xe7:takesIn K (.builtin "object.__class__")=some true)
  (oa:nsIn K mainGlobals "NoPlace" =some (some (.ref oC)))
  (pa:nsIn K mainGlobals "BadText" =some (some (.ref pC)))
  (pb0:K.lookup pC=some (excClassObj "BadText" pq pC pN pbs (.ref xB::veMro) true psn psub pab pcol pdd pk0 pk1 pk2 pk3 pk5 "ValueError.__new__"))
  (pb2:findIn K (.ref pC) "__init__" =some (some (.ref pF)))
  (pb3:typeIn K (.ref pF)=some (.type "function"))
  (pb4:findIn K (.ref pC) "__setattr__" =some (some (.builtin "object.__setattr__")))
  (pb5:findIn K (.ref pC) "at" =some none)
  (pb6:keepIn K (.ref pC)=true)
  (pd0:K.lookup pF=some ⟨poc,pod, .func (fnOf "__init__" "BadText.__init__" (xC vA) (yV vA) (zO vA) (.ref pD) pkV pdc ppm pan pcd pct),psl⟩)
  (pd1:codeIn K pcd "BadText.__init__" =true)
  (pd2:K.lookup pD=some ⟨pdc',pdo, .seq #[pdv] pdn,pds⟩)
  (ta:nsIn K mainGlobals "TooGreat" =some (some (.ref tC)))
  (tb0:K.lookup tC=some (excClassObj "TooGreat" tq tC tN tbs (.ref xB::veMro) true tsn tsub tab tcol tdd tk0 tk1 tk2 tk3 tk5 "ValueError.__new__"))
  (tb2:nsOkIn K tN=true)
  (tb3:nsIn K tN "__init__" =some none)
  (tb6:keepIn K (.ref tC)=true)
  (pe0:findIn K (.ref pC) "__getattribute__" =some (some (.builtin "BaseException.__getattribute__")))
  (pe1:findIn K (.ref pC) "__getattr__" =some none)
  (pe2:mroIn K pC (.type "BaseException")=some true)
  (pe3:mroIn K pC (.type "object")=some true)
  (pe4:hasDictIn K pC=true)
  (pe5:findIn K (.ref pC) "__class__" =some (some (.builtin "object.__class__")))
  (te0:findIn K (.ref tC) "__getattribute__" =some (some (.builtin "BaseException.__getattribute__")))
  (te1:findIn K (.ref tC) "__getattr__" =some none)
  (te2:mroIn K tC (.type "BaseException")=some true)
  (te3:mroIn K tC (.type "object")=some true)
  (te4:hasDictIn K tC=true)
  (te5:findIn K (.ref tC) "__class__" =some (some (.builtin "object.__class__")))
  (xx0:exmOne K (.ref pC) (.ref xB)=some true)
  (xx1:exmOne K (.ref tC) (.ref xB)=some true)
  (xxp:exmOne K (.ref pC) (.ref pC)=some true)
  (xk00:kitOne K (.ref pC) (.ref pC)=some true)
  (xk01:kitOne K (.ref pC) (.ref tC)=some false)
  (xk02:kitOne K (.ref pC) (.ref oC)=some false)
  (xk0V:kitOne K (.ref pC) (.type "ValueError")=some true)
  (xk10:kitOne K (.ref tC) (.ref pC)=some false)
  (xk11:kitOne K (.ref tC) (.ref tC)=some true)
  (xk12:kitOne K (.ref tC) (.ref oC)=some false)
  (xk1V:kitOne K (.ref tC) (.type "ValueError")=some true):
  ∃fd:FuncData,(∀(s:Shared)(v:Value),BindsTo s fd ⟨[v],[]⟩ [("_law_script",v)])∧∀base:Heap,K.In base→base.Ns mainGlobals mg→FnOk l.prog w K mg base CX0 34 fa fd ["_law_script"] (zMh K):=by
 have e:=hfa.symm.trans (mg_of X G a40);cases e;have Flaw:=qN (st:=zGm) l40 c40 k40;have B:Bl mg:=⟨mg_none_of X G z0,mg_none_of X G z1,mg_none_of X G z2,mg_none_of X G z3,mg_none_of X G z4,mg_none_of X G z5,mg_none_of X G z6,mg_none_of X G z7,mg_none_of X G z8,mg_none_of X G z9,mg_none_of X G z10⟩;have B2:Bl2 mg:=⟨B,mg_none_of X G y0,mg_none_of X G y1,mg_none_of X G y2⟩;have B5:Bl5 mg:=⟨B2,mg_none_of X G q0,mg_none_of X G q1⟩;have M:Ms mg:=⟨⟨_,mg_of X G s0⟩,⟨_,mg_of X G s1⟩,⟨_,mg_of X G s2⟩,⟨_,mg_of X G s3⟩,⟨_,mg_of X G n0⟩,⟨_,mg_of X G n1⟩,⟨_,mg_of X G n2⟩,⟨_,mg_of X G n3⟩,⟨_,mg_of X G n4⟩,⟨_,mg_of X G n5⟩,⟨_,mg_of X G n6⟩,⟨_,mg_of X G n7⟩⟩;refine⟨fnOf "law" "law" (xC zGm) (yV zGm) (zO zGm) .none kV40 dc40 pm40 an40 cd40 ct40,fun s v=>.of_eq rfl,fun base _ _=>?_⟩;have D {k x ps sp st f}:=@dn_mk l.prog w K mg base h k x ps sp st f X G;have D3 {k x ps sp st f}:=@yBe l.prog w K mg base h k x ps sp st f X G;have H {k x ps sp st f}:=@dh_mk l.prog w K mg base h k x ps sp st f X G;have EnC {k x ps sp st f}:=@dx_mk nC l.prog w K mg base h k x ps sp st f X G;have R0:=qN (st:=sRi) gl0 gc0 gk0;have r0:=R0.binds (ps:=["self","found"]) fun _ _ _ _ _ _ us hl=>match us,hl with | [_,_],_=>rfl
 have R1:=qN (st:=sRp) gl1 gc1 gk1;have r1:=R1.binds (ps:=["self","kind","string"]) fun _ _ _ _ _ _ us hl=>match us,hl with | [_,_,_],_=>rfl
 have R2:=qN (st:=sRo) gl2 gc2 gk2;have r2:=R2.binds (ps:=["self","kind","string"]) fun _ _ _ _ _ _ us hl=>match us,hl with | [_,_,_],_=>rfl
 have R3:=qN (st:=sRt) gl3 gc3 gk3;have r3:=R3.binds (ps:=["self","depth","crowded"]) fun _ _ _ _ _ _ us hl=>match us,hl with | [_,_,_],_=>rfl
 have R4:=qN (st:=sRh) gl4 gc4 gk4;have r4:=R4.binds (ps:=["self","depth","bracket"]) fun _ _ _ _ _ _ us hl=>match us,hl with | [_,_,_],_=>rfl
 have R5:=qN (st:=sRr) gl5 gc5 gk5;have r5:=R5.binds (ps:=["self","depth"]) fun _ _ _ _ _ _ us hl=>match us,hl with | [_,_],_=>rfl
 have R6:=qN (st:=sRd) gl6 gc6 gk6;have r6:=R6.binds (ps:=["self","depth"]) fun _ _ _ _ _ _ us hl=>match us,hl with | [_,_],_=>rfl
 have R7:=qN (st:=sRn) gl7 gc7 gk7;have r7:=R7.binds (ps:=["self","record"]) fun _ _ _ _ _ _ us hl=>match us,hl with | [_,_],_=>rfl
 have Gcell:=D 1 a15 fun F=>zXl F B;have Gnum:=D 1 a19 fun F=>yBc F;have Gname:=D 1 a16 fun F=>zVy F B;have Gsigns:=D 1 a17 fun F=>zTq F;have Gtext:=D 2 a18 fun F=>zWs F B Gsigns;have Gword:=D 1 a22 fun F=>zWg F B;have Gtok:=D 3 a23 fun F=>zZk F B Gword Gtext;have Gko:=D 1 a0 fun F=>zJs F B;have Gsg:=H 1 a2 fun F=>zZb F B5;have Grun:=H 1 a7 fun F=>yAj F B;have Gkat:=H 1 a5 fun F=>zUq F B M;have Gne:=H 2 a8 fun F=>zWf F B M Grun;have Gte:=H 2 a9 fun F=>zWl F B Gsg;have Gtk:=H 3 a6 fun F=>zJl F M Gne Grun Gte;have Gso:=H 1 a10 fun F=>zUt F;have Gto:=H 4 a4 fun F=>zMx F B Grun Gkat Gtk Gso;have mB:=mg_of X G xaB;have mP:=mg_of X G pa;have mT:=mg_of X G ta;have XC:zJw K "BadText" pC xB pF:=⟨⟨pN,_,pb0,_,_,_,_,_,_,_,_,_,_,_,_,_,rfl⟩,⟨_,by unfold clsIn;rw[pb0],rfl,rfl⟩,xb1,pb2,pb3,pb4,pb5,pb6⟩;have XB:zUa K xB:=⟨xc0,xc1,xc2⟩;have RB:Xr l.prog w K mg base 1 "BadText" pC:=⟨_,_,_,_,_,XC,zSg pd0 pd1 XC XB mB,zJb pd2 rfl rfl,mP⟩;have RT:Xr0 K mg "TooGreat" tC:=⟨_,_,⟨⟨tN,_,tb0,⟨_,_,_,_,_,_,_,_,_,_,_,_,_,rfl⟩,tb2,tb3⟩,xb1,tb6⟩,mT⟩;have G0:gR K pC:=⟨pe0,pe1,pe2,pe3,pe4,pe5,xe6,xe7⟩;have G1:gR K tC:=⟨te0,te1,te2,te3,te4,te5,xe6,xe7⟩;have CF:Cf K mg (cls3 pC tC oC) xB:=⟨mg_none_of X G xaV,mB,mP,mT,mg_of X G oa,xx0,xx1,G0,G1,pb5,xk00,xk01,xk02,xk0V,xk10,xk11,xk12,xk1V⟩;have Gkx:=EnC 3 a5 fun F=>FnOk.or (FnOk.lift (FnOk.mono (zUq F B M).fn (by decide))) (zVv F B M RB);have Gnx:=EnC 3 a8 fun F=>zTb F B M Grun.dn RB;have Gtx:=EnC 3 a9 fun F=>FnOk.or (zPq F B Gsg.dn RB) (zUf F B Gsg.dn RB);have Gkx2:=EnC 4 a6 fun F=>FnOk.or (FnOk.lift (FnOk.mono (zJl F M Gne Grun Gte).fn (by decide))) (zNr F M Gnx Grun.dn Gtx);have Gtox:=EnC 5 a4 fun F=>FnOk.or (FnOk.lift (FnOk.mono (zMx F B Grun Gkat Gtk Gso).fn (by decide))) (zPu F B Grun.dn Gkx Gkx2 Gso.dn);have Gin:=D (sp:=zZj) (ps:=["thing"]) 1 a1 fun {fd} F=>ok_no (k:=1);have Gsnd:=D 2 a3 fun F=>yBj F B5 M Gko Gsg.dn Gin;have W:Wd l.prog w K mg xW:=⟨mg_of X G xwa,xwn,fun h' X'=>zTc (X' _ _ xwl)⟩;have Gbeg:=D 1 a13 fun F=>zYw F B W;have Gpln:=EnC 3 a14 fun F=>zZz F B M W Gsnd RT;have R:Rc K xR:=⟨⟨xpg,xhd,xpo,xsa⟩,xnf,xnp,xnb⟩;have Dps:Dm l.prog w K mg base 1 xR "passes" ["self","kind","string"] (zPn xR):=⟨_,_,R.cls,⟨ga1,gi1,gk1⟩,ok_ps R1 R,r1⟩;have Dpo:Dmx nC l.prog w K mg base 3 xR "pass_over" ["self","kind","string"] (zKc xR pC):=⟨_,_,R.cls,⟨ga2,gi2,gk2⟩,ok_po R2 R Dps RB,r2⟩;have Dnm:Dmx nC l.prog w K mg base 3 xR "name_here" ["self","record"] (zSp xR pC tC):=⟨_,_,R.cls,⟨ga7,gi7,gk7⟩,ok_nm R7 B M R RB RT,r7⟩;have Dth:Dmx nC l.prog w K mg base (4+3*9) xR "thing_here" ["self","depth","crowded"] (zDm xR pC tC 9):=⟨_,_,R.cls,⟨ga3,gi3,gk3⟩,zVk R3 R4 R5 R6 B M R RB RT Gbeg Gpln Dps Dpo Dnm ⟨ga3,gi3,gk3⟩ ⟨ga4,gi4,gk4⟩ ⟨ga5,gi5,gk5⟩ ⟨ga6,gi6,gk6⟩ r3 r4 r5 r6 9,r3⟩;have Dmk:Dk l.prog w K mg base 1 "Reader" xR ["self","found"] (yAe xR):=⟨_,_,⟨xmk,ga0,gi0,xkc⟩,ok_ri R0 R,r0,mg_of X G xcl⟩;have Gst:=D 6 a12 fun F=>zYx F B mP xxp G0 pb5 Gtox Gto;have Grd:=EnC 32 a11 fun F=>zWe F B M RT Gst Dmk Dth Dpo;have Gon:=H 1 a34 fun F=>ok_on F B B5 CF;have Gtold:=D 33 a35 fun F=>ok_to F B CF Grd Gon;have Gsrt:=D 1 a20 fun F=>zXn F B;have Gal:=D3 (2+10) a21 fun F b p m=>zEm F B2 Gsrt b p m 10;have Gas:=D 13 a36 fun F=>ok_as F B Gal;have Glb:=D 1 a27 fun F=>ok_lb F B M;have Gly:=D 1 a28 fun F=>ok_ly F B M;have Glv:=D 1 a29 fun F=>ok_lv F B M;have Gtn:=D 2 a30 fun F=>ok_tn F B M Glb Gly Glv;have Gnn:=D 1 a31 fun F=>ok_nn F B M;have Gnx2:=D 3 a32 fun F=>ok_nx F B M Gtn Gnn;have Gdue:=D 4 a33 fun F=>ok_du F B M Gnx2;have Gstk:=D 1 a24 fun F=>zOf F;have Gsh:=D 1 a25 fun F=>zUg F B;have Gla:=D 2 a26 fun F=>zXh F B2 Gstk Gsh;have Gbad:=D 1 a38 fun F=>zYj F;have Gwb:=D 2 a39 fun F=>ok_wb F Gbad;have Gli:=D 4 a37 fun F=>ok_li F B Gtok Gname Gtext Gnum;exact yBh Flaw B Gcell Gli Gnx2 Gtok Gwb Gla Gtold Gdue Gas
theorem walk{l:W.OpenLaw}{q:Program}{loose:List Str}{XP:(Str→Option Value)→Heap→Prop}{YP:World→Heap→Prop}{d:DefRec}{K:Params→W.Frag}(hn:l.most=some 63)(hdf:d.params.defaults= [])
  (hY:∀(w:World)(h:Heap),YP w h→(K w.params).In h)
  (F:∀(w:World)(mg:Str→Option Value)(fa:Addr)(h:Heap),(K w.params).In h→h.Ns mainGlobals mg→mg d.name=some (.ref fa)→
   ∃fd:FuncData,(∀(s:Shared)(u:Value),BindsTo s fd ⟨[u],[]⟩ [("_law_script",u)])∧∀base:Heap,(K w.params).In base→base.Ns mainGlobals mg→FnOk l.prog w (K w.params) mg base CX0 34 fa fd ["_law_script"] (zMh (K w.params))):
  W.WalkO q loose XP YP l.row.toRowW d [] (fun f vs=>PySem.call f vs):=
 L2.zNk (n:=63) (k:=34) (x:="_law_script") (CX:=fun _=>CX0) (sp:=fun w=>zMh (K w.params)) hn (by decide) hdf ⟨rfl,by decide,by decide⟩ hY F (fun _ _ a ns hl _ hS=>⟨a,ns,rfl,hS,hl,fun _=>rfl⟩) fun _ _ _ _ _ z=>z
end K27
end
namespace PySem.W.Fast
def tw5059992549131889120:=()
def tw1635523944554627916:=()
def tw11680911894154795301:=()
def tw2434391151559418600:=()
def tw16819018966360682035:=()
def tw12189253226031880837:=()
def tw17732636624802469640:=()
def tw7945526320827652625:=()
def tw13004394285722838778:=()
def tw9718954072032065750:=()
def tw254704326838670206:=()
def tw11928127134541110618:=()
def tw1000331720768552709:=()
def tw14530837387804707191:=()
def tw12044921598644843788:=()
def tw17637581206332412200:=()
def tw11727568643122201289:=()
def tw11269687148697008841:=()
def tw12802676078365969663:=()
def tw5970307022897740817:=()
def tw18240999128579157842:=()
def tw17750311603086300925:=()
def tw13256553877692717717:=()
def tw621498379107793289:=()
def tw7174031657125087085:=()
def tw9138572043360211400:=()
def tw6862837734836580482:=()
def tw5801005182194092304:=()
def tw16120939323651387949:=()
def tw2121636627592384566:=()
def tw13558538345691276777:=()
def tw9737489118130732291:=()
def tw17015492252066079846:=()
def tw8158451736358063265:=()
def tw9257100327814996478:=()
def tw14648067850883374394:=()
def tw8427681920912287900:=()
def tw9415078214720843405:=()
def tw1168471465263278485:=()
def tw17932937931739496423:=()
def tw16445577267973347563:=()
def tw5355885435905223965:=()
def tw9941802978765596636:=()
def tw15500922748949113141:=()
def tw498333655976096683:=()
def tw12009345088197449911:=()
def tw5051040489949633134:=()
def tw11728649617472990468:=()
def tw16004368887847549092:=()
def tw4262897509697571340:=()
def tw14500712116194518723:=()
def tw5684966814399387898:=()
def tw15713264314410905247:=()
def tw11364160860449753822:=()
def tw8391540541947792444:=()
def tw15254259933786252643:=()
def tw11422128472225868893:=()
def tw17676748457039310091:=()
def tw14489531795881545220:=()
def tw5224109957605303253:=()
def tw678899220362358480:=()
def tw10156574798563777543:=()
def tw15940380448129290913:=()
def tw3797955522433616850:=()
def tw7504646692993942228:=()
def tw3010295416658253352:=()
def tw11387395027230586199:=()
def tw4493450610716242369:=()
def tw16278894716051108346:=()
def tw18182481251940922570:=()
def tw12027521749911660021:=()
def tw16243023943579073973:=()
def tw494388872677880147:=()
def tw9311917385592826917:=()
def tw18233596870861617334:=()
def tw16258650127658141357:=()
def tw5510646552059853438:=()
def tw8500167575404822609:=()
def tw4065495739396134315:=()
def tw10658317353106862546:=()
def tw4716721192075736596:=()
def tw15711974720004996418:=()
def tw10198088447644387432:=()
def tw7558160905259352554:=()
def tw849534470671441157:=()
def tw9775850413468917320:=()
def tw6034529444059357119:=()
def tw4680203256763895327:=()
def tw15027235440402086135:=()
def tw1147979489739499187:=()
def tw15969137954779472151:=()
def tw13167868659624659492:=()
def tw1898030584260393925:=()
def tw11564407518790713717:=()
def tw4746700508595863260:=()
def tw10420107408858904274:=()
def tw4986859718112350604:=()
def tw15433802511600806136:=()
def tw12169751852931948379:=()
def tw13157740428902456035:=()
def tw3308683853084647444:=()
def tw7885266342378340985:=()
def tw4760511036519172000:=()
def tw1643190245451208257:=()
def tw7099445510745128309:=()
def tw5704557678656623221:=()
def tw309708794387687440:=()
def tw6235172723822297520:=()
def tw5013653792627971543:=()
def tw14112944685232870461:=()
def tw13613612674762927385:=()
def tw2296697420714826354:=()
def tw4389116339928267379:=()
def tw18107095684987902924:=()
def tw14390688751023451148:=()
def tw761160981865069967:=()
def tw16357912204178985177:=()
def tw12548679890840961492:=()
def tw16238607395126992728:=()
def tw6415931911736689332:=()
def tw1046761527415182093:=()
def tw1893336864431666716:=()
def tw16669338159387060879:=()
def tw358252382944863791:=()
def tw2276463877901601999:=()
def tw13511091052723921680:=()
def tw12712843834501125260:=()
def tw11018047727082609981:=()
def tw8236780017542942447:=()
def tw12265262147822185544:=()
def tw16539119506246466838:=()
def tw16288249007328846729:=()
def tw2330173183839256663:=()
def tw10039846000571467732:=()
def tw9037368707775095125:=()
def tw9612180989755477607:=()
def tw6672691672873986638:=()
def tw17788771260356859214:=()
def tw9831373903278289901:=()
def tw876672055078069844:=()
def tw6768683827933666573:=()
def tw11082239600958496528:=()
def tw10390782663883550249:=()
def tw11958661303877805983:=()
def tw4563375894279973376:=()
def tw141778839586566832:=()
def tw16020254757793036368:=()
def tw2338481265738542138:=()
def tw14580151974214400722:=()
def tw16104643187880728515:=()
def tw8289516620339327324:=()
def tw14423010250114902216:=()
def tw6295117073712593769:=()
def tw6868396848904035347:=()
def tw3443177089242468328:=()
def tw16207934017471986142:=()
def tw11678877618561661376:=()
def tw14835793157195070234:=()
def tw8989503330805187519:=()
def tw9966825192445698998:=()
def tw15416068014071886535:=()
def tw15954405031792239145:=()
def tw1957734720032849904:=()
def tw1003968749631704701:=()
def tw4174427244000108936:=()
def tw9046747518564126671:=()
def tw14152724989444141406:=()
def tw15357973834122837891:=()
def tw8849720978718479653:=()
def tw5932712124487235072:=()
def tw1589361228193028928:=()
def tw9842561058457045797:=()
def tw16965892646012746722:=()
def tw4694549484554272149:=()
def tw257051438415899065:=()
def tw10975469451331657799:=()
def tw17120343466755500141:=()
def tw12476167032437847686:=()
def tw3197112813104761939:=()
def tw17072805400840979017:=()
def tw5868801852272205515:=()
def tw15210802770959348082:=()
def tw10187684451043651834:=()
def tw14107294103211058227:=()
def tw1711450180311327512:=()
def tw2740966592292292704:=()
def tw7604222322692167636:=()
def tw14094926210977782773:=()
def tw5594506640210129935:=()
def tw5519221904066225271:=()
def tw12712688394070092448:=()
def tw1157040529949705536:=()
def tw11793751943661525571:=()
def tw17551590869741435776:=()
def tw7484130972205022145:=()
def tw14378287991220999876:=()
def tw5007681645039404820:=()
def tw7606090365641361299:=()
def tw4098058544231023976:=()
def tw11285073908256434860:=()
def tw6618659803021995485:=()
def tw12128070312712424299:=()
def tw13198146578693272959:=()
def tw9450605502493074204:=()
def tw13033397760521327474:=()
def tw5225207236239670690:=()
def tw16065608614783450083:=()
def tw16711245673951475418:=()
def tw8609251874642744131:=()
def tw16954798500253139155:=()
def tw5114140620356857116:=()
def tw6526885169861638983:=()
def tw9570931835232389152:=()
def tw2878286824929539631:=()
def tw9489624985302986126:=()
def tw10687042613772147953:=()
def tw10322189904710815863:=()
def tw16153394599044077886:=()
def tw1134470338306264989:=()
def tw5494889332054130109:=()
def tw16827248040733853638:=()
def tw3663735104252416262:=()
def tw932873714563314776:=()
def tw606283105530466030:=()
def tw9861032344823363081:=()
def tw10748561286049352168:=()
end PySem.W.Fast
open PySem PySem.W PyProof.Rows
set_option maxRecDepth 100000 in
set_option maxHeartbeats 0 in
theorem PySem.Challenge.cw_cabinet_k27_whole_any_row_read_holds : PySem.Challenge.rw_cabinet_k27_whole_any_row_read.Holds := by
  w_on;o_law;k_head;(case hw=>w_witness2)
  k_fill
  refine K27.walk (l:=PySem.Challenge.rw_cabinet_k27_whole_any_row_read) rfl rfl (fun w h Y=>PySem.W.kIn_of Y) ?F
  case F=>
    intro w mg fa h KX G hmg;refine' K27.all_mk KX G hmg ?a0 ?a1 ?a2 ?a3 ?a4 ?a5 ?a6 ?a7 ?a8 ?a9 ?a10 ?a11 ?a12 ?a13 ?a14 ?a15 ?a16 ?a17 ?a18 ?a19 ?a20 ?a21 ?a22 ?a23 ?a24 ?a25 ?a26 ?a27 ?a28 ?a29 ?a30 ?a31 ?a32 ?a33 ?a34 ?a35 ?a36 ?a37 ?a38 ?a39 ?a40 ?l40 ?c40 ?k40 ?z0 ?z1 ?z2 ?z3 ?z4 ?z5 ?z6 ?z7 ?z8 ?z9 ?z10 ?y0 ?y1 ?y2 ?q0 ?q1 ?s0 ?s1 ?s2 ?s3 ?n0 ?n1 ?n2 ?n3 ?n4 ?n5 ?n6 ?n7 ?xcl ?ga0 ?gi0 ?gl0 ?gc0 ?gk0 ?ga1 ?gi1 ?gl1 ?gc1 ?gk1 ?ga2 ?gi2 ?gl2 ?gc2 ?gk2 ?ga3 ?gi3 ?gl3 ?gc3 ?gk3 ?ga4 ?gi4 ?gl4 ?gc4 ?gk4 ?ga5 ?gi5 ?gl5 ?gc5 ?gk5 ?ga6 ?gi6 ?gl6 ?gc6 ?gk6 ?ga7 ?gi7 ?gl7 ?gc7 ?gk7 ?xpg ?xhd ?xpo ?xsa ?xmk ?xkc ?xnf ?xnp ?xnb ?xwa ?xwl ?xwn ?xaB ?xaV ?xb1 ?xc0 ?xc1 ?xc2 ?xe6 ?xe7 ?oa ?pa ?pb0 ?pb2 ?pb3 ?pb4 ?pb5 ?pb6 ?pd0 ?pd1 ?pd2 ?ta ?tb0 ?tb2 ?tb3 ?tb6 ?pe0 ?pe1 ?pe2 ?pe3 ?pe4 ?pe5 ?te0 ?te1 ?te2 ?te3 ?te4 ?te5 ?xx0 ?xx1 ?xxp ?xk00 ?xk01 ?xk02 ?xk0V ?xk10 ?xk11 ?xk12 ?xk1V
    case a0 | a1 | a2 | a3 | a4 | a5 | a6 | a7 | a8 | a9 | a10 | a11 | a12 | a13 | a14 | a15 | a16 | a17 | a18 | a19 | a20 | a21 | a22 | a23 | a24 | a25 | a26 | a27 | a28 | a29 | a30 | a31 | a32 | a33 | a34 | a35 | a36 | a37 | a38 | a39=>exact⟨by k_is,_,_,_,_,_,_,_,_,_,by k_is,by k_is,by k_is⟩
    case a40 | l40 | c40 | k40 | z0 | z1 | z2 | z3 | z4 | z5 | z6 | z7 | z8 | z9 | z10 | y0 | y1 | y2 | q0 | q1 | s0 | s1 | s2 | s3 | n0 | n1 | n2 | n3 | n4 | n5 | n6 | n7 | xcl | ga0 | gi0 | gl0 | gc0 | gk0 | ga1 | gi1 | gl1 | gc1 | gk1 | ga2 | gi2 | gl2 | gc2 | gk2 | ga3 | gi3 | gl3 | gc3 | gk3 | ga4 | gi4 | gl4 | gc4 | gk4 | ga5 | gi5 | gl5 | gc5 | gk5 | ga6 | gi6 | gl6 | gc6 | gk6 | ga7 | gi7 | gl7 | gc7 | gk7 | xpg | xhd | xpo | xsa | xmk | xkc | xnf | xnp | xnb | xwa | xwl=>k_is
    case xwn=>first | k_is | exact rfl | decide
    case xaB | xaV=>k_is
    case xb1=>first | rfl | kernel_rfl
    case xc0 | xc1 | xc2 | xe6 | xe7 | oa | pa | pb0 | pb2 | pb3 | pb4 | pb5 | pb6 | pd0 | pd1 | pd2 | ta | tb0=>k_is
    case tb2=>first | rfl | kernel_rfl
    case tb3 | tb6 | pe0 | pe1 | pe2 | pe3 | pe4 | pe5 | te0 | te1 | te2 | te3 | te4 | te5=>k_is
    case xx0 | xx1 | xxp | xk00 | xk01 | xk02 | xk0V | xk10 | xk11 | xk12 | xk1V=>first | k_is | rfl | decide+kernel
