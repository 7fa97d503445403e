import PyProof.Rows.All
import Wide.All
import OpenK.AllK
import Wide.FinOn
import Lean
import PyProof.EqAt
import PyProof.EqKinds
import PyProof.TupleCall
import PyProof.StrReplace2
import PyProof.DictItems
import PyProof.EnumStmt
import PyProof.EnumFor
import PyProof.DictItemsLoops
import PyProof.ZipIter
import PyProof.IsRules
import PyProof.Rows.SortRev
import KE.KIntText
import OpenK.KRaise
import KE.TryInHelper
import PyProof.RulesRaise
import PyProof.Rows.RaiseClass
import PyProof.RaisesMany
import PyProof.ExcClass3
import PyProof.ExcBaseAll.ValueError
import KE.KTryMore
import PyProof.InstStoreFacts
import OpenK.KMake
import PyProof.ExcAttrAll.ValueError
import KE.KIsAll
import OpenK.KWalk
import OpenK.KDescr
import PyProof.PureStr
import PyProof.ExcStr
import PyProof.CallStr
import KE.KCallOwn
import KE.KSortTup
import PyProof.Rows.StrCut
import PyProof.StrBlock
import KE.IntTextLaws
import PyProof.DictValues
import PyProof.DictWalks
import PyProof.Rows.Range3
import KE.KDictOf
import KE.KRevIter
import KE.KDictList
import PyProof.EqAt
import PyProof.FString5
import PyProof.AttrMissHeap
import PySem.Challenge.RW_cabinet_k26_bounds_told
set_option compiler.extract_closed false
set_option Elab.async false
set_option linter.all false
set_option maxRecDepth 100000
set_option maxHeartbeats 4000000
namespace L2
open PySem PySem.Spec PyProof.Rows
abbrev mC:=@List.length_append
abbrev mD:=@wpAny_bind
abbrev mE:=@List.length_cons
abbrev mF:=@List.mem_cons
abbrev mG:=@if_neg
abbrev mH:=@List.mem_cons_self
abbrev mI:=@Heap.get?_push_of_some
abbrev mJ:=@sizeLine_eq
abbrev mK:=@Nat.le_refl
abbrev mL:=@if_pos
abbrev mM:=@decide_eq_false
abbrev mN:=@List.append_nil
abbrev mO:=@Bool.false_ne_true
abbrev mQ:=@wpAny_pure
abbrev mR:=@List.mem_cons_of_mem
abbrev mS:=@List.mem_singleton
abbrev mU:=@List.length_replicate
abbrev mW:=@Heap.lt_size
abbrev mX:=@Nat.lt_of_lt_of_le
abbrev mY:=@List.append_assoc
abbrev mZ:=@Heap.get?_update_other
abbrev nA:=@List.length_map
abbrev nB:=@decide_eq_true
abbrev nD:=@List.map_cons
abbrev nE:=@List.size_toArray
abbrev nF:=@List.getElem?_eq_some_iff
abbrev nG:=@List.length_drop
abbrev nH:=@List.nil_append
abbrev nI:=@Heap.get?_push_size
abbrev nJ:=@True.intro
abbrev nL:=@List.length_nil
abbrev nM:=@List.not_mem_nil
abbrev nN:=@Nat.le_trans
abbrev nO:=@List.getElem?_append_right
abbrev nP:=@List.cons_append
abbrev nQ:=@List.getElem?_append_left
abbrev nR:=@Nat.ne_of_lt
abbrev nS:=@List.drop_drop
abbrev nU:=@Option.some.inj
abbrev nV:=@List.mem_append_right
abbrev nW:=@List.mem_of_getElem?
abbrev nX:=@PySem.F.plainAttrs_list
abbrev nY:=@List.length_take
abbrev nZ:=@List.lookup_cons
abbrev pA:=@List.replicate_succ
abbrev pB:=@List.eq_nil_of_length_eq_zero
abbrev pE:=@List.nodup_cons
abbrev pG:=@List.mem_append
abbrev pH:=@PySem.F.slot_list_append
abbrev pJ:=@decide_eq_decide
abbrev pK:=@wpAny_holding
abbrev pL:=@List.map_append
abbrev pM:=@List.getElem?_map
abbrev pO:=@Nat.succ_pos
abbrev pP:=@PySem.F.type_list_append
abbrev pQ:=@List.cons_ne_nil
abbrev pR:=@Or.inl
abbrev pT:=@PySem.F.plainAttrs_str
abbrev pU:=@wpAny_mono
abbrev pV:=@List.map_nil
abbrev pW:=@Nat.zero_le
abbrev pX:=@List.all_eq_true
abbrev pY:=@List.getElem?_eq_getElem
abbrev pZ:=@or_false
abbrev rC:=@wpAny_field
abbrev rD:=@wpAny_Call_Name_kw
abbrev rE:=@List.getElem?_cons_zero
abbrev rF:=@Nat.lt_irrefl
abbrev rG:=@List.exists_cons_of_ne_nil
abbrev rH:=@Array.getElem?_eq_some_iff
abbrev rJ:=@List.take_of_length_le
abbrev rK:=@Int.toNat_natCast
abbrev rM:=@wpAny_truthy_bool
abbrev rN:=@List.filterMap_cons
abbrev rP:=@PySem.mem_of_lookup
abbrev rQ:=@codeAny_mono
abbrev rV:=@List.getElem?_drop
abbrev rW:=@beq_eq_false_iff_ne
abbrev rX:=@List.takeWhile_cons
abbrev rY:=@Nat.zero_add
abbrev rZ:=@List.getD_eq_getElem?_getD
abbrev sA:=@List.drop_zero
abbrev sB:=@List.length_singleton
abbrev sC:=@PySem.F.slot_str_find
abbrev sD:=@PySem.F.type_str_find
abbrev sE:=@List.mem_replicate
abbrev sF:=@List.drop_eq_getElem_cons
abbrev sG:=@Array.getElem?_setIfInBounds_ne
abbrev sH:=@List.mem_append_left
abbrev sI:=@wpAny_call
abbrev sJ:=@wpAny_getItem_str_slice
abbrev sK:=@List.getElem?_cons_succ
abbrev sL:=@decide_eq_false_iff_not
abbrev sM:=@List.mem_map_of_mem
abbrev sN:=@wpAny_setField
abbrev sO:=@Nat.lt_succ_self
abbrev sP:=@List.drop_take
abbrev sQ:=@List.take_length
abbrev sR:=@wpAny_typeOf_ref
abbrev sS:=@Bool.false_eq_true
abbrev sT:=@W.kia_one
abbrev sU:=@List.mem_map
abbrev sV:=@wpAny_passesOwn
abbrev sW:=@if_false
abbrev sX:=@wpAny_standAt
abbrev sY:=@decide_eq_true_eq
abbrev sZ:=@Heap.get?_none_of_le
abbrev tD:=@typeIs_str
abbrev tE:=@Heap.size_push
abbrev tF:=@List.drop_left
abbrev tG:=@List.take_left
abbrev tH:=@List.getElem?_take_of_lt
abbrev tI:=@beq_self_eq_true
abbrev tJ:=@List.take_succ_cons
abbrev tK:=@wpAny_callSpecial?_slot
abbrev tL:=@Int.eq_ofNat_of_zero_le
abbrev tM:=@wpAny_attempt
abbrev tO:=@if_true
abbrev tP:=@Bool.false_or
abbrev tQ:=@Bool.eq_iff_iff
abbrev tR:=@call_meets
abbrev tS:=@List.find?_cons
abbrev tT:=@Int.emod_nonneg
abbrev tU:=@Int.emod_lt_of_pos
abbrev tV:=@List.contains_cons
abbrev tW:=@Nat.le_succ
abbrev tX:=@List.flatten_cons
abbrev tY:=@of_decide_eq_true
abbrev tZ:=@Heap.get?_update_self
abbrev aA:=@Bool.false_and
abbrev aB:=@Array.getElem?_toList
abbrev aD:=@Bool.or_true
abbrev aE:=@Nat.sub_self
abbrev aF:=@wpAny_call_entry
abbrev aG:=@codeAny_call_builtin
abbrev aH:=@Nat.pow_le_pow_right
abbrev aI:=@List.mem_of_mem_take
abbrev aJ:=@Array.getElem?_setIfInBounds_self_of_lt
abbrev aK:=@List.replicate_zero
abbrev aL:=@List.length_reverse
abbrev aM:=@wpAny_execs_nil
abbrev aN:=@Nat.le_add_left
abbrev aO:=@List.getLast?_eq_getElem?
abbrev aP:=@Nat.ne_of_gt
abbrev aQ:=@Calls.spliced_cons
abbrev aR:=@Bool.true_or
abbrev aS:=@Txt.slice_le
abbrev aT:=@List.all_map
abbrev aU:=@List.set_cons_zero
abbrev aV:=@List.set_cons_succ
abbrev aW:=@beq_iff_eq
abbrev aX:=@Bool.and_false
abbrev aY:=@wpAny_newObj_type
abbrev aZ:=@Nat.le_succ_of_le
abbrev bA:=@Calls.callWith_builtin
abbrev bB:=@List.drop_eq_nil_of_le
abbrev bC:=@List.find?_cons_of_neg
abbrev bD:=@Bool.or_false
abbrev bE:=@List.any_cons
abbrev bF:=@Bool.not_true
abbrev bG:=@wpAny_isInstance
abbrev bH:=@Bool.and_eq_true
abbrev bI:=@Nat.min_eq_right
abbrev bJ:=@Nat.le_add_right
abbrev bK:=@Option.join_some
abbrev bL:=@Option.join_none
abbrev bM:=@Nat.le_of_ble_eq_true
abbrev bN:=@List.take_append_drop
abbrev bO:=@plainObj_wpAny_Assign_Attribute
abbrev bP:=@F.slot_str_ascii_iterator_next
abbrev bQ:=@List.getElem?_set_ne
abbrev bR:=@List.of_mem_zip
abbrev bS:=@PyProof.Rows.callWith_builtin1
abbrev bT:=@List.foldl_cons
abbrev bU:=@Bool.or_eq_true
abbrev bV:=@Nat.min_eq_left
abbrev bW:=@post_val_or_str
abbrev bX:=@Nat.mul_le_mul_right
abbrev bY:=@F.excBase_ValueError
abbrev bZ:=@exists_eq_left'
abbrev cA:=@not_or
abbrev cB:=@List.mem_of_mem_drop
abbrev cC:=@Array.length_toList
abbrev cD:=@length_partsBetween
abbrev cE:=@List.flatMap_append
abbrev cF:=@List.length_pos_iff
abbrev cG:=@isSubtype_stop
abbrev cH:=@wpAny_nameGoes
abbrev cI:=@wpAny_Constant_int
abbrev cJ:=@Calls.Constant_str
abbrev cK:=@PyProof.Rows.callWith_type1
abbrev cL:=@tupleKind_room_in1
abbrev cM:=@List.pairwise_cons
abbrev cN:=@F.args_str_split_2
abbrev cO:=@Nat.add_sub_cancel
abbrev cP:=@PySem.W.callWith_K
abbrev cQ:=@decide_eq_true_iff
abbrev cR:=@List.all_cons
abbrev cS:=@List.take_nil
abbrev cT:=@F.entry_str_split
abbrev cU:=@List.flatMap_cons
abbrev cV:=@wpAny_execs_cons
abbrev cW:=@List.getElem_mem
abbrev cX:=@List.map_map
abbrev cY:=@List.drop_length
abbrev cZ:=@F.slot_str_split
abbrev dA:=@Option.bind_some
abbrev dB:=@Int.zero_add
abbrev dC:=@List.mem_filter
abbrev dD:=@Nat.not_lt_zero
abbrev dE:=@Int.natCast_add
abbrev dF:=@List.drop_left'
def Hn(A:Around)(h:Heap):Prop:=∀v,A.handled=some v->∃x o C vs,v= .ref x/\h.get? x=some o/\o.cls= .ref C/\o.data= .fields vs/\vs[2]? =some Value.none
theorem Hn.kept{A:Around}{h h':Heap}(n:Hn A h)(k:∀b o C,o.cls= .ref C->h.get? b=some o->h'.get? b=some o):Hn A h':=λv e=>by
 obtain⟨x,o,C,vs,a,b,c,d⟩:=n v e;exact⟨x,o,C,vs,a,k x o C c b,c,d⟩
theorem Hn.keeps{A:Around}{h h':Heap}(n:Hn A h)(k:∀b o,h.get? b=some o->h'.get? b=some o):Hn A h':=n.kept λb o _ _=>k b o
theorem Hn.ext{A:Around}{h h':Heap}{it:Addr}{oi:Obj}{T:String}(n:Hn A h)(hi:h.get? it=some oi)(hT:oi.cls= .type T)(k:∀b o,b≠it->h.get? b=some o->h'.get? b=some o):Hn A h':=
 n.kept λb o C c e=>k b o (λz=>by subst z;rw[hi] at e;cases e;rw[hT] at c;cases c) e
theorem zCt:entryFor table "proto.unchain" =some Builtin.«proto.unchain»:=entryFor_of_fast (by kernel_rfl)
section
variable{prog:Program}{w:World}{A:Around}{E:Value->Shared->Prop}{s:Shared}{e:Addr}{oe:Obj}{ve:Array Value}
theorem zVe{α:Type}{Q:α->Shared->Prop}{T:String}(hn:Hn A s.heap)(e1:s.heap.get? e=some oe)(hT:oe.cls= .type T)(e2:oe.data= .fields ve)(hs:2<ve.size)
  (q:∀h' vs',(∀b o,b≠e->s.heap.get? b=some o->h'.get? b=some o)->(∀b,s.heap.get? b=none->h'.get? b=none)->h'.get? e=some {oe with data:=.fields vs'}->(vs'=ve\/∃c,vs'=ve.setIfInBounds 2 c)->E (.ref e) {s with heap:=h'}):wpAny (model prog w) A (raiseNew (.ref e):Sem α) Q E s:=by
 unfold raiseNew;refine mD (wpAny_handled ?_)
 cases hh:A.handled with
 | none=>exact mD (mQ (wpAny_throw (q s.heap ve (λ_ _ _ z=>z) (λ_ z=>z) (by rw[e1,<-e2]) (.inl rfl))))
 | some v=>
  obtain⟨x,o,C,vs,rfl,h1,h2,h3,h4⟩:=hn v hh;have ne:x≠e:=λz=>by subst z;rw[e1] at h1;cases h1;rw[hT] at h2;cases h2
  dsimp only;rw[mL (by
   refine bne_iff_ne.mpr λz=>ne ?_;cases z;rfl)]
  refine mD (pK (runValue_entry zCt ?_));unfold Builtin.«proto.unchain»;dsimp only;refine mD (rC h1 h3 h4 ?_);rw[mL (by rfl)];refine mQ ⟨_,rfl, ?_⟩;refine mD (sN e1 e2 hs ?_);refine wpAny_throw (q _ (ve.setIfInBounds 2 (.ref x)) (λb o hb z=>(mZ _ _ (Ne.symm hb)).trans z) (λb z=>?_) ?_ (.inr ⟨_,rfl⟩))
  ·by_cases hb:b=e
   ·subst hb;rw[e1] at z;cases z
   ·exact(mZ _ _ (Ne.symm hb)).trans z
  ·have:(Obj.mapFields (λxs=>xs.setIfInBounds 2 (.ref x)) oe)={oe with data:=.fields (ve.setIfInBounds 2 (.ref x))}:=by
    cases oe;cases e2;rfl
   rw[<-this];exact tZ _ e1 (by rw[this];rfl)
theorem uV{α:Type}{Q:α->Shared->Prop}{R:Value->Shared->Prop}(hn:Hn A s.heap)
  (hR:∀e h',(∀b o,s.heap.get? b=some o->h'.get? b=some o)->(∃oe,h'.get? e=some oe/\oe.cls= .type "StopIteration")->R (.ref e) {s with heap:=h'}):
  wpAny (model prog w) A (do let e <-PySem.newExc (.type "StopIteration") [];raiseNew e:Sem α) Q R s:=by
 refine mD ?_;simp only[PySem.newExc,newTuple];refine mD (aY ?_ (by size_fits));refine mD (m:=firstArgMember _ _) (wpAny_of_eq (a:=Value.none) (by first | rfl |(simp only[firstArgMember];rfl)) ?_)
 refine aY ?_ (by size_fits);refine zVe ?_ (nI _ rfl) rfl rfl (by simp;lia) λh' vs' k1 _ k2 _=>?_
 ·exact hn.keeps λb o e=>mI _ (mI _ e)
 ·refine hR _ h' (λb ob e=>?_) ⟨_,k2,rfl⟩
  have e1:=mI {cls:=.type "tuple",data:=.seq ([]:List Value).toArray} e;exact k1 b ob (nR (mW e1)) (mI _ e1)
theorem zTb{α:Type}{it:Addr}{o:Obj}{v:Value}{k:Nat}{vs:Array Value}{Ti:String}{Q:α->Shared->Prop}{R:Value->Shared->Prop}(hn:Hn A s.heap)(ho:s.heap.get? it=some o)(hc:o.cls= .type Ti)(hd:o.data= .fields vs)(hk:k<vs.size)
  (hR:∀e h',Heap.ExtBut it s.heap h'->(∃oe,h'.get? e=some oe/\oe.cls= .type "StopIteration")->R (.ref e) {s with heap:=h'}):
  wpAny (model prog w) A (do setField (.ref it) k v;let e <-PySem.newExc (.type "StopIteration") [];raiseNew e:Sem α) Q R s:=by
 refine mD (sN ho hd hk ?_);exact uV (hn.ext ho hc λb o hb e=>(mZ _ _ (Ne.symm hb)).trans e) λe h' k1 k2=>hR e h' (λb ob hb e=>k1 b ob ((mZ _ _ (Ne.symm hb)).trans e)) k2
theorem zCm{it l:Addr}{i:Nat}{items:Array Value}{Q:Option Value->Shared->Prop}(hn:Hn A s.heap)(hit:s.heap.IsListIter it l i)(hl:s.heap.IsList l items)(hx:items[i]? =none)
  (hQ:∀h',Heap.ExtBut it s.heap h'->Q none {s with heap:=h'}):wpAny (model prog w) A (pyNext (.ref it)) Q E s:=by
 obtain⟨o,ho,hc,hd⟩:=id hit;obtain⟨ol,hol,_,nl,hdl⟩:=hl;unfold pyNext;refine mD (tM (tK (name:=Str.ofString "__next__") hit.typeIs slot_listiter_next
  (aF slot_listiter_next hit.typeIs entry_listiter_next ?_ (args_listiter_next _))))
 show wpAny _ _ (field (.ref it) 0>>=_) _ _ s;refine mD (rC ho hd (x:=.ref l) rfl ?_);show wpAny _ _ (if(Value.ref l==Value.none)=true then _ else _) _ _ s;rw[mG (show¬((Value.ref l==Value.none)=true) from mO)];show wpAny _ _ (field (.ref it) 1>>=_) _ _ s;refine mD (rC ho hd (x:=.int i 0) rfl ?_);show wpAny _ _ (seqItems? (.ref l)>>=_) _ _ s;refine mD (wpAny_seqItems hol hdl ?_);simp only[rK,hx];refine mD (wpAny_rule (zTb (A:=A.in1) hn ho hc hd (by simp) λe h' k z_=>?_));obtain⟨oe,he,hT⟩:=z_;refine mD (bG (T:="StopIteration") (b:=true) ⟨oe,he,hT⟩ cG ?_);exact mQ (hQ _ k)
theorem zIh{it t:Addr}{i:Nat}{items:Array Value}{Q:Option Value->Shared->Prop}(hn:Hn A s.heap)(hit:IsTupIter s.heap it t i)(ht:IsTup s.heap t items)(hx:items[i]? =none)
  (hQ:∀h',Heap.ExtBut it s.heap h'->Q none {s with heap:=h'}):wpAny (model prog w) A (pyNext (.ref it)) Q E s:=by
 obtain⟨o,ho,hc,hd⟩:=id hit;obtain⟨ol,hol,_,nl,hdl⟩:=ht;unfold pyNext;refine mD (tM (tK (name:=Str.ofString "__next__") hit.typeIs slot_tupleiter_next
  (aF slot_tupleiter_next hit.typeIs entry_tupleiter_next ?_ (args_tupleiter_next _))))
 show wpAny _ _ (field (.ref it) 0>>=_) _ _ s;refine mD (rC ho hd (x:=.ref t) rfl ?_);show wpAny _ _ (if(Value.ref t==Value.none)=true then _ else _) _ _ s;rw[mG (show¬((Value.ref t==Value.none)=true) from mO)];show wpAny _ _ (field (.ref it) 1>>=_) _ _ s;refine mD (rC ho hd (x:=.int i 0) rfl ?_);show wpAny _ _ (seqItems? (.ref t)>>=_) _ _ s;refine mD (wpAny_seqItems hol hdl ?_);simp only[rK,hx];refine mD (wpAny_rule (zTb (A:=A.in1) hn ho hc hd (by simp) λe h' k z_=>?_));obtain⟨oe,he,hT⟩:=z_;refine mD (bG (T:="StopIteration") (b:=true) ⟨oe,he,hT⟩ cG ?_);exact mQ (hQ _ k)
theorem zHb{it:Addr}{x:Str}{t:Tok}{i:Nat}{Q:Option Value->Shared->Prop}(hn:Hn A s.heap)
  (hit:s.heap.IsStrIter it "str_ascii_iterator" x t i) (hx:x.cps[i]? =none)
  (hQ:∀h',Heap.ExtBut it s.heap h'->Q none {s with heap:=h'}):wpAny (model prog w) A (pyNext (.ref it)) Q E s:=by
 obtain⟨o,ho,hc,hd⟩:=id hit;unfold pyNext;refine mD (tM (tK (name:=Str.ofString "__next__") hit.typeIs bP
  (aF bP hit.typeIs F.entry_str_ascii_iterator_next ?_ (F.args_str_ascii_iterator_next_1 _))))
 show wpAny _ _ (field (.ref it) 0>>=_) _ _ s;refine mD (rC ho hd (x:=.str x t) rfl ?_);show wpAny _ _ (field (.ref it) 1>>=_) _ _ s;refine mD (rC ho hd (x:=.int i 0) rfl ?_);simp only[rK,hx];refine mD (wpAny_rule (mD (sN ho hd (by simp) (mD (wpAny_letGo ?_)))));refine uV (A:=A.in1) ?_ λe h' k ⟨oe,he,hT⟩=>?_
 ·exact hn.ext ho hc λb o hb e=>(mZ _ _ (Ne.symm hb)).trans e
 refine mD (bG (T:="StopIteration") (b:=true) ⟨oe,he,hT⟩ cG ?_);exact mQ (hQ _ λb ob hb e=>k b ob ((mZ _ _ (Ne.symm hb)).trans e))
theorem zJy{it:Addr}{x:Str}{t:Tok}{i:Nat}{Q:Option Value->Shared->Prop}(hn:Hn A s.heap)
  (hit:s.heap.IsStrIter it "str_iterator" x t i) (hx:x.cps[i]? =none)
  (hQ:∀h',Heap.ExtBut it s.heap h'->Q none {s with heap:=h'}):wpAny (model prog w) A (pyNext (.ref it)) Q E s:=by
 obtain⟨o,ho,hc,hd⟩:=id hit;unfold pyNext;refine mD (tM (tK (name:=Str.ofString "__next__") hit.typeIs F.slot_str_iterator_next
  (aF F.slot_str_iterator_next hit.typeIs F.entry_str_iterator_next ?_ (F.args_str_iterator_next_1 _))))
 show wpAny _ _ (field (.ref it) 0>>=_) _ _ s;refine mD (rC ho hd (x:=.str x t) rfl ?_);show wpAny _ _ (field (.ref it) 1>>=_) _ _ s;refine mD (rC ho hd (x:=.int i 0) rfl ?_);simp only[rK,hx];refine mD (wpAny_rule (mD (sN ho hd (by simp) (mD (wpAny_letGo ?_)))));refine uV (A:=A.in1) ?_ λe h' k ⟨oe,he,hT⟩=>?_
 ·exact hn.ext ho hc λb o hb e=>(mZ _ _ (Ne.symm hb)).trans e
 refine mD (bG (T:="StopIteration") (b:=true) ⟨oe,he,hT⟩ cG ?_);exact mQ (hQ _ λb ob hb e=>k b ob ((mZ _ _ (Ne.symm hb)).trans e))
theorem zTl{t:Addr}{items:Array Value}{targets:List (Bool×(Value->Sem Unit))}{Q:Unit->Shared->Prop}(hn:Hn A s.heap)(ht:IsTup s.heap t items)(hl:targets.length=items.size)(hstar:targets.findIdx? (·.1)=none)
  (h:∀h',Heap.ExtBut s.heap.objs.size s.heap h'->wpAny (model prog w) A (assignInOrder (targets.map (·.2)) items.toList) Q E {s with heap:=h'}):
  wpAny (model prog w) A (unpack (.ref t) targets) Q E s:=by
 have hlt:t≠s.heap.objs.size:=by obtain⟨o,ho,_⟩:=ht;exact nR (mW ho)
 unfold unpack;rw[hl,hstar];refine mD (pK ?_);unfold unpackItems;refine mD ?_;unfold notIterableAtAll;refine mD (wpAny_specialOf ht.typeIs slot_tuple_iter.lookup ?_);refine mQ ?_;simp only[sS,sW];refine mD (pK (iter_tuple ht ?_));refine mD (pK (draw_tuple hlt items.size 0 _ _ ⟨_,nI _ rfl,rfl,rfl⟩ (ht.push _) (by lia) λh₁ hit₁ hs₁=>?_));have hall:List.take items.size (List.drop 0 items.toList)=items.toList:=by
  rw[sA];exact rJ (by simp)
 rw[hall];rw[mG (by simp)];have ht₁:IsTup h₁ t items:=(ht.push _).extBut hs₁.extBut hlt;refine mD (pK (zIh ((hn.keeps λb o e=>mI _ e).ext (nI _ rfl) rfl hs₁.extBut) hit₁ ht₁ (by simp) λh₂ he₂=>?_));simp only[Option.isSome_none,sS,sW];exact mQ (h h₂ λb o hb e=>he₂ b o hb (hs₁.extBut b o hb (mI _ e)))
theorem zFg{x:Option Addr}(hx:∀v,A.handled=some v->∃a,x=some a/\v= .ref a)(I ax:Addr)(hne:ax≠I)(items:Array Value):
  Walks prog w A I ([I,ax]++x.toList) [I] items.size (λi v=>items[i]? =some v) (λi h=>h.IsListIter I ax i/\h.IsList ax items/\Hn A h) where
 sub:=λb hb=>by simp at hb;simp[hb]
 frame:=λ_ _ _ st hk=>⟨st.1.at λo e=>hk I (by simp) o e,st.2.1.at λo e=>hk ax (by simp) o e,λv e=>by
  obtain⟨a,rfl,rfl⟩:=hx v e;obtain⟨x,o,C,vs,z,h1,h2⟩:=st.2.2 _ e;cases z;exact⟨a,o,C,vs,rfl,hk a (by simp) o h1,h2⟩⟩
 item:=λi s Q E hi st hQ=>by
  obtain⟨o,ho,hc,hd⟩:=id st.1;refine wpAny_pyNext_list_item st.1 st.2.1 (x:=items[i]) (by simp[hi]) λh' hit' hs'=>?_;exact hQ _ h' s.toks (by simp[hi]) ⟨hit',st.2.1.extBut hs'.extBut hne,st.2.2.ext ho hc hs'.extBut⟩ λb o hb e=>hs'.extBut b o (λh=>hb (by simp[h])) e
 done:=λs Q E st hQ=>zCm st.2.2 st.1 st.2.1 (by simp) λh' he'=>hQ h' s.toks λb o hb e=>he' b o (λh=>hb (by simp[h])) e
 self:=λ_ _ _ _ st hQ=>wpAny_pyIter_listiter st.1 hQ
end
theorem zBf{prog:Program}{w:World}{A:Around}{E:Value->Shared->Prop}{s:Shared}{env:Env}{elts:List Expr}{x1}{pos:Pos}{t:Addr}{items:Array Value}{Q:Unit->Shared->Prop}(hh:Hn A s.heap)(ht:IsTup s.heap t items)
  (hn:(assignEach elts env).length=items.size) (hstar:(assignEach elts env).findIdx? (·.1)=none)
  (h:∀h',Heap.ExtBut s.heap.objs.size s.heap h'->wpAny (model prog w) A (assignInOrder ((assignEach elts env).map (·.2)) items.toList) Q E {s with heap:=h'}):
  wpAny (model prog w) A (assign (.Tuple elts x1 pos) env (.ref t)) Q E s:=by
 rw[assign_Tuple];exact mD (sX (zTl hh ht hn hstar h))
section
variable{prog:Program}{w:World}{κ:Type} [DecidableEq κ] {knd:KeyKind prog w κ} {A:Around} {E:Value->Shared->Prop} {s:Shared}
end
section
variable{prog:Program}{w:World}{κ:Type} [DecidableEq κ] {knd:KeyKind prog w κ} {A:Around} {E:Value->Shared->Prop} {s:Shared}
end
section
variable{prog:Program}{w:World}{A:Around}{E:Value->Shared->Prop}
end
abbrev Key:=Sum Int Str
def zBg:Key->Value->Bool
 | .inl k,v=>Value.isInt k v
 | .inr x,v=>Value.isStrOf x v
def keyH(w:World):Key->Int
 | .inl k=>hashInt k
 | .inr x=>hashStr w x
theorem xA:∀{k:Key}{v:Value},zBg k v=true->(∃i t,k=Sum.inl i/\v=Value.int i t)\/(∃x t,k=Sum.inr x/\v=Value.str x t)
 | .inl i,v,h=>by
  obtain⟨t,e⟩:=Value.isInt_shape (k:=i) (v:=v) h;exact .inl ⟨i,t,rfl,e⟩
 | .inr x,v,h=>by
  obtain⟨t,e⟩:=Value.isStrOf_shape (x:=x) (v:=v) h;exact .inr ⟨x,t,rfl,e⟩
theorem zMw(i:Int)(t:Tok):zBg (.inl i) (.int i t)=true:=by simp[zBg,Value.isInt]
theorem qS(x:Str)(t:Tok):zBg (.inr x) (.str x t)=true:=by simp[zBg,Value.isStrOf]
theorem zXh(a b:Int):decide ((Sum.inl a:Key)=Sum.inl b)=(a==b):=by
 by_cases e:a=b
 ·subst e;simp
 ·have h:¬(Sum.inl a:Key)=Sum.inl b:=λq=>e (Sum.inl.inj q)
  rw[mM h];exact(rW.mpr e).symm
theorem yAa(a b:Str):decide ((Sum.inr a:Key)=Sum.inr b)=decide (a=b):=by
 by_cases e:a=b
 ·subst e;simp
 ·have h:¬(Sum.inr a:Key)=Sum.inr b:=λq=>e (Sum.inr.inj q)
  rw[mM h,mM e]
theorem zYt(a:Int)(b:Str):decide ((Sum.inl a:Key)=Sum.inr b)=false:=mM (λq=>nomatch q)
theorem zYh(a:Str)(b:Int):decide ((Sum.inr a:Key)=Sum.inl b)=false:=mM (λq=>nomatch q)
def yR(prog:Program)(w:World):PySem.KeyKind prog w Key where
 is:=zBg
 hash:=keyH w
 inj:=λv a b ha hb=>by
  rcases xA ha with⟨i,t,rfl,rfl⟩|⟨x,t,rfl,rfl⟩
  ·rcases xA hb with⟨j,u,rfl,e⟩|⟨y,u,rfl,e⟩
   ·injection e with e1 _;rw[e1]
   ·exact nomatch e
  ·rcases xA hb with⟨j,u,rfl,e⟩|⟨y,u,rfl,e⟩
   ·exact nomatch e
   ·injection e with e1 _;rw[e1]
 byValue:=λk v h=>by
  rcases xA h with⟨i,t,rfl,rfl⟩|⟨x,t,rfl,rfl⟩<;>rfl
 pyHash:=λhv h=>by
  rcases xA hv with⟨i,t,rfl,rfl⟩|⟨x,t,rfl,rfl⟩
  ·exact wpAny_pyHash_int h
  ·exact wpAny_pyHash_str h
 eqBool:=λhu hv h=>by
  rcases xA hu with⟨i,t,rfl,rfl⟩|⟨x,t,rfl,rfl⟩
  ·rcases xA hv with⟨j,u,rfl,rfl⟩|⟨y,u,rfl,rfl⟩
   ·rw[zXh] at h;exact wpAny_eqBool_int h
   ·rw[zYt] at h;exact SeqAt.EqAt.int_str i t y u _ _ _ _ h
  ·rcases xA hv with⟨j,u,rfl,rfl⟩|⟨y,u,rfl,rfl⟩
   ·rw[zYh] at h;exact SeqAt.EqAt.str_int x t j u _ _ _ _ h
   ·rw[yAa] at h;exact wpAny_eqBool_str h
 «strs»:=λk x t v h=>by
  rcases xA h with⟨i,u,rfl,e⟩|⟨y,u,rfl,e⟩
  ·exact nomatch e
  ·injection e with e1 _
   subst e1;cases v<;>rfl
theorem zHe(prog:Program)(w:World)(i:Int)(t:Tok):(yR prog w).is (.inl i) (.int i t)=true:=zMw i t
theorem zIn(prog:Program)(w:World)(x:Str)(t:Tok):(yR prog w).is (.inr x) (.str x t)=true:=qS x t
inductive V where
 | non | bl (b:Bool)| int (i:Int)| str (x:Str)| byt (b:Array UInt8)| flt (b:UInt64)| ref (a:Addr)| ty (n:String)
 deriving DecidableEq
def RelV:V->Value->Prop
 | .non,u=>u=Value.none
 | .bl b,u=>u=Value.bool b
 | .int i,u=>∃t,u=Value.int i t
 | .str x,u=>∃t,u=Value.str x t
 | .byt b,u=>∃t,u=Value.bytes b t
 | .flt b,u=>∃t,u=Value.float b t
 | .ref a,u=>u=Value.ref a
 | .ty n,u=>u=Value.type n
abbrev Vals:List V->List Value->Prop:=Paired RelV
theorem Vals.length{xs:List V}{us:List Value}(r:Vals xs us):xs.length=us.length:=Paired.length r
theorem Vals.get:∀{xs:List V}{us:List Value}{i:Nat}{x:V},Vals xs us->xs[i]? =some x->∃u,us[i]? =some u/\RelV x u
 | _,_,_,_, .nil,e=>by simp at e
 | _,_,0,_, .cons r _,e=>by simp at e;subst e;exact⟨_,rfl,r⟩
 | _,_,i+1,x, .cons _ t,e=>by
  obtain⟨u,h1,h2⟩:=Vals.get (i:=i) (x:=x) t (by simpa using e);exact⟨u,by simpa using h1,h2⟩
theorem Vals.set{x:V}{u:Value}(r:RelV x u):∀{xs:List V}{us:List Value}(i:Nat),Vals xs us->Vals (xs.set i x) (us.set i u)
 | _,_,_, .nil=>.nil
 | _,_,0, .cons _ t=>.cons r t
 | _,_,i+1, .cons q t=>.cons q (Vals.set r i t)
theorem Vals.append:∀{xs ys:List V}{us ws:List Value},Vals xs us->Vals ys ws->Vals (xs++ys) (us++ws)
 | _,_,_,_, .nil,s=>s
 | _,_,_,_, .cons r t,s=>.cons r (Vals.append t s)
theorem Vals.take:∀{xs:List V}{us:List Value}(n:Nat),Vals xs us->Vals (xs.take n) (us.take n)
 | _,_,0,_=>.nil
 | _,_,_+1, .nil=>.nil
 | _,_,n+1, .cons r t=>.cons r (Vals.take n t)
theorem Vals.drop:∀{xs:List V}{us:List Value}(n:Nat),Vals xs us->Vals (xs.drop n) (us.drop n)
 | _,_,0,r=>r
 | _,_,_+1, .nil=>.nil
 | _,_,n+1, .cons _ t=>Vals.drop n t
def RelO:Option V->Option Value->Prop
 | some v,some u=>RelV v u
 | none,none=>True
 | _,_=>False
def KV{κ:Type}:List (κ×V)->List (κ×Value)->Prop:=Paired fun(p:κ×V) (q:κ×Value)=>p.1=q.1/\RelV p.2 q.2
def kV:Key->V
 | .inl i=>.int i
 | .inr x=>.str x
inductive HO where
 /-- a list -/
 | lst (xs:List V)
 /-- a tuple (never changes)-/
 | tup (xs:List V)
 /-- a dict whose keys are ints and texts;one whose keys are tuples of ints and texts (the empty one is both)-/
 | dK (kvs:List (Key×V))| dT (kvs:List (List Key×V))
 /-- a set of ints:its members,its size -/
 | set (S:Int->Bool) (n:Nat)
 /-- an instance of the class at C,its dict at dx,its attributes -/
 | ins (C dx:Addr) (fs:List (Str×V))
 /-- the dict of the instance at x -/
 | own (x:Addr)
 /-- the dict of an exception -/
 | xd (fs:List (Str×V))
 /-- a bound method,f of x -/
 | met (f x:Addr)
 /-- a range object lo,lo+1, .. below hi -/
 | rng (lo hi:Int)
 /-- a thing that is known to the object (the script;a dict while a loop walks it):read,never written while it is so -/
 | frz (o:Obj) (u:HO)
 /-- a code object's table -/
 | tbl (ps:Array Value)
 /-- any other thing,by what is true of its one object (a def of one's own:SetO a S n:=HO.ext λh=>..)-/
 | ext (φ:Heap->Prop)
abbrev Hp:=Addr->Option HO
def upd(H:Hp)(a:Addr)(o:HO):Hp:=λb=>if b=a then some o else H b
theorem zF{H:Hp}{a:Addr}{o:HO}:upd H a o a=some o:=by unfold upd;rw[mL rfl]
theorem zN{H:Hp}{a b:Addr}{o:HO}(h:b≠a):upd H a o b=H b:=by unfold upd;rw[mG h]
theorem zUr{H:Hp}{a:Addr}{o u:HO}:upd (upd H a o) a u=upd H a u:=by
 funext b;unfold upd;split<;>rfl
theorem zAi{H:Hp}{a b:Addr}{o u:HO}(h:H a=some o)(h':H b=some u)(d:o≠u):a≠b:=by
 intro e;subst e;rw[h] at h';exact d (nU h')
theorem yJ{H:Hp}{a b:Addr}{o:HO}(h:H a=some o)(h':H b=none):a≠b:=by
 intro e;subst e;rw[h] at h';cases h'
section
variable(P:Program)(w:World)
def ObjOk(H:Hp)(h:Heap)(a:Addr):HO->Prop
 | .lst xs=>xs.length<=sizeLine/\∃(its:List Value)(n:Nat),Vals xs its/\h.get? a=some {cls:=.type "list",data:=.seq its.toArray n}
 | .tup xs=>xs.length<=sizeLine/\∃its:List Value,Vals xs its/\IsTup h a its.toArray
 | .dK kvs=>kvs.length<=sizeLine/\(a==sysModules)=false/\∃vs,KV kvs vs/\h.DictOf (yR P w) a vs
 | .dT kvs=>kvs.length<=sizeLine/\(a==sysModules)=false/\∃xs:List (List Key×Addr×Value),
   Paired (fun(p:List Key×V) (q:List Key×Addr×Value)=>p.1=q.1/\H q.2.1=some (.tup (p.1.map kV))/\RelV p.2 q.2.2) kvs xs/\
   ∃o es ep,h.get? a=some o/\o.ExactDict/\o.data= .dict es ep/\es.toList=xs.map (entryOfKey (tupleKind (yR P w)))/\(xs.map (·.1)).Nodup
 | .set S n=>h.SetOf (intKind P w) a S n
 | .ins C dx fs=>H dx=some (.own a)/\fs.length<=1000/\dx≠a/\h.get? a=some (W.instObj C dx)/\
   ∃mA,h.Ns1 dx mA/\(∀f,RelO (fs.lookup f) (mA f))/\PySem.Within mA (fs.map (·.1))
 | .own _=>∃o,h.get? a=some o
 | .xd fs=>∃mA,h.Ns1 a mA/\∀f,RelO (fs.lookup f) (mA f)
 | .rng lo hi=>∃t u v,h.get? a=some {cls:=.type "range",data:=.fields #[.int lo t, .int hi u, .int 1 v]}
 | .frz o u=>h.get? a=some o/\ObjOk H h a u
 | .tbl ps=>h.get? a=some {cls:=.none,data:=.fields ps}
 | .met f x=>h.get? a=some (W.methodObj (.ref f) (.ref x))
 | .ext φ=>φ h/\(∃o,h.get? a=some o)/\∀h1 h2:Heap,φ h1->(∀o,h1.get? a=some o->h2.get? a=some o)->φ h2
def HOk(H:Hp)(h:Heap):Prop:=∀a o,H a=some o->ObjOk P w H h a o
end
section
variable{P:Program}{w:World}{H H':Hp}{h h':Heap}{a:Addr}{o:HO}
theorem ObjOk.lt(x:ObjOk P w H h a o):a<h.objs.size:=by
 cases o with
 | lst xs=>obtain⟨_,_,_,_,e⟩:=x;exact mW e
 | tup xs=>obtain⟨_,_,_,p⟩:=x;exact p.lt
 | dK kvs=>obtain⟨_,_,_,_,o,_,_,e,_⟩:=x;exact mW e
 | dT kvs=>obtain⟨_,_,_,_,o,_,_,e,_⟩:=x;exact mW e
 | set S n=>obtain⟨o,_,_,_,e,_⟩:=x;exact mW e
 | ins C dx fs=>obtain⟨_,_,_,e,_⟩:=x;exact mW e
 | own y=>obtain⟨_,e⟩:=x;exact mW e
 | xd fs=>obtain⟨_,⟨_,_,_,e,_⟩,_⟩:=x;exact mW e
 | rng lo hi=>obtain⟨_,_,_,e⟩:=x;exact mW e
 | frz ob u=>obtain⟨e,_⟩:=x;exact mW e
 | tbl ps=>exact mW (show h.get? a=some _ from x)
 | met f y=>exact mW (show h.get? a=some _ from x)
 | ext φ=>obtain⟨_,⟨_,e⟩,_⟩:=x;exact mW e
theorem Paired.mapP{α β:Type}{F G:α->β->Prop}:∀{l₁:List α}{l₂:List β},Paired F l₁ l₂->(∀a b,F a b->G a b)->Paired G l₁ l₂
 | _,_, .nil,_=>.nil
 | _,_, .cons r t,f=>.cons (f _ _ r) (Paired.mapP t f)
theorem ObjOk.stay(x:ObjOk P w H h a o)(k:∀b u,(b=a\/H b=some (.own a))->h.get? b=some u->h'.get? b=some u)
  (ho:∀b,H b=some (.own a)->H' b=some (.own a)) (ht:∀b xs,H b=some (.tup xs)->H' b=some (.tup xs)):ObjOk P w H' h' a o:=by
 induction o with
 | lst xs=>obtain⟨z,its,n,r,e⟩:=x;exact⟨z,its,n,r,k _ _ (.inl rfl) e⟩
 | tup xs=>obtain⟨z,its,r,ob,e,c⟩:=x;exact⟨z,its,r,ob,k _ _ (.inl rfl) e,c⟩
 | dK kvs=>obtain⟨z,y,vs,r,ob,es,ep,e,c⟩:=x;exact⟨z,y,vs,r,ob,es,ep,k _ _ (.inl rfl) e,c⟩
 | dT kvs=>
  obtain⟨z,y,xs,r,ob,es,ep,e,c⟩:=x;exact⟨z,y,xs,Paired.mapP r λp q z=>⟨z.1,ht _ _ z.2.1,z.2.2⟩,ob,es,ep,k _ _ (.inl rfl) e,c⟩
 | set S n=>obtain⟨ob,es,ep,t,e,c⟩:=x;exact⟨ob,es,ep,t,k _ _ (.inl rfl) e,c⟩
 | ins C dx fs=>
  obtain⟨d,z,ne,e,mA,⟨od,es,ep,e2,c⟩,r⟩:=x;exact⟨ho _ d,z,ne,k _ _ (.inl rfl) e,mA,⟨od,es,ep,k _ _ (.inr d) e2,c⟩,r⟩
 | own y=>obtain⟨ob,e⟩:=x;exact⟨ob,k _ _ (.inl rfl) e⟩
 | xd fs=>obtain⟨mA,⟨od,es,ep,e,c⟩,r⟩:=x;exact⟨mA,⟨od,es,ep,k _ _ (.inl rfl) e,c⟩,r⟩
 | rng lo hi=>obtain⟨t,u,v,e⟩:=x;exact⟨t,u,v,k _ _ (.inl rfl) e⟩
 | frz ob u ih=>obtain⟨e,q⟩:=x;exact⟨k _ _ (.inl rfl) e,ih q⟩
 | tbl ps=>
  have e:h.get? a=some {cls:=.none,data:=.fields ps}:=x;show h'.get? a=some {cls:=.none,data:=.fields ps};exact k a _ (.inl rfl) e
 | met f y=>
  have e:h.get? a=some (W.methodObj (.ref f) (.ref y)):=x;show h'.get? a=some (W.methodObj (.ref f) (.ref y));exact k a _ (.inl rfl) e
 | ext φ=>obtain⟨p,⟨o,e⟩,st⟩:=x;exact⟨st _ _ p λo q=>k _ _ (.inl rfl) q,⟨o,k _ _ (.inl rfl) e⟩,st⟩
theorem HOk.lt(x:HOk P w H h)(e:H a=some o):a<h.objs.size:=(x a o e).lt
theorem HOk.fresh(x:HOk P w H h)(e:h.objs.size<=a):H a=none:=by
 cases q:H a with
 | none=>rfl
 | some u=>exact absurd (mX (x.lt q) e) (rF _)
theorem HOk.kept(x:HOk P w H h)(k:∀b u,h.get? b=some u->h'.get? b=some u):HOk P w H h':=λa o e=>
 (x a o e).stay (λb u _ q=>k b u q) (λ_ q=>q) λ_ _ q=>q
theorem HOk.laid(x:HOk P w H h)(k:∀b u,h.get? b=some u->h'.get? b=some u)(hp:h.objs.size<=a)(new:ObjOk P w (upd H a o) h' a o):HOk P w (upd H a o) h':=λb u e=>by
 have hn:=x.fresh hp
 by_cases hb:b=a
 ·subst hb;rw[zF] at e;cases e;exact new
 ·rw[zN hb] at e
  exact(x b u e).stay (λc v _ q=>k c v q) (λc q=>by rw[zN (yJ q hn)];exact q) λc xs q=>by rw[zN (yJ q hn)];exact q
end
def Rd(H:Hp)(a:Addr)(u:HO):Prop:=H a=some u\/∃o,H a=some (.frz o u)
theorem Rd.ok{P:Program}{w:World}{H:Hp}{h:Heap}{a:Addr}{u:HO}(r:Rd H a u)(x:HOk P w H h):ObjOk P w H h a u:=by
 rcases r with r |⟨o,r⟩
 ·exact x a u r
 ·obtain⟨_,q⟩:=x a _ r
  exact q
def Mut:Option HO->Prop
 | some (.lst _)=>True
 | some (.dK _)=>True
 | some (.dT _)=>True
 | some (.set _ _)=>True
 | some (.ins _ _ _)=>True
 | some (.ext _)=>True
 | _=>False
section
variable{P:Program}{w:World}{H:Hp}{h h':Heap}{x e:Addr}{o':HO}
theorem HOk.write(ok:HOk P w H h)(mu:Mut (H x))(he:e=x\/H e=some (.own x))(k:∀b u,b≠e->h.get? b=some u->h'.get? b=some u)(heo:∃u,h'.get? e=some u)
  (new:ObjOk P w (upd H x o') h' x o'):HOk P w (upd H x o') h':=λb u q=>by
 have nown:∀c y,H c=some (.own y)->c≠x:=λc y r z=>by subst z;rw[r] at mu;exact mu
 have ntup:∀c xs,H c=some (.tup xs)->c≠x:=λc xs r z=>by subst z;rw[r] at mu;exact mu
 by_cases hb:b=x
 ·subst hb;rw[zF] at q;cases q;exact new
 ·rw[zN hb] at q
  by_cases hbe:b=e
  ·have q':H b=some (.own x):=by
    rcases he with z | z
    ·exact absurd (hbe.trans z) hb
    ·rw[hbe];exact z
   rw[q] at q';cases q';obtain⟨v,hv⟩:=heo;exact⟨v,by rw[hbe];exact hv⟩
  ·refine(ok b u q).stay (λc v hc r=>k c v ?_ r) (λc r=>by rw[zN (nown c b r)];exact r) λc xs r=>by rw[zN (ntup c xs r)];exact r
   rcases hc with rfl | hc
   ·exact hbe
   ·rintro rfl
    rcases he with z | z
    ·exact nown c b hc z
    ·rw[hc] at z;cases z;exact hb rfl
end
structure Un(fs ex:List Addr)(H H':Hp)(h h':Heap):Prop where
 keep:∀b o,h.get? b=some o->H b=none->b∉fs->b∉ex->h'.get? b=some o
 slot:∀b o,h.get? b=some o->H b=none->b∈fs->b∉ex->∃sl,h'.get? b=some {o with slots:=sl}
 free:∀b o,h.get? b=some o->H b=none->b∉ex->H' b=none
 there:∀b o,h.get? b=some o->b∉ex->∃o',h'.get? b=some o'
 tups:∀b xs,H b=some (.tup xs)->H' b=some (.tup xs)
 frzs:∀b o u,H b=some (.frz o u)->H' b=some (.frz o u)
 tbls:∀b ps,H b=some (.tbl ps)->∃more,H' b=some (.tbl (ps++more))
section
variable{fs fs' ex ex':List Addr}{H H1 H2:Hp}{h h1 h2 h':Heap}{a x e:Addr}{o:HO}
theorem Un.any(u:Un fs ex H H1 h h1){b:Addr}{ob:Obj}(q:h.get? b=some ob)(n:H b=none)(hx:b∉ex):∃sl,h1.get? b=some {ob with slots:=sl}:=by
 by_cases hb:b∈fs
 ·exact u.slot b ob q n hb hx
 ·exact⟨ob.slots,u.keep b ob q n hb hx⟩
theorem Un.kept(k:∀b u,h.get? b=some u->h'.get? b=some u):Un fs ex H H h h':=
 ⟨λb ob q _ _ _=>k b ob q,λb ob q _ _ _=>⟨ob.slots,k b ob q⟩,λ_ _ _ n _=>n,λb ob q _=>⟨ob,k b ob q⟩,λ_ _ q=>q,λ_ _ _ q=>q,λ_ ps q=>⟨#[],by rw[q];simp⟩⟩
theorem Un.refl:Un fs ex H H h h:=Un.kept λ_ _ q=>q
theorem Un.laid(k:∀b u,h.get? b=some u->h'.get? b=some u)(hp:h.objs.size<=a)(hn:H a=none):Un fs ex H (upd H a o) h h' where
 keep:=λb u q _ _ _=>k b u q
 slot:=λb u q _ _ _=>⟨u.slots,k b u q⟩
 free:=λb u q n _=>by rw[zN (nR (mX (mW q) hp))];exact n
 there:=λb u q _=>⟨u,k b u q⟩
 tups:=λb xs q=>by rw[zN (yJ q hn)];exact q
 frzs:=λb u xs q=>by rw[zN (yJ q hn)];exact q
 tbls:=λb ps q=>⟨#[],by rw[zN (yJ q hn),q];simp⟩
theorem Un.write(mu:Mut (H x))(he:e=x\/H e=some (.own x))(k:∀b u,b≠e->h.get? b=some u->h'.get? b=some u)(heo:∃u,h'.get? e=some u):Un fs ex H (upd H x o) h h':=by
 have hx:∀b,H b=none->b≠x:=λb n z=>by subst z;rw[n] at mu;exact mu
 have hb:∀b,H b=none->b≠e:=λb n z=>by
  subst z;rcases he with r | r
  ·exact hx b n r
  ·rw[n] at r;cases r
 have hm:∀b u,H b=some u->¬Mut (some u)->b≠x:=λb u q nm z=>by subst z;rw[q] at mu;exact nm mu
 refine⟨λb u q n _ _=>k b u (hb b n) q,λb u q n _ _=>⟨u.slots,k b u (hb b n) q⟩,λb u q n _=>by rw[zN (hx b n)];exact n,λb u q _=>?_,
  λb xs q=>by rw[zN (hm b _ q λz=>z)];exact q,λb u xs q=>by rw[zN (hm b _ q λz=>z)];exact q,λb ps q=>⟨#[],by rw[zN (hm b _ q λz=>z),q];simp⟩⟩
 by_cases hbe:b=e
 ·subst hbe;exact heo
 ·exact⟨u,k b u hbe q⟩
end
def trk(h:Heap)(H:Hp):List Addr:=(List.range h.objs.size).filter λa=>(H a).isSome
def zFy(h:Heap)(H:Hp):Heap:=W.hideAll h (trk h H)
theorem zNs(h:Heap)(H:Hp):(zFy h H).objs.size=h.objs.size:=W.hideAll_size _ _
theorem zQl{h:Heap}{H:Hp}{b:Addr}{o:Obj}(e:h.get? b=some o)(n:H b=none):(zFy h H).get? b=some o:=
 W.hideAll_get _ e λhm=>by
  have q:(H b).isSome=true:=(dC.mp hm).2;rw[n] at q;simp at q
theorem zVq{h:Heap}{H:Hp}{b:Addr}{o:Obj}(e:(zFy h H).get? b=some o):h.get? b=some o/\H b=none:=by
 have e':h.get? b=some o:=W.of_hideAll (trk h H) e;refine⟨e', ?_⟩
 cases q:H b with
 | none=>rfl
 | some x=>
  have hm:b∈trk h H:=dC.mpr ⟨List.mem_range.mpr (mW e'),by simp[q]⟩;have z:(zFy h H).get? b=none:=W.hideAll_none (trk h H) hm;rw[z] at e;cases e
def zWc(g h:Heap)(L:Addr):List (Addr×Obj):=(List.range h.objs.size).filterMap λa=>if a=L\/(g.get? a).isSome=true then none else(h.get? a).map λo=>(a,o)
def rest(g h:Heap)(L d:Addr):List (Addr×Obj):=(zWc g h L).filter λp=>decide (p.1≠d)
structure Mod(K:W.Frag)(mg:Str->Option Value)(base:Heap):Prop where
 kin:K.In base
 glob:base.Ns mainGlobals mg
 blt:∃mb,base.Ns builtinsNs mb/\∀x:Str,x≠ "__name__"->mb x=bootBuiltins x
 nolimit:base.NoLimit
structure Cx where
 prog:Program
 w:World
 K:W.Frag
 mg:Str->Option Value
 base:Heap
 A:Around
 N:List Str
 s₀:Shared
 H₀:Hp
 env:Env
 outer:List Env
 stack:List Env
 ex:List Addr
 fn:Str->Bool
 calm:Bool
 cool:Bool
 pn:List (Addr×Obj)
 xe:Value->Shared->Prop
def frs(l:List Env):List Addr:=l.filterMap (·.frame)
abbrev Cx.fs(X:Cx):List Addr:=frs X.outer
def Vis(sc:Scope)(x:Str):Prop:=sc.names.lookup x=some .local\/sc.names.lookup x=some .cell\/sc.names.lookup x=some .free
def Loc(sc:Scope)(x:Str):Prop:=sc.names.lookup x=some .local\/sc.names.lookup x=some .cell
def Look(env:Env)(h:Heap)(m:Str->Option Value)(x:Str)(u:Value):Prop:=
 (env.kindOf x=some .local/\m x=some u)\/((env.kindOf x=some .cell\/env.kindOf x=some .free)/\∃c,env.cells.lookup x=some c/\h.IsCell c (some u))
def Cx.heat(X:Cx):Bool->Bool
 | true=>X.cool
 | false=>X.calm
def HnAt(A:Around)(h:Heap)(H:Hp)(fs ex:List Addr):Prop:=∀v,A.handled=some v->∃x o C vs,v= .ref x/\h.get? x=some o/\o.cls= .ref C/\o.data= .fields vs/\vs[2]? =some Value.none/\((H x=none/\x∉fs/\x∉ex)\/∃u,H x=some (.frz o u))
theorem HnAt.none{A:Around}{h:Heap}{H:Hp}{fs ex:List Addr}(hh:A.handled=none):HnAt A h H fs ex:=λv e=>by rw[hh] at e;cases e
theorem HnAt.hn{A:Around}{h:Heap}{H:Hp}{fs ex:List Addr}(n:HnAt A h H fs ex):Hn A h:=λv e=>by
 obtain⟨x,o,C,vs,a,b,c,d,f,_⟩:=n v e;exact⟨x,o,C,vs,a,b,c,d,f⟩
structure Cx.Ok(X:Cx):Prop where
 mod:Mod X.K X.mg X.base
 kind:X.env.scope.kind= .function
 glob:X.env.globals=mainGlobals
 blt:X.env.builtins=builtinsNs
 above:X.s₀.heap.objs.size<=X.env.locals
 inj:∀x y c,X.env.cells.lookup x=some c->X.env.cells.lookup y=some c->x=y
 has:∀x,(X.env.kindOf x=some .cell\/X.env.kindOf x=some .free)->∃c,X.env.cells.lookup x=some c
 cab:∀x c,X.fn x=true->X.env.cells.lookup x=some c->X.s₀.heap.objs.size<=c
 hd:(X.calm=true->X.A.handled=none)/\(X.cool=true->HnAt X.A X.s₀.heap X.H₀ X.fs X.ex)
 frames:X.A.frames=some X.stack
 stk:X.stack=X.outer\/(X.stack=X.env::X.outer/\X.env.frame=some X.env.locals)
 exf:∀b∈X.ex,b≠X.env.locals/\∀x c,X.env.cells.lookup x=some c->c≠b
 bs:∀b o,X.base.get? b=some o->X.s₀.heap.get? b=some o/\X.H₀ b=none
 bsz:X.base.objs.size<=X.s₀.heap.objs.size
 noex:∀b o,X.base.get? b=some o->b∉X.ex
 exfs:∀b∈X.ex,b∉X.fs
 funs:X.s₀.heap.FunFrames X.base X.outer
 frf:∀b∈X.fs,X.H₀ b=none
structure Inv(X:Cx)(pins:List (Addr×Obj))(σ:List (Option V))(H:Hp)(s:Shared):Prop where
 ok:X.Ok
 os:s.os=X.s₀.os
 bare:AllBare s.gens
 base:Un X.fs X.ex X.H₀ H X.s₀.heap s.heap
 loc:∃m,s.heap.Ns X.env.locals m/\∀(i:Nat)(x:Str)(v:V),X.N[i]? =some x->σ[i]? =some (some v)->Vis X.env.scope x->∃u,RelV v u/\Look X.env s.heap m x u
 cell:∀x c,X.env.cells.lookup x=some c->∃v,s.heap.IsCell c v
 free:H X.env.locals=none
 freeC:∀x c,X.env.cells.lookup x=some c->H c=none
 pin:∀p∈X.pn++pins,s.heap.get? p.1=some p.2/\H p.1=none/\p.1≠X.env.locals/\p.1∉X.fs/\∀v,p.2.data≠ .cell v
 hok:HOk X.prog X.w H s.heap
 len:σ.length=X.N.length
section
variable{X:Cx}{pins:List (Addr×Obj)}{σ:List (Option V)}{H H':Hp}{s:Shared}{h':Heap}
theorem Inv.hnAt(I:Inv X pins σ H s)(hc:X.cool=true):HnAt X.A s.heap H X.fs X.ex:=λv e=>by
 obtain⟨x,o,C,vs,a,h1,h2,h3,h4,⟨h5,h6,h7⟩|⟨u,h5⟩⟩:=I.ok.hd.2 hc v e
 ·exact⟨x,o,C,vs,a,I.base.keep x o h1 h5 h6 h7,h2,h3,h4, .inl ⟨I.base.free x o h1 h5 h7,h6,h7⟩⟩
 ·have z:=I.base.frzs x o u h5
  exact⟨x,o,C,vs,a,(I.hok x _ z).1,h2,h3,h4, .inr ⟨u,z⟩⟩
theorem Inv.hn(I:Inv X pins σ H s)(hc:X.cool=true):Hn X.A s.heap:=(I.hnAt hc).hn
theorem Cx.Ok.nofr(ok:X.Ok){b:Addr}{o:Obj}(e:X.base.get? b=some o):b∉X.fs:=λhb=>by
 have:=(ok.funs.mem hb).1;rw[e] at this;cases this
theorem Inv.bs(I:Inv X pins σ H s):∀b o,X.base.get? b=some o->s.heap.get? b=some o/\H b=none:=λb o e=>
 ⟨I.base.keep b o (I.ok.bs b o e).1 (I.ok.bs b o e).2 (I.ok.nofr e) (I.ok.noex b o e),I.base.free b o (I.ok.bs b o e).1 (I.ok.bs b o e).2 (I.ok.noex b o e)⟩
theorem Inv.bk(I:Inv X pins σ H s):∀b o,X.base.get? b=some o->s.heap.get? b=some o:=λb o e=>(I.bs b o e).1
theorem Inv.mod(I:Inv X pins σ H s):Mod X.K X.mg X.base:=I.ok.mod
theorem Inv.kIn(I:Inv X pins σ H s):X.K.In s.heap:=I.ok.mod.kin.keeps I.bk
theorem Inv.lt(I:Inv X pins σ H s):X.env.locals<s.heap.objs.size:=let ⟨_,hn,_⟩:=I.loc;hn.lt
theorem Inv.sz(I:Inv X pins σ H s):X.s₀.heap.objs.size<=s.heap.objs.size:=nN I.ok.above (Nat.le_of_lt I.lt)
theorem Inv.nofs(I:Inv X pins σ H s){a:Addr}(h:s.heap.objs.size<=a):a∉X.fs:=λhb=>by
 obtain⟨_,o,ho,_⟩:=I.ok.funs.mem hb;exact absurd (mX (mW ho) (nN I.sz h)) (rF _)
theorem Inv.cne(I:Inv X pins σ H s):∀x c,X.env.cells.lookup x=some c->c≠X.env.locals:=λx c e z=>by
 obtain⟨v,o,ho,hd⟩:=I.cell x c e;obtain⟨m,⟨o',es,ep,ho',hd',_⟩,_⟩:=I.loc;rw[z,ho'] at ho;cases ho;rw[hd'] at hd;cases hd
theorem Inv.funs(I:Inv X pins σ H s):s.heap.FunFrames X.base X.outer:=by
 have all:∀(l:List Env),(∀b∈frs l,b∈X.fs)->X.s₀.heap.FunFrames X.base l->s.heap.FunFrames X.base l:=by
  intro l
  induction l with
  | nil=>intro _ _;trivial
  | cons env r ih=>
   intro hs hl;obtain⟨hk,⟨L,o,hf,hn,ho,hd⟩,hr⟩:=hl;have hL:L∈X.fs:=hs L (by unfold frs;rw[rN,hf];exact mH);obtain⟨sl,e⟩:=I.base.slot L o ho (I.ok.frf L hL) hL λz=>I.ok.exfs L z hL;exact⟨hk,⟨L,_,hf,hn,e,hd⟩,ih (λb hb=>hs b (by unfold frs;rw[rN,hf];exact mR _ hb)) hr⟩
 exact all X.outer (λ_ hb=>hb) I.ok.funs
theorem Inv.stack(I:Inv X pins σ H s):s.heap.FunFrames X.base X.stack:=by
 rcases I.ok.stk with e |⟨e,hf⟩
 ·rw[e];exact I.funs
 ·rw[e]
  obtain⟨m,hn,_⟩:=I.loc;refine .cons (by rw[I.ok.kind];decide) hf hn ?_ I.funs;exact sZ (nN I.ok.bsz I.ok.above)
theorem Inv.stkSub(I:Inv X pins σ H s):∀b∈frs X.stack,b∈X.env.locals::X.fs:=λb hb=>by
 rcases I.ok.stk with e |⟨e,hf⟩
 ·rw[e] at hb;exact mR _ hb
 ·rw[e] at hb
  unfold frs at hb;rw[rN,hf] at hb;exact hb
theorem Inv.stkFree(I:Inv X pins σ H s):∀b∈frs X.stack,H b=none:=λb hb=>by
 rcases mF.mp (I.stkSub b hb) with e | hb
 ·rw[e];exact I.free
 ·obtain⟨_,o,ho,_⟩:=I.ok.funs.mem hb
  exact I.base.free b o ho (I.ok.frf b hb) λz=>I.ok.exfs b z hb
theorem Inv.step{g':Array GenState}{t':Nat}{d':Drawn}{ch:List Addr}(I:Inv X pins σ H s)
  (hch:∀b∈ch,(b∈X.ex\/X.s₀.heap.objs.size<=b)/\b≠X.env.locals/\(∀x c,X.env.cells.lookup x=some c->c≠b)/\∀p∈X.pn++pins,p.1≠b)
  (keep:∀b o,b≠X.env.locals->b∉X.fs->b∉ch->s.heap.get? b=some o->H b=none->h'.get? b=some o)
  (slot:∀b o,b≠X.env.locals->b∈X.fs->b∉ch->s.heap.get? b=some o->H b=none->∃sl,h'.get? b=some {o with slots:=sl}) (free:∀b o,b∉ch->s.heap.get? b=some o->H b=none->H' b=none)
  (there:∀b o,b∉ch->s.heap.get? b=some o->∃o',h'.get? b=some o')
  (tups:∀b xs,H b=some (.tup xs)->H' b=some (.tup xs)) (frzs:∀b o u,H b=some (.frz o u)->H' b=some (.frz o u)) (tbls:∀b ps,H b=some (.tbl ps)->∃more,H' b=some (.tbl (ps++more)))
  (ns:∀m,s.heap.Ns X.env.locals m->h'.Ns X.env.locals m) (hok:HOk X.prog X.w H' h') (hg:AllBare g'):
  Inv X pins σ H' {s with heap:=h',gens:=g',drawn:=d',toks:=t'}:=by
 have neL:∀b o,X.s₀.heap.get? b=some o->b≠X.env.locals:=λb o e=>nR (mX (mW e) I.ok.above);have neC:∀b o,X.s₀.heap.get? b=some o->b∉X.ex->b∉ch:=λb o e hx hb=>by
  rcases(hch b hb).1 with z | z
  ·exact hx z
  ·exact absurd (mX (mW e) z) (rF _)
 have cellK:∀x c,X.env.cells.lookup x=some c->∀v,s.heap.IsCell c v->h'.IsCell c v:=λx c e v ⟨o,ho,hd⟩=>by
  have nch:c∉ch:=λz=>(hch c z).2.2.1 x c e rfl
  by_cases hc:c∈X.fs
  ·obtain⟨sl,q⟩:=slot c o (I.cne x c e) hc nch ho (I.freeC x c e)
   exact⟨_,q,hd⟩
  ·exact⟨o,keep c o (I.cne x c e) hc nch ho (I.freeC x c e),hd⟩
 refine⟨I.ok,I.os,hg,⟨λb o e n hb hx=>?_,λb o e n hb hx=>?_,λb o e n hx=>?_,λb o e hx=>?_,λb xs e=>tups b xs (I.base.tups b xs e),λb o xs e=>frzs b o xs (I.base.frzs b o xs e),λb ps e=>?_⟩, ?_,λx c e=>?_, ?_,λx c e=>?_,λp hp=>?_,hok,I.len⟩
 ·exact keep b o (neL b o e) hb (neC b o e hx) (I.base.keep b o e n hb hx) (I.base.free b o e n hx)
 ·obtain⟨sl,e1⟩:=I.base.slot b o e n hb hx
  obtain⟨sl',e2⟩:=slot b _ (neL b o e) hb (neC b o e hx) e1 (I.base.free b o e n hx);exact⟨sl',e2⟩
 ·obtain⟨o',e1⟩:=I.base.there b o e hx
  exact free b o' (neC b o e hx) e1 (I.base.free b o e n hx)
 ·obtain⟨o',e1⟩:=I.base.there b o e hx
  exact there b o' (neC b o e hx) e1
 ·obtain⟨m1,e1⟩:=I.base.tbls b ps e
  obtain⟨m2,e2⟩:=tbls b _ e1;exact⟨m1++m2,by rw[e2,Array.append_assoc]⟩
 ·obtain⟨m,hn,hl⟩:=I.loc
  refine⟨m,ns m hn,λi x v e1 e2 e3=>?_⟩;obtain⟨u,r,l⟩:=hl i x v e1 e2 e3;refine⟨u,r, ?_⟩;rcases l with l |⟨k,c,e,z⟩
  ·exact .inl l
  ·exact .inr ⟨k,c,e,cellK x c e _ z⟩
 ·obtain⟨v,z⟩:=I.cell x c e
  exact⟨v,cellK x c e v z⟩
 ·obtain⟨m,⟨o,_,_,ho,_⟩,_⟩:=I.loc
  exact free _ o (λz=>(hch _ z).2.1 rfl) ho I.free
 ·obtain⟨v,o,ho,hd⟩:=I.cell x c e
  exact free c o (λz=>(hch c z).2.2.1 x c e rfl) ho (I.freeC x c e)
 ·obtain⟨e,n,ne,nf,d⟩:=I.pin p hp
  have nch:p.1∉ch:=λz=>(hch p.1 z).2.2.2 p hp rfl;exact⟨keep p.1 p.2 ne nf nch e n,free p.1 p.2 nch e n,ne,nf,d⟩
theorem Inv.un{t':Nat}(I:Inv X pins σ H s)(u:Un X.fs [] H H' s.heap h')(hok:HOk X.prog X.w H' h'):Inv X pins σ H' {s with heap:=h',toks:=t'}:=by
 obtain⟨m,⟨o,es,ep,ho,r⟩,_⟩:=id I.loc;obtain⟨sl,hL⟩:=u.any ho I.free (by simp);exact I.step (g':=s.gens) (d':=s.drawn) (ch:=[]) (λ_ z=>nomatch z) (λb o _ hb _ e n=>u.keep b o e n hb (by simp)) (λb o _ hb _ e n=>u.slot b o e n hb (by simp)) (λb o _ e n=>u.free b o e n (by simp)) (λb o _ e=>u.there b o e (by simp)) u.tups u.frzs u.tbls (λm' hm=>by
  obtain⟨o',es',ep',ho',r'⟩:=hm;rw[ho] at ho';cases ho';exact⟨_,es',ep',hL,r'⟩) hok I.bare
theorem Inv.call{g':Array GenState}{t':Nat}{d':Drawn}{ch:List Addr}(I:Inv X pins σ H s)(u:Un (frs X.stack) ch H H' s.heap h')(hok:HOk X.prog X.w H' h')(hg:AllBare g')
  (hch:∀b∈ch,(b∈X.ex\/X.s₀.heap.objs.size<=b)/\b≠X.env.locals/\(∀x c,X.env.cells.lookup x=some c->c≠b)/\∀p∈X.pn++pins,p.1≠b):
  Inv X pins σ H' {s with heap:=h',gens:=g',drawn:=d',toks:=t'}:=by
 obtain⟨m,⟨o,es,ep,ho,r⟩,_⟩:=id I.loc;obtain⟨sl,hL⟩:=u.any ho I.free λz=>(hch _ z).2.1 rfl;exact I.step (ch:=ch) hch (λb o hL hb hc e n=>u.keep b o e n (λz=>(mF.mp (I.stkSub b z)).elim hL hb) hc) (λb o _ _ hc e n=>u.any e n hc) (λb o hc e n=>u.free b o e n hc) (λb o hc e=>u.there b o e hc) u.tups u.frzs u.tbls (λm' hm=>by
  obtain⟨o',es',ep',ho',r'⟩:=hm;rw[ho] at ho';cases ho';exact⟨_,es',ep',hL,r'⟩) hok hg
theorem Inv.turned{t':Nat}{it:Addr}(I:Inv X pins σ H s)(k:∀b o,b≠it->s.heap.get? b=some o->h'.get? b=some o)(hn:H it=none)(hL:it≠X.env.locals)
  (h1:it∈X.ex\/X.s₀.heap.objs.size<=it) (h2:∀x c,X.env.cells.lookup x=some c->c≠it) (h3:∀p∈X.pn++pins,p.1≠it):Inv X pins σ H {s with heap:=h',toks:=t'}:=by
 have nit:∀b u,H b=some u->b≠it:=λb u e z=>by rw[z,hn] at e;cases e
 refine I.step (g':=s.gens) (d':=s.drawn) (ch:=[it]) (λb hb=>?_) (λb o _ _ hc e _=>k b o (λz=>hc (by simp[z])) e) (λb o _ _ hc e _=>⟨o.slots,k b o (λz=>hc (by simp[z])) e⟩) (λ_ _ _ _ n=>n)
  (λb o hc e=>⟨o,k b o (λz=>hc (by simp[z])) e⟩) (λ_ _ e=>e) (λ_ _ _ e=>e) (λb ps e=>⟨#[],by rw[e];simp⟩) (λm hm=>?_) (λb u e=>?_) I.bare
 ·have e:b=it:=by simpa using hb
  subst e;exact⟨h1,hL,h2,h3⟩
 ·obtain⟨o,es,ep,ho,r⟩:=hm
  exact⟨o,es,ep,k _ o (Ne.symm hL) ho,r⟩
 ·refine(I.hok b u e).stay (λc v hc q=>k c v ?_ q) (λ_ q=>q) λ_ _ q=>q
  rcases hc with z | z
  ·rw[z];exact nit b u e
  ·exact nit c _ z
theorem Inv.tok(I:Inv X pins σ H s)(t:Nat):Inv X pins σ H {s with toks:=t}:=I.un (h':=s.heap) (t':=t) Un.refl I.hok
theorem Inv.kept{t':Nat}(I:Inv X pins σ H s)(k:∀b u,s.heap.get? b=some u->h'.get? b=some u):Inv X pins σ H {s with heap:=h',toks:=t'}:=I.un (Un.kept k) (I.hok.kept k)
theorem Inv.laid{a:Addr}{o:HO}{t':Nat}(I:Inv X pins σ H s)(k:∀b u,s.heap.get? b=some u->h'.get? b=some u)(hp:s.heap.objs.size<=a)(new:ObjOk X.prog X.w (upd H a o) h' a o):
  Inv X pins σ (upd H a o) {s with heap:=h',toks:=t'}:=I.un (Un.laid k hp (I.hok.fresh hp)) (I.hok.laid k hp new)
theorem Inv.write{x e:Addr}{o:HO}{t':Nat}(I:Inv X pins σ H s)(mu:Mut (H x))(he:e=x\/H e=some (.own x))(k:∀b u,b≠e->s.heap.get? b=some u->h'.get? b=some u)(heo:∃u,h'.get? e=some u)
  (new:ObjOk X.prog X.w (upd H x o) h' x o):Inv X pins σ (upd H x o) {s with heap:=h',toks:=t'}:=I.un (Un.write mu he k heo) (I.hok.write mu he k heo new)
theorem Inv.weak{σ':List (Option V)}(I:Inv X pins σ H s)(hl:σ'.length=σ.length)(w:∀(i:Nat) v,σ'[i]? =some (some v)->σ[i]? =some (some v)):Inv X pins σ' H s:=
 ⟨I.ok,I.os,I.bare,I.base,let ⟨m,hn,hl'⟩:=I.loc;⟨m,hn,λi x v e1 e2 e3=>hl' i x v e1 (w i v e2) e3⟩,I.cell,I.free,I.freeC,I.pin,I.hok,hl.trans I.len⟩
theorem Inv.pins_of{pins':List (Addr×Obj)}(I:Inv X pins σ H s)(h:∀p∈pins',s.heap.get? p.1=some p.2/\H p.1=none/\p.1≠X.env.locals/\p.1∉X.fs/\∀v,p.2.data≠ .cell v):Inv X pins' σ H s:=
 ⟨I.ok,I.os,I.bare,I.base,I.loc,I.cell,I.free,I.freeC,λp hp=>(pG.mp hp).elim (λz=>I.pin p (sH _ z)) (h p),I.hok,I.len⟩
theorem zIj{N:List Str}(hN:N.Nodup){i j:Nat}{x:Str}(a:N[i]? =some x)(b:N[j]? =some x):i=j:=by
 obtain⟨h1,e1⟩:=nF.mp a;obtain⟨h2,e2⟩:=nF.mp b;exact(List.getElem_inj hN).mp (e1.trans e2.symm)
theorem zDq{M:Model}{A:Around}{E:Value->Shared->Prop}{i:Nat}{x:Str}{v:V}{u:Value}{Q:Unit->Shared->Prop}(I:Inv X pins σ H s)(hN:X.N.Nodup)(hi:X.N[i]? =some x)(hx:Loc X.env.scope x)(r:RelV v u)
  (h:∀s',Inv X pins (σ.set i (some v)) H s'->(∃a,Heap.SameBut a s.heap s'.heap/\(a=X.env.locals\/X.env.cells.lookup x=some a))->Q () s') (hf:X.fn x=true\/X.env.scope.names.lookup x=some .local:=by first | exact .inl rfl | exact .inr rfl | assumption):wpAny M A (storeName X.env x u) Q E s:=by
 obtain⟨m,hn,hl⟩:=id I.loc;have hcls:(X.env.scope.kind== .class ||(X.env.scope.kind== .module && X.env.locals !=X.env.globals))=false:=by rw[I.ok.kind];rfl
 have hiσ:i<σ.length:=by rw[I.len];exact(nF.mp hi).1
 have cne:=I.cne;have tracked:∀{a:Addr}{h':Heap},(∃o,s.heap.get? a=some o/\H a=none)->Heap.SameBut a s.heap h'->HOk X.prog X.w H h':=λ{a h'} ha hs b ob e=>by
  obtain⟨_,_,hfree⟩:=ha;refine(I.hok b ob e).stay (λc w' hc q=>(hs.2 c ?_).trans q) (λ_ q=>q) λ_ _ q=>q;rintro rfl;rcases hc with rfl | hc
  ·rw[hfree] at e;cases e
  ·rw[hfree] at hc;cases hc
 rcases hx with hk | hk
 ·refine wpAny_storeName_local hk hn (λh' hn' hs=>?_) hcls
  obtain⟨oL,_,_,hoL,_⟩:=id hn;refine h _ ⟨I.ok,I.os,I.bare,⟨λb o e n hb hx=>?_,λb o e n hb hx=>?_,I.base.free,λb o e hx=>?_,I.base.tups,I.base.frzs,I.base.tbls⟩,⟨_,hn',λj y v' e1 e2 e3=>?_⟩,λy c e=>?_,I.free,I.freeC,λp hp=>?_,tracked ⟨oL,hoL,I.free⟩ hs,by simpa using I.len⟩ ⟨_,hs, .inl rfl⟩
  ·exact(hs.2 b (nR (mX (mW e) I.ok.above))).trans (I.base.keep b o e n hb hx)
  ·obtain⟨sl,e1⟩:=I.base.slot b o e n hb hx
   exact⟨sl,(hs.2 b (nR (mX (mW e) I.ok.above))).trans e1⟩
  ·obtain⟨o',e1⟩:=I.base.there b o e hx
   exact⟨o',(hs.2 b (nR (mX (mW e) I.ok.above))).trans e1⟩
  ·by_cases hj:j=i
   ·subst hj
    rw[hi] at e1;cases e1;rw[List.getElem?_set_self hiσ] at e2;cases e2;exact⟨u,r, .inl ⟨hk,by simp⟩⟩
   ·rw[bQ (Ne.symm hj)] at e2
    obtain⟨u',r',q⟩:=hl j y v' e1 e2 e3;refine⟨u',r', ?_⟩;rcases q with⟨k,e⟩|⟨k,c,e,z⟩
    ·refine .inl ⟨k, ?_⟩
     have:y≠x:=λe=>hj (zIj hN e1 (e▸hi));simp[this,e]
    ·exact .inr ⟨k,c,e,z.sameBut hs (cne y c e)⟩
  ·obtain⟨w',z⟩:=I.cell y c e
   exact⟨w',z.sameBut hs (cne y c e)⟩
  ·obtain⟨e,n,ne,nf,d⟩:=I.pin p hp
   exact⟨(hs.2 p.1 ne).trans e,n,ne,nf,d⟩
 ·have hfn:X.fn x=true:=by
   rcases hf with z | z
   ·exact z
   ·rw[z] at hk;cases hk
  obtain⟨c,hc⟩:=I.ok.has x (.inl hk);obtain⟨w',z⟩:=I.cell x c hc;refine wpAny_storeName_cell I.ok.kind hk hc z (λh' hc' hs=>?_);obtain⟨oc,hoc,hocd⟩:=id z;refine h {s with heap:=h'} ⟨I.ok,I.os,I.bare,⟨λb o e n hb hx=>?_,λb o e n hb hx=>?_,I.base.free,λb o e hx=>?_,I.base.tups,I.base.frzs,I.base.tbls⟩,⟨m,hn.sameBut hs (Ne.symm (cne x c hc)),λj y v' e1 e2 e3=>?_⟩,λy c' e=>?_,I.free,I.freeC,λp hp=>?_,tracked ⟨oc,hoc,I.freeC x c hc⟩ hs,by simpa using I.len⟩ ⟨c,hs, .inr hc⟩
  ·exact(hs.2 b (nR (mX (mW e) (I.ok.cab x c hfn hc)))).trans (I.base.keep b o e n hb hx)
  ·obtain⟨sl,e1⟩:=I.base.slot b o e n hb hx
   exact⟨sl,(hs.2 b (nR (mX (mW e) (I.ok.cab x c hfn hc)))).trans e1⟩
  ·obtain⟨o',e1⟩:=I.base.there b o e hx
   exact⟨o',(hs.2 b (nR (mX (mW e) (I.ok.cab x c hfn hc)))).trans e1⟩
  ·by_cases hj:j=i
   ·subst hj
    rw[hi] at e1;cases e1;rw[List.getElem?_set_self hiσ] at e2;cases e2;exact⟨u,r, .inr ⟨.inl hk,c,hc,hc'⟩⟩
   ·rw[bQ (Ne.symm hj)] at e2
    obtain⟨u',r',q⟩:=hl j y v' e1 e2 e3;refine⟨u',r', ?_⟩;rcases q with q |⟨k,c',e,z'⟩
    ·exact .inl q
    ·refine .inr ⟨k,c',e,z'.sameBut hs ?_⟩
     rintro rfl;exact hj (zIj hN e1 (I.ok.inj _ _ _ e hc▸hi))
  ·by_cases hcc:c'=c
   ·subst hcc;exact⟨_,hc'⟩
   ·obtain⟨w2,z2⟩:=I.cell y c' e
    exact⟨w2,z2.sameBut hs hcc⟩
  ·obtain⟨e,n,ne,nf,d⟩:=I.pin p hp
   refine⟨(hs.2 p.1 ?_).trans e,n,ne,nf,d⟩;intro q;rw[q,hoc] at e;have q':oc=p.2:=nU e;exact d w' (by rw[<-q'];exact hocd)
theorem gX{M:Model}{A:Around}{E:Value->Shared->Prop}{i:Nat}{x:Str}{v:V}{u:Value}{Q:Unit->Shared->Prop}(I:Inv X pins σ H s)(hN:X.N.Nodup)(hi:X.N[i]? =some x)(hx:Loc X.env.scope x)(r:RelV v u)
  (h:∀s',Inv X pins (σ.set i (some v)) H s'->Q () s') (hf:X.fn x=true\/X.env.scope.names.lookup x=some .local:=by first | exact .inl rfl | exact .inr rfl | assumption):wpAny M A (storeName X.env x u) Q E s:=
 zDq I hN hi hx r (λs' I' _=>h s' I') hf
theorem Inv.call'{s':Shared}{ch:List Addr}(I:Inv X pins σ H s)(ho:s'.os=s.os)(u:Un (frs X.stack) ch H H' s.heap s'.heap)(hok:HOk X.prog X.w H' s'.heap)(hg:AllBare s'.gens)
  (hch:∀b∈ch,(b∈X.ex\/X.s₀.heap.objs.size<=b)/\b≠X.env.locals/\(∀x c,X.env.cells.lookup x=some c->c≠b)/\∀p∈X.pn++pins,p.1≠b):Inv X pins σ H' s':=by
 obtain⟨h',g',d',t',o'⟩:=s';have e:o'=s.os:=ho;subst e;exact I.call (g':=g') (t':=t') (d':=d') u hok hg hch
end
abbrev XK:=Value->Option Addr->Hp->Prop
abbrev St:=List (Option V)
abbrev VK:=V->Hp->Prop
abbrev TE:=St->Hp->VK->Prop
abbrev TT:=St->Hp->(Bool->Hp->Prop)->Prop
abbrev TA:=St->Hp->(List V->Hp->Prop)->Prop
structure uN where
 nx:St->Hp->Prop
 rt:VK
 bk:St->Hp->Prop:=λ_ _=>False
 ct:St->Hp->Prop:=λ_ _=>False
abbrev TS:=uN->St->Hp->Prop
def EP(X:Cx)(pins:List (Addr×Obj))(σ:St)(Q:VK)(u:Value)(s':Shared):Prop:=∃v H',Inv X pins σ H' s'/\RelV v u/\Q v H'
def TP(X:Cx)(pins:List (Addr×Obj))(σ:St)(Q:Bool->Hp->Prop)(b:Bool)(s':Shared):Prop:=∃H',Inv X pins σ H' s'/\Q b H'
def AP(X:Cx)(pins:List (Addr×Obj))(σ:St)(Q:List V->Hp->Prop)(us:List Value)(s':Shared):Prop:=∃vs H',Inv X pins σ H' s'/\Vals vs us/\Q vs H'
def SP(X:Cx)(pins:List (Addr×Obj))(D:uN)(f:Flow)(s':Shared):Prop:=
 match f with
 | .next=>∃σ' H',Inv X pins σ' H' s'/\D.nx σ' H'
 | .brk=>∃σ' H',Inv X pins σ' H' s'/\D.bk σ' H'
 | .cont=>∃σ' H',Inv X pins σ' H' s'/\D.ct σ' H'
 | .ret u=>∃v σ' H',Inv X pins σ' H' s'/\RelV v u/\D.rt v H'
def PE(X:Cx)(e:Expr)(t:TE):Prop:=
 ∀(pins:List (Addr×Obj))(s:Shared)(σ:St)(H:Hp)(Q:VK),Inv X pins σ H s->t σ H Q->wpAny (model X.prog X.w) X.A (eval e X.env) (EP X pins σ Q) X.xe s
def PT(X:Cx)(e:Expr)(t:TT):Prop:=
 ∀(pins:List (Addr×Obj))(s:Shared)(σ:St)(H:Hp)(Q:Bool->Hp->Prop),Inv X pins σ H s->t σ H Q->wpAny (model X.prog X.w) X.A (isTrue e X.env (eval e X.env)) (TP X pins σ Q) X.xe s
def PW(X:Cx)(e:Expr)(t:TT):Prop:=
 ∀(whole:Sem Value)(pins:List (Addr×Obj))(s:Shared)(σ:St)(H:Hp)(Q:Bool->Hp->Prop),Inv X pins σ H s->t σ H Q->wpAny (model X.prog X.w) X.A (isTrue e X.env whole) (TP X pins σ Q) X.xe s
theorem PW.pt{X:Cx}{e:Expr}{t:TT}(h:PW X e t):PT X e t:=h _
def PA(X:Cx)(es:List Expr)(t:TA):Prop:=
 ∀(pos:Pos)(pins:List (Addr×Obj))(s:Shared)(σ:St)(H:Hp)(Q:List V->Hp->Prop),Inv X pins σ H s->t σ H Q->wpAny (model X.prog X.w) X.A (spliced (backTo pos (starEach es X.env))) (AP X pins σ Q) X.xe s
def PS(X:Cx)(st:Stmt)(t:TS):Prop:=
 ∀(pins:List (Addr×Obj))(s:Shared)(σ:St)(H:Hp)(D:uN),Inv X pins σ H s->t D σ H->wpAny (model X.prog X.w) X.A (exec st X.env) (SP X pins D) X.xe s
def PSs(X:Cx)(st:List Stmt)(t:TS):Prop:=
 ∀(pins:List (Addr×Obj))(s:Shared)(σ:St)(H:Hp)(D:uN),Inv X pins σ H s->t D σ H->wpAny (model X.prog X.w) X.A (execs st X.env) (SP X pins D) X.xe s
theorem thn{α:Type}{t:Sem α}{Q Q':α->Shared->Prop}{M:Model}{A:Around}{E:Value->Shared->Prop}{s:Shared}(h:wpAny M A t Q E s)(hQ:∀a s,Q a s->Q' a s):wpAny M A t Q' E s:=pU h hQ λ_ _ x=>x
section
variable{X:Cx}
def zJt(i:Nat):TE:=λσ H Q=>∃v,σ[i]? =some (some v)/\Q v H
def tC(v:V):TE:=λ_ H Q=>Q v H
theorem zQs{i:Nat}{x:Str}{pos:Pos}(hN:X.N[i]? =some x)(hv:Vis X.env.scope x)(hd:(x==("__debug__" :Str))=false:=by decide)(hcd:(x==("__classdict__" :Str))=false:=by decide):PE X (.Name x pos) (zJt i):=by
 intro pins s σ H Q I h;obtain⟨v,e,h⟩:=h;obtain⟨m,hn,hl⟩:=I.loc;obtain⟨u,r,l⟩:=hl i x v hN e hv;have fin:EP X pins σ Q u s:=⟨v,H,I,r,h⟩;rcases l with⟨hk,hm⟩|⟨hk,c,hc,hcell⟩
 ·exact wpAny_Name (wpAny_loadName_local I.ok.kind hk hn hm fin) hd
 ·rcases hk with hk | hk
  ·exact wpAny_Name (wpAny_loadName_cell I.ok.kind hk hc hcell fin) hd
  ·exact wpAny_Name (wpAny_loadName_free I.ok.kind hk hc hcell fin hcd) hd
theorem zE{i j pos}:PE X (.Constant (.int i) j pos) (tC (.int i)):=λ_ _ _ H _ I h=>cI ⟨.int i,H,I.tok _,⟨_,rfl⟩,h⟩
theorem vQ{b j pos}:PE X (.Constant (.bool b) j pos) (tC (.bl b)):=λ_ _ _ H _ I h=>Constant_bool ⟨.bl b,H,I,rfl,h⟩
theorem kZ{j pos}:PE X (.Constant .none j pos) (tC .non):=λ_ _ _ H _ I h=>Constant_none ⟨.non,H,I,rfl,h⟩
theorem zC{x j pos}:PE X (.Constant (.str x) j pos) (tC (.str x)):=λ_ _ _ H _ I h=>cJ ⟨.str x,H,I.tok _,⟨_,rfl⟩,h⟩
def Gl(X:Cx)(x:Str):Prop:=X.env.kindOf x=some .globalImplicit
theorem wT{E:Value->Shared->Prop}{pins:List (Addr×Obj)}{s:Shared}{σ:St}{H:Hp}{x:Str}{u:Value}{pos:Pos}{Q:Value->Shared->Prop}(I:Inv X pins σ H s)(hg:Gl X x)(hm:X.mg x=some u)(h:Q u s)
  (hd:(x==("__debug__" :Str))=false:=by decide):wpAny (model X.prog X.w) X.A (eval (.Name x pos) X.env) Q E s:=
 Calls.Name_function_global I.ok.kind hg (Calls.loadGlobal_global (by rw[I.ok.glob];exact I.mod.glob.keeps I.bk) hm h) hd
theorem zFh{E:Value->Shared->Prop}{pins:List (Addr×Obj)}{s:Shared}{σ:St}{H:Hp}{x:Str}{u:Value}{pos:Pos}{Q:Value->Shared->Prop}(I:Inv X pins σ H s)(hg:Gl X x)(hm:X.mg x=none)(hv:bootBuiltins x=some u)(h:Q u s)
  (hn:x≠ "__name__":=by decide) (hd:(x==("__debug__" :Str))=false:=by decide):wpAny (model X.prog X.w) X.A (eval (.Name x pos) X.env) Q E s:=by
 obtain⟨mb,h1,h2⟩:=I.mod.blt;exact Calls.Name_function_global I.ok.kind hg (Calls.loadGlobal_builtin (by rw[I.ok.glob];exact I.mod.glob.keeps I.bk) hm (by rw[I.ok.blt];exact h1.keeps I.bk) ((h2 x hn).trans hv) h) hd
theorem jK{x:Str}{v:V}{u:Value}{pos:Pos}(hg:Gl X x)(hm:X.mg x=some u)(r:RelV v u)(hd:(x==("__debug__" :Str))=false:=by decide):PE X (.Name x pos) (tC v):=
 λ_ _ _ H _ I h=>wT I hg hm ⟨v,H,I,r,h⟩ hd
theorem kK{x:Str}{v:V}{u:Value}{pos:Pos}(hg:Gl X x)(hm:X.mg x=none)(hv:bootBuiltins x=some u)(r:RelV v u)(hn:x≠ "__name__":=by decide)(hd:(x==("__debug__" :Str))=false:=by decide):PE X (.Name x pos) (tC v):=
 λ_ _ _ H _ I h=>zFh I hg hm hv ⟨v,H,I,r,h⟩ hn hd
variable{a b:Expr}{ta tb:TE}{pos:Pos}
def PC(X:Cx)(op:CmpOp)(a b:Expr)(t:TE):Prop:=
 ∀(pins:List (Addr×Obj))(s:Shared)(σ:St)(H:Hp)(Q:VK),Inv X pins σ H s->t σ H Q->
  wpAny (model X.prog X.w) X.A (eval a X.env) (λv s₁=>wpAny (model X.prog X.w) X.A (eval b X.env) (λu s₂=>wpAny (model X.prog X.w) X.A (compareOp op v u) (EP X pins σ Q) X.xe s₂) X.xe s₁) X.xe s
theorem zHx(b:Expr){op:CmpOp}(h:op≠ .In)(h2:op≠ .NotIn):behindInMarks op b=false:=by
 have e1:(op==CmpOp.In)=false:=by cases op<;>first | rfl | exact absurd rfl h
 have e2:(op==CmpOp.NotIn)=false:=by cases op<;>first | rfl | exact absurd rfl h2
 cases b<;>simp[behindInMarks,e1,e2]
def zRa(ta:TE):TE:=λσ H Q=>ta σ H λx H1=>Q (.bl (decide (x= .non))) H1
def zJa(ta:TE):TE:=λσ H Q=>ta σ H λx H1=>Q (.bl (!decide (x= .non))) H1
theorem RelV.none_iff{x:V}{v:Value}(r:RelV x v):(v==Value.none)=decide (x= .non):=by
 cases x with
 | non=>cases r;rfl
 | bl _=>cases r;rfl
 | int _=>obtain⟨t,rfl⟩:=r;rfl
 | str _=>obtain⟨t,rfl⟩:=r;rfl
 | byt _=>obtain⟨t,rfl⟩:=r;rfl
 | flt _=>obtain⟨t,rfl⟩:=r;rfl
 | ref _=>cases r;rfl
 | ty _=>cases r;rfl
theorem zQb{j pos'}(ha:PE X a ta):PC X .Is a (.Constant .none j pos') (zRa ta):=by
 intro pins s σ H Q I h;refine thn (ha pins s σ H _ I h) λv s1 z_=>?_;obtain⟨x,H1,I1,r1,q1⟩:=z_;exact Constant_none (is_none_gen ⟨.bl _,H1,I1,by rw[r1.none_iff];rfl,q1⟩)
theorem zMq{j pos'}(ha:PE X a ta):PC X .IsNot a (.Constant .none j pos') (zJa ta):=by
 intro pins s σ H Q I h;refine thn (ha pins s σ H _ I h) λv s1 z_=>?_;obtain⟨x,H1,I1,r1,q1⟩:=z_;exact Constant_none (isnot_none_gen ⟨.bl _,H1,I1,by rw[r1.none_iff];rfl,q1⟩)
def tB(t:TE):TT:=λσ H Q=>t σ H λx H1=>∃c,x= .bl c/\Q c H1
theorem zTi{op:CmpOp}{t:TE}(h:PC X op a b t)(h1:behindInMarks op b=false:=by first | exact zHx _ (by decide) (by decide)| rfl):PE X (.Compare a [op] [b] pos) t:=λpins s σ H Q I hw=>wpAny_Compare1 (h pins s σ H Q I hw) h1
theorem zEy{op:CmpOp}{t:TE}(h:PC X op a b t)(h1:behindInMarks op b=false:=by first | exact zHx _ (by decide) (by decide)| rfl):PT X (.Compare a [op] [b] pos) (tB t):=by
 intro pins s σ H Q I hw;refine wpAny_isTrue_Compare1 (thn (h pins s σ H _ I hw) λv s1 h1=>thn h1 λu s2 h2=>thn h2 λc s3 z_=>?_) h1;obtain⟨x,H1,I1,r1,q1⟩:=z_;obtain⟨d,rfl,q⟩:=q1;cases r1;exact rM ⟨H1,I1,q⟩
theorem yT{e:Expr}{t:TE}(h:PE X e t)(he:∀whole,isTrue e X.env whole=(do let v <-whole;standAt e.pos;holding [v] (truthy v)):=by intro _;rfl):PT X e (tB t):=by
 intro pins s σ H Q I hw;refine isTrue_plain (thn (h pins s σ H _ I hw) λv s1 z_=>?_) (he _);obtain⟨x,H1,I1,r1,q1⟩:=z_;obtain⟨d,rfl,q⟩:=q1;cases r1;exact rM ⟨H1,I1,q⟩
variable{tA tB':TT}{rest:List Expr}
def zUm(t u:TT):TT:=λσ H Q=>t σ H λc H1=>if c=true then u σ H1 Q else Q false H1
def tOr(t u:TT):TT:=λσ H Q=>t σ H λc H1=>if c=true then Q true H1 else u σ H1 Q
def zSa(t:TT):TT:=λσ H Q=>t σ H λc H1=>Q (!c) H1
theorem vJ(ha:PT X a tA):PW X (.BoolOp .And [a] pos) tA:=by
 intro wh pins s σ H Q I h;refine isTrue_and (thn (ha pins s σ H Q I h) λc s1 e=>?_)
 cases c with
 | true=>exact isTrue_and_nil e
 | false=>exact e
theorem vZ(ha:PT X a tA):PW X (.BoolOp .Or [a] pos) tA:=by
 intro wh pins s σ H Q I h;refine isTrue_or (thn (ha pins s σ H Q I h) λc s1 e=>?_)
 cases c with
 | false=>exact isTrue_or_nil e
 | true=>exact e
theorem qJ(ha:PT X a tA)(hb:PW X (.BoolOp .And (b::rest) pos) tB'):PW X (.BoolOp .And (a::b::rest) pos) (zUm tA tB'):=by
 intro wh pins s σ H Q I h;refine isTrue_and (thn (ha pins s σ H _ I h) λc s1 z_=>?_);obtain⟨H1,I1,q1⟩:=z_
 cases c with
 | true=>exact hb wh pins s1 σ H1 Q I1 q1
 | false=>exact⟨H1,I1,q1⟩
theorem jV(ha:PT X a tA)(hb:PW X (.BoolOp .Or (b::rest) pos) tB'):PW X (.BoolOp .Or (a::b::rest) pos) (tOr tA tB'):=by
 intro wh pins s σ H Q I h;refine isTrue_or (thn (ha pins s σ H _ I h) λc s1 z_=>?_);obtain⟨H1,I1,q1⟩:=z_
 cases c with
 | true=>exact⟨H1,I1,q1⟩
 | false=>exact hb wh pins s1 σ H1 Q I1 q1
theorem vY(ha:PT X a tA):PT X (.UnaryOp .Not a pos) (zSa tA):=by
 intro pins s σ H Q I h;exact isTrue_not (ha pins s σ H (λc H1=>Q (!c) H1) I h)
def zGu(ta tb:TE):TE:=λσ H Q=>ta σ H λx H1=>∃c,x= .bl c/\if c=true then tb σ H1 Q else Q (.bl false) H1
def zPh(ta tb:TE):TE:=λσ H Q=>ta σ H λx H1=>∃c,x= .bl c/\if c=true then Q (.bl true) H1 else tb σ H1 Q
def zHr(ta:TE):TE:=λσ H Q=>ta σ H λx H1=>∃c,x= .bl c/\Q (.bl (!c)) H1
theorem xI{op}{t:TE}(h:PE X a t):PE X (.BoolOp op [a] pos) t:=λpins s σ H Q I hw=>BoolOp_one (h pins s σ H Q I hw)
theorem xV(ha:PE X a ta)(hb:PE X (.BoolOp .And (b::rest) pos) tb):PE X (.BoolOp .And (a::b::rest) pos) (zGu ta tb):=by
 intro pins s σ H Q I h;refine BoolOp_and (thn (ha pins s σ H _ I h) λv s1 z_=>?_);obtain⟨x,H1,I1,r1,q1⟩:=z_;obtain⟨c,rfl,q1⟩:=q1;cases r1;refine rM ?_
 cases c with
 | true=>exact hb pins s1 σ H1 Q I1 q1
 | false=>exact⟨.bl false,H1,I1,rfl,q1⟩
theorem zAq(ha:PE X a ta)(hb:PE X (.BoolOp .Or (b::rest) pos) tb):PE X (.BoolOp .Or (a::b::rest) pos) (zPh ta tb):=by
 intro pins s σ H Q I h;refine BoolOp_or (thn (ha pins s σ H _ I h) λv s1 z_=>?_);obtain⟨x,H1,I1,r1,q1⟩:=z_;obtain⟨c,rfl,q1⟩:=q1;cases r1;refine rM ?_
 cases c with
 | false=>exact hb pins s1 σ H1 Q I1 q1
 | true=>exact⟨.bl true,H1,I1,rfl,q1⟩
theorem zQw(ha:PE X a ta):PE X (.UnaryOp .Not a pos) (zHr ta):=by
 intro pins s σ H Q I h;refine UnaryOp_ (thn (ha pins s σ H _ I h) λv s1 z_=>?_);obtain⟨x,H1,I1,r1,q1⟩:=z_;obtain⟨c,rfl,q1⟩:=q1;cases r1;exact not_of (rM ⟨.bl (!c),H1,I1,rfl,q1⟩)
def tIf(t:TT)(ta tb:TE):TE:=λσ H Q=>t σ H λc H1=>if c=true then ta σ H1 Q else tb σ H1 Q
theorem qO{c:Expr}(hc:PT X c tA)(ha:PE X a ta)(hb:PE X b tb):PE X (.IfExp c a b pos) (tIf tA ta tb):=by
 intro pins s σ H Q I h;refine wpAny_IfExp (thn (hc pins s σ H _ I h) λd s1 z_=>?_);obtain⟨H1,I1,q1⟩:=z_
 cases d with
 | true=>exact ha pins s1 σ H1 Q I1 q1
 | false=>exact hb pins s1 σ H1 Q I1 q1
end
def SqL(K:W.Frag)(H:Hp)(a:Addr)(xs:List V):Prop:=
 Rd H a (.lst xs)\/
  ∃(o:Obj)(its:Array Value)(n:Nat),K.lookup a=some o/\o.cls= .type "list"/\o.dict=none/\o.data= .seq its n/\its.size<=sizeLine/\Vals xs its.toList
def SqT(K:W.Frag)(H:Hp)(a:Addr)(xs:List V):Prop:=
 Rd H a (.tup xs)\/
  ∃(o:Obj)(its:Array Value)(n:Nat),K.lookup a=some o/\o.cls= .type "tuple"/\o.data= .seq its n/\its.size<=sizeLine/\Vals xs its.toList
def absV:Value->Option V
 | .none=>some .non
 | .bool b=>some (.bl b)
 | .int i _=>some (.int i)
 | .str x _=>some (.str x)
 | .bytes b _=>some (.byt b)
 | .float b _=>some (.flt b)
 | .ref a=>some (.ref a)
 | .type n=>some (.ty n)
 | _=>none
theorem RelV.abs{x:V}{u:Value}(r:RelV x u):absV u=some x:=by
 cases x with
 | non=>cases r;rfl
 | bl _=>cases r;rfl
 | int _=>obtain⟨t,rfl⟩:=r;rfl
 | str _=>obtain⟨t,rfl⟩:=r;rfl
 | byt _=>obtain⟨t,rfl⟩:=r;rfl
 | flt _=>obtain⟨t,rfl⟩:=r;rfl
 | ref _=>cases r;rfl
 | ty _=>cases r;rfl
theorem RelV.inj{x y:V}{u:Value}(r:RelV x u)(q:RelV y u):x=y:=nU (r.abs.symm.trans q.abs)
theorem Vals.inj:∀{xs ys:List V}{us:List Value},Vals xs us->Vals ys us->xs=ys
 | _,_,_, .nil, .nil=>rfl
 | _,_,_, .cons r t, .cons r' t'=>by rw[r.inj r',Vals.inj t t']
section
variable{X:Cx}{pins:List (Addr×Obj)}{σ:St}{H:Hp}{s:Shared}{a:Addr}{xs ys:List V}
theorem SqL.of{K:W.Frag}(h:H a=some (.lst xs)):SqL K H a xs:=.inl (.inl h)
theorem SqT.of{K:W.Frag}(h:H a=some (.tup xs)):SqT K H a xs:=.inl (.inl h)
theorem Inv.list(I:Inv X pins σ H s)(h:SqL X.K H a xs):∃its:List Value,Vals xs its/\PlainL s.heap a its.toArray/\xs.length<=sizeLine:=by
 rcases h with h |⟨o,its,n,hk,hc,hd,hs,hz,r⟩
 ·obtain⟨z,its,n,r,e⟩:=h.ok I.hok
  exact⟨its,r,⟨_,n,e,rfl,rfl,rfl⟩,z⟩
 ·refine⟨its.toList,r,⟨o,n,I.kIn a o hk,hc,hd,by simpa using hs⟩, ?_⟩
  have e:=r.length;simp only[cC] at e
  lia
theorem Inv.tuple(I:Inv X pins σ H s)(h:SqT X.K H a xs):∃its:List Value,Vals xs its/\IsTup s.heap a its.toArray/\xs.length<=sizeLine:=by
 rcases h with h |⟨o,its,n,hk,hc,hs,hz,r⟩
 ·obtain⟨z,its,r,p⟩:=h.ok I.hok
  exact⟨its,r,p,z⟩
 ·refine⟨its.toList,r,⟨o,I.kIn a o hk,hc,n,by simpa using hs⟩, ?_⟩
  have e:=r.length;simp only[cC] at e
  lia
theorem Inv.list_inj(I:Inv X pins σ H s)(h:SqL X.K H a xs)(h':SqL X.K H a ys):xs=ys:=by
 obtain⟨its,r,⟨o,n,e,_,_,d⟩,_⟩:=I.list h;obtain⟨its',r',⟨o',n',e',_,_,d'⟩,_⟩:=I.list h';rw[e] at e';cases e';rw[d] at d';injection d' with d1 _;have:its=its':=by simpa using congrArg Array.toList d1
 subst this;exact r.inj r'
end
abbrev Cx.wish(X:Cx)(E:Value->Shared->Prop):Cx:={X with xe:=E}
abbrev Cx.nox(X:Cx):Cx:=X.wish λ_ _=>False
theorem Cx.Ok.wish{X:Cx}(ok:X.Ok)(E:Value->Shared->Prop):(X.wish E).Ok:=
 ⟨ok.mod,ok.kind,ok.glob,ok.blt,ok.above,ok.inj,ok.has,ok.cab,ok.hd,ok.frames,ok.stk,ok.exf,ok.bs,ok.bsz,ok.noex,ok.exfs,ok.funs,ok.frf⟩
theorem Cx.Ok.unwish{X:Cx}{E:Value->Shared->Prop}(ok:(X.wish E).Ok):X.Ok:=
 ⟨ok.mod,ok.kind,ok.glob,ok.blt,ok.above,ok.inj,ok.has,ok.cab,ok.hd,ok.frames,ok.stk,ok.exf,ok.bs,ok.bsz,ok.noex,ok.exfs,ok.funs,ok.frf⟩
section
variable{X:Cx}{pins:List (Addr×Obj)}{σ:St}{H:Hp}{s:Shared}{E:Value->Shared->Prop}
theorem Inv.wish(I:Inv X pins σ H s)(E:Value->Shared->Prop):Inv (X.wish E) pins σ H s:=⟨I.ok.wish E,I.os,I.bare,I.base,I.loc,I.cell,I.free,I.freeC,I.pin,I.hok,I.len⟩
theorem Inv.unwish(I:Inv (X.wish E) pins σ H s):Inv X pins σ H s:=⟨I.ok.unwish,I.os,I.bare,I.base,I.loc,I.cell,I.free,I.freeC,I.pin,I.hok,I.len⟩
theorem SP.unwish{D:uN}{f:Flow}{s':Shared}(h:SP (X.wish E) pins D f s'):SP X pins D f s':=by
 cases f with
 | next=>obtain⟨σ',H',I,q⟩:=h;exact⟨σ',H',I.unwish,q⟩
 | brk=>obtain⟨σ',H',I,q⟩:=h;exact⟨σ',H',I.unwish,q⟩
 | cont=>obtain⟨σ',H',I,q⟩:=h;exact⟨σ',H',I.unwish,q⟩
 | ret u=>obtain⟨v,σ',H',I,r,q⟩:=h;exact⟨v,σ',H',I.unwish,r,q⟩
theorem PSs.nox{st:List Stmt}{t:TS}(h:PSs X.nox st t):PSs X st t:=λpins s σ H D I hw=>
 pU (h pins s σ H D (I.wish _) hw) (λ_ _ q=>q.unwish) λ_ _ z=>False.elim z
end
section
variable{X:Cx}{st:Stmt}{rest:List Stmt}{t u:TS}{e:Expr}{te:TE}{pos:Pos}
def zIe:TS:=λD σ H=>D.nx σ H
def zJz(t u:TS):TS:=λD σ H=>t {D with nx:=u D} σ H
theorem zL:PSs X [] zIe:=λ_ _ σ H _ I h=>aM ⟨σ,H,I,h⟩
theorem zD(h1:PS X st t)(h2:PSs X rest u):PSs X (st::rest) (zJz t u):=by
 intro pins s σ H D I h;refine cV (thn (h1 pins s σ H {D with nx:=u D} I h) λf s1 q=>?_)
 cases f with
 | next=>
  obtain⟨σ',H',I',q⟩:=q;exact h2 pins s1 σ' H' D I' q
 | ret v=>exact q
 | brk=>exact q
 | cont=>exact q
theorem zG(h1:PS X st t):PSs X [st] t:=by
 intro pins s σ H D I h;refine cV (thn (h1 pins s σ H D I h) λf s1 q=>?_)
 cases f with
 | next=>exact aM q
 | ret v=>exact q
 | brk=>exact q
 | cont=>exact q
theorem Inv.quiet{pins:List (Addr×Obj)}{σ:St}{H:Hp}{s:Shared}(I:Inv X pins σ H s):interactive X.env=false:=by simp[interactive,I.ok.kind]
def zJj(te:TE):TS:=λD σ H=>te σ H λ_ H1=>D.nx σ H1
theorem xF(he:PE X e te)(hs:swapsWith e none pos.line X.env=pure false:=by rfl):PS X (.Expr e pos) (zJj te):=by
 intro pins s σ H D I h;refine wpAny_Expr_any (thn (he pins s σ H _ I h) λv s1 z_=>?_) I.quiet hs;obtain⟨x,H1,I1,r1,q1⟩:=z_;exact ⟨σ,H1,I1,q1⟩
def zNz(te:TE):TS:=λD σ H=>te σ H D.rt
theorem zM(he:PE X e te):PS X (.Return (some e) pos) (zNz te):=by
 intro pins s σ H D I h;refine wpAny_Return_some (thn (he pins s σ H _ I h) λv s1 z_=>?_);obtain⟨x,H1,I1,r1,q1⟩:=z_;exact ⟨x,σ,H1,I1,r1,q1⟩
def zMp:TS:=λD _ H=>D.rt .non H
def zRq(c:TT)(t u:TS):TS:=λD σ H=>c σ H λb H1=>if b=true then t D σ H1 else u D σ H1
theorem zQ{c:Expr}{a b:List Stmt}{tc:TT}(hc:PT X c tc)(ha:PSs X a t)(hb:PSs X b u):PS X (.If c a b pos) (zRq tc t u):=by
 intro pins s σ H D I h;refine wpAny_If (thn (hc pins s σ H _ I h) λd s1 z_=>?_);obtain⟨H1,I1,q1⟩:=z_
 cases d with
 | true=>exact ha pins s1 σ H1 D I1 q1
 | false=>exact hb pins s1 σ H1 D I1 q1
def zAf:TS:=λ_ _ _=>False
theorem zAc{sts:List Stmt}:PSs X sts zAf:=λ_ _ _ _ _ _ h=>h.elim
end
abbrev TG:=V->St->Hp->(St->Hp->Prop)->Prop
abbrev TGs:=List V->St->Hp->(St->Hp->Prop)->Prop
def PG(X:Cx)(target:Expr)(t:TG):Prop:=
 ∀(pins:List (Addr×Obj))(s:Shared)(σ:St)(H:Hp)(v:V)(u:Value)(Q:St->Hp->Prop),Inv X pins σ H s->RelV v u->t v σ H Q->
  wpAny (model X.prog X.w) X.A (assign target X.env u) (λ_ s'=>∃σ' H',Inv X pins σ' H' s'/\Q σ' H') X.xe s
def PGs(X:Cx)(ts:List Expr)(t:TGs):Prop:=
 ∀(pins:List (Addr×Obj))(s:Shared)(σ:St)(H:Hp)(vs:List V)(us:List Value)(Q:St->Hp->Prop),Inv X pins σ H s->Vals vs us->t vs σ H Q->
  wpAny (model X.prog X.w) X.A (assignInOrder ((assignEach ts X.env).map (·.2)) us) (λ_ s'=>∃σ' H',Inv X pins σ' H' s'/\Q σ' H') X.xe s
abbrev zZw:=V->V->V->Hp->(Hp->Prop)->Prop
def PSet(X:Cx)(t:zZw):Prop:=
 ∀(pins:List (Addr×Obj))(s:Shared)(σ:St)(H:Hp)(o i v:V)(ov iv u:Value)(Q:Hp->Prop),Inv X pins σ H s->RelV o ov->RelV i iv->RelV v u->t o i v H Q->
  wpAny (model X.prog X.w) X.A (setItem ov iv u) (λ_ s'=>∃H',Inv X pins σ H' s'/\Q H') X.xe s
abbrev TIp:=V->V->Hp->VK->Prop
def PIp(X:Cx)(op:Operator)(t:TIp):Prop:=
 ∀(pins:List (Addr×Obj))(s:Shared)(σ:St)(H:Hp)(x y:V)(v u:Value)(Q:VK),Inv X pins σ H s->RelV x v->RelV y u->t x y H Q->
  wpAny (model X.prog X.w) X.A (inplaceOp op v u) (EP X pins σ Q) X.xe s
section
variable{X:Cx}{pos:Pos}
def vX(i:Nat):TG:=λv σ H Q=>Q (σ.set i (some v)) H
theorem yO{i:Nat}{x:Str}(hN:X.N.Nodup)(hi:X.N[i]? =some x)(hx:Loc X.env.scope x)(hf:X.fn x=true\/X.env.scope.names.lookup x=some .local:=by first | exact .inl rfl | exact .inr rfl | assumption):PG X (.Name x pos) (vX i):=by
 intro pins s σ H v u Q I r h;exact wpAny_assign_Name (gX I hN hi hx r (λs' I'=>⟨_,H,I',h⟩) hf)
def zNi:TGs:=λvs σ H Q=>vs= []/\Q σ H
def zBx(t:TG)(u:TGs):TGs:=λvs σ H Q=>∃v r,vs=v::r/\t v σ H λσ' H'=>u r σ' H' Q
theorem zAv:PGs X [] zNi:=by
 intro pins s σ H vs us Q I r h;obtain⟨e,h⟩:=h;subst e;cases r;exact assignInOrder_nil ⟨σ,H,I,h⟩
theorem xS{e:Expr}{es:List Expr}{t:TG}{u:TGs}(h1:PG X e t)(h2:PGs X es u)
  (hs:(assignEach (e::es) X.env).map (·.2)=assign e X.env::(assignEach es X.env).map (·.2):=by rfl):PGs X (e::es) (zBx t u):=by
 intro pins s σ H vs us Q I r h;obtain⟨v,vr,e1,h⟩:=h;subst e1
 cases r with
 | cons r rr=>
  rw[hs];refine assignInOrder_cons (thn (h1 pins s σ H _ _ _ I r h) λ_ s1 z_=>?_);obtain⟨σ1,H1,I1,q1⟩:=z_;exact h2 pins s1 σ1 H1 _ _ Q I1 rr q1
def zOm(K:W.Frag)(n:Nat)(t:TGs):TG:=λv σ H Q=>∃a xs,v= .ref a/\SqT K H a xs/\xs.length=n/\t xs σ H Q
theorem zFd{es:List Expr}{k:Nat}{t:TGs}{n:Nat}(hc:X.cool=true)(h:PGs X es t)
  (hn:(assignEach es X.env).length=n:=by rfl) (hst:(assignEach es X.env).findIdx? (·.1)=none:=by rfl):PG X (.Tuple es k pos) (zOm X.K n t):=by
 intro pins s σ H v u Q I r hw;obtain⟨a,xs,e1,hq,hl,hw⟩:=hw;subst e1;cases r;obtain⟨its,rv,ht,hz⟩:=I.tuple hq;refine zBf (I.hn hc) ht (by simp[hn,<-hl,rv.length]) hst λh' hx=>?_;have I1:Inv X pins σ H {s with heap:=h'}:=I.kept (t':=s.toks) λb o e=>hx b o (nR (mW e)) e;exact h pins _ σ H xs _ Q I1 (by simpa using rv) hw
def zYu(to ti:TE)(t:zZw):TG:=λv σ H Q=>to σ H λo H1=>ti σ H1 λi H2=>t o i v H2 λH3=>Q σ H3
theorem zSx{o i:Expr}{to ti:TE}{t:zZw}(ho:PE X o to)(hi:PE X i ti)(hs:PSet X t)
  (ha:∀v,assign (.Subscript o i pos) X.env v=(do
   let ov <-holding [v] (eval o X.env);let iv <-holding [v,ov] (eval i X.env)
   standAt pos
   holding [v,ov,iv] (setItem ov iv v)
   release [v,ov,iv] []):=by intro _;rfl):PG X (.Subscript o i pos) (zYu to ti t):=by
 intro pins s σ H v u Q I r h;rw[ha];refine mD (pK (thn (ho pins s σ H _ I h) λov s1 z_=>?_));obtain⟨x,H1,I1,r1,q1⟩:=z_;refine mD (pK (thn (hi pins s1 σ H1 _ I1 q1) λiv s2 z_=>?_));obtain⟨y,H2,I2,r2,q2⟩:=z_;refine mD (sX (mD (pK (thn (hs pins s2 σ H2 x y v ov iv u _ I2 r1 r2 r q2) λ_ s3 z_=>?_))));obtain⟨H3,I3,q3⟩:=z_;exact wpAny_release ⟨σ,H3,I3,q3⟩
def zId(te:TE)(g:TG):TS:=λD σ H=>te σ H λx H1=>g x σ H1 D.nx
theorem uW{tg e:Expr}{te:TE}{g:TG}(he:PE X e te)(hg:PG X tg g)(hs:swapsWithSole [tg] e pos.line X.env=pure false:=by rfl)(hw:swappedStores [tg] e X.env=pure none:=by rfl)
  (h1:(assignEach [tg] X.env).map (·.2)= [assign tg X.env]:=by rfl):PS X (.Assign [tg] e pos) (zId te g):=by
 intro pins s σ H D I h;refine wpAny_Assign_stores (thn (he pins s σ H _ I h) λv s1 z_=>?_) hs hw;obtain⟨x,H1,I1,r1,q1⟩:=z_;rw[h1];exact thn (hg pins s1 σ H1 x v _ I1 r1 q1) λ_ s2 q=>q
theorem zXf{i:Nat}{x:Str}{e:Expr}{te:TE}{pos':Pos}(hN:X.N.Nodup)(hi:X.N[i]? =some x)(hx:Loc X.env.scope x)(he:PE X e te)(hs:swapsWith e (some (.Name x pos')) pos.line X.env=pure false:=by rfl)(hf:X.fn x=true\/X.env.scope.names.lookup x=some .local:=by first | exact .inl rfl | exact .inr rfl | assumption):
  PS X (.Assign [.Name x pos'] e pos) (zId te (vX i)):=by
 intro pins s σ H D I h;refine wpAny_Assign_Name (thn (he pins s σ H _ I h) λv s1 z_=>?_) hs;obtain⟨y,H1,I1,r1,q1⟩:=z_;exact gX I1 hN hi hx r1 (λs2 I2=>⟨_,H1,I2,q1⟩) hf
def tAug(i:Nat)(te:TE)(ti:TIp):TS:=λD σ H=>∃x,σ[i]? =some (some x)/\te σ H λy H1=>ti x y H1 λz H2=>D.nx (σ.set i (some z)) H2
theorem zZh{i:Nat}{x:Str}{e:Expr}{te:TE}{op:Operator}{ti:TIp}{pos':Pos}(hN:X.N.Nodup)(hi:X.N[i]? =some x)(hx:Loc X.env.scope x)(he:PE X e te)(ho:PIp X op ti)(hf:X.fn x=true\/X.env.scope.names.lookup x=some .local:=by first | exact .inl rfl | exact .inr rfl | assumption):
  PS X (.AugAssign (.Name x pos') op e pos) (tAug i te ti):=by
 intro pins s σ H D I h;obtain⟨v,e1,h⟩:=h;obtain⟨m,hn,hl⟩:=I.loc;have vis:Vis X.env.scope x:=by rcases hx with k | k;exact .inl k;exact .inr (.inl k)
 obtain⟨u,r,l⟩:=hl i x v hi e1 vis;refine wpAny_AugAssign_Name ?_;have go:wpAny (model X.prog X.w) X.A (eval e X.env) (λw s₂=>wpAny (model X.prog X.w) X.A (inplaceOp op u w) (λr s₃=>wpAny (model X.prog X.w) X.A (storeName X.env x r) (λ_=>SP X pins D .next) X.xe s₃) X.xe s₂) X.xe s:=by
  refine thn (he pins s σ H _ I h) λw s1 z_=>?_;obtain⟨y,H1,I1,r1,q1⟩:=z_;refine thn (ho pins s1 σ H1 v y u w _ I1 r r1 q1) λz s2 z_=>?_;obtain⟨zv,H2,I2,r2,q2⟩:=z_;exact gX I2 hN hi hx r2 (λs3 I3=>⟨_,H2,I3,q2⟩) hf
 rcases l with⟨hk,hm⟩|⟨hk,c,hc,hcell⟩
 ·exact wpAny_loadName_local I.ok.kind hk hn hm go
 ·rcases hk with hk | hk
  ·exact wpAny_loadName_cell I.ok.kind hk hc hcell go
  ·rcases hx with k | k
   ·have:X.env.scope.names.lookup x=some .free:=hk
    rw[k] at this;cases this
   ·have:X.env.scope.names.lookup x=some .free:=hk
    rw[k] at this;cases this
def ipI(f:Int->Int->Int):TIp:=λx y H Q=>∃i j,x= .int i/\y= .int j/\Q (.int (f i j)) H
theorem zZk:PIp X .Add (ipI λi j=>i+j):=by
 intro pins s σ H x y v u Q I r1 r2 h;obtain⟨i,j,e1,e2,q⟩:=h;subst e1;subst e2;obtain⟨t,rfl⟩:=r1;obtain⟨t',rfl⟩:=r2;exact iadd_int ⟨.int _,H,I.tok _,⟨_,rfl⟩,q⟩
def zXi(c:TT)(tb:TS):TS:=λD σ H=>∃W:Nat->St->Hp->Prop,(∃m,W m σ H)/\∀m σ H,W m σ H->
 c σ H λb H1=>if b=true then∃N:St->Hp->Prop,(∀σ' H',N σ' H'->∃m',m'<m/\W m' σ' H')/\tb {D with nx:=N,ct:=N,bk:=D.nx} σ H1 else D.nx σ H1
theorem wH{c:Expr}{body:List Stmt}{tc:TT}{tb:TS}(hp:PassesOwn (model X.prog X.w) X.A X.env X.xe)(hc:PT X c tc)(hb:PSs X body tb):PS X (.While c body [] pos) (zXi tc tb):=by
 intro pins s σ H D I h;obtain⟨W,⟨m0,w0⟩,turn⟩:=h;refine wpAny_While (codeAny_whileLoop (λn s'=>∃σ' H',Inv X pins σ' H' s'/\W n σ' H') ?_ m0 ⟨σ,H,I,w0⟩);rintro n s1 ⟨σ1,H1,I1,w1⟩;refine sV hp (thn (hc pins s1 σ1 H1 _ I1 (turn n σ1 H1 w1)) λb s2 z_=>?_);obtain⟨H2,I2,q2⟩:=z_
 cases b with
 | true=>
  obtain⟨N,hN,q2⟩:=q2;rw[mL rfl];refine sV hp (thn (hb pins s2 σ1 H2 _ I2 q2) λf s3 q3=>?_)
  cases f with
  | next=>
   obtain⟨σ3,H3,I3,n3⟩:=q3;obtain⟨m',hm,w3⟩:=hN σ3 H3 n3;exact⟨m',hm,σ3,H3,I3,w3⟩
  | cont=>
   obtain⟨σ3,H3,I3,n3⟩:=q3;obtain⟨m',hm,w3⟩:=hN σ3 H3 n3;exact⟨m',hm,σ3,H3,I3,w3⟩
  | brk=>exact q3
  | ret v=>exact q3
 | false=>
  rw[mG mO];exact aM ⟨σ1,H2,I2,q2⟩
end
structure It where
 go:Nat->Hp->Prop
 yld:Nat->Hp->V->Hp->Prop
 stop:Nat->Hp->Prop
def zDj(X:Cx)(pins:List (Addr×Obj))(H:Hp)(b:Addr):Prop:=
 H b=none/\b≠X.env.locals/\b∉X.fs/\(b∈X.ex\/X.s₀.heap.objs.size<=b)/\(∀x c,X.env.cells.lookup x=some c->c≠b)/\∀p∈X.pn++pins,p.1≠b
theorem Inv.fpOk{X:Cx}{pins:List (Addr×Obj)}{σ:St}{H H':Hp}{s:Shared}{b:Addr}(I:Inv X pins σ H s)(hb:s.heap.objs.size<=b)(hn:H' b=none):zDj X pins H' b:=by
 refine⟨hn,aP (mX I.lt hb),I.nofs hb, .inr (nN I.sz hb),λx c e z=>?_,λp hp z=>?_⟩
 ·obtain⟨v,q⟩:=I.cell x c e
  exact absurd (mX q.lt (by rw[z];exact hb)) (rF _)
 ·exact absurd (mX (mW (I.pin p hp).1) (by rw[z];exact hb)) (rF _)
structure zHz(fl:Bool)(P:Program)(w:World)(K:W.Frag)(tg:Expr)(J:It)(fp:List Addr)(it:Addr)(tn:Nat->Heap->Prop):Prop where
 mem:it∈fp
 obj:∀i h,tn i h->∀b∈fp,∃o,h.get? b=some o/\∀v,o.data≠ .cell v
 keep:∀i h h',tn i h->(∀b∈fp,∀o,h.get? b=some o->h'.get? b=some o)->tn i h'
 item:∀(X:Cx),X.prog=P->X.w=w->X.K=K->X.heat fl=true->∀(i:Nat)(pins:List (Addr×Obj))(s:Shared)(σ:St)(H:Hp)(E:Value->Shared->Prop),Inv X pins σ H s->(∀b∈fp,zDj X pins H b)->tn i s.heap->J.go i H->
  wpAny (model P w) X.A (pyNext (.ref it)) (λr s1=>∃u,r=some u/\
   wpAny (model P w) X.A (letOwnedTupleGo tg (.ref it) u) (λ_ s2=>∃x H',Inv X pins σ H' s2/\RelV x u/\J.yld i H x H'/\tn (i+1) s2.heap/\∀b∈fp,H' b=none) E s1) E s
 done:∀(X:Cx),X.prog=P->X.w=w->X.K=K->X.heat fl=true->∀(i:Nat)(pins:List (Addr×Obj))(s:Shared)(σ:St)(H:Hp)(E:Value->Shared->Prop),Inv X pins σ H s->(∀b∈fp,zDj X pins H b)->tn i s.heap->J.stop i H->
  wpAny (model P w) X.A (pyNext (.ref it)) (λr s1=>r=none/\Inv X pins σ H s1) E s
 self:∀(A:Around)(i:Nat)(s:Shared)(Q:Value->Shared->Prop)(E:Value->Shared->Prop),tn i s.heap->Q (.ref it) s->wpAny (model P w) A (pyIter (.ref it)) Q E s
abbrev Turn(P:Program)(w:World)(K:W.Frag)(tg:Expr)(J:It)(fp:List Addr)(it:Addr)(tn:Nat->Heap->Prop):Prop:=zHz false P w K tg J fp it tn
abbrev TI:=St->Hp->(It->Hp->Prop)->Prop
def PIE(X:Cx)(pins:List (Addr×Obj))(σ:St)(tg:Expr)(R:It->Hp->Prop)(itv:Value)(s2:Shared):Prop:=
 ∃(it:Addr)(fp:List Addr)(tn:Nat->Heap->Prop)(J:It)(H':Hp),itv= .ref it/\Inv X pins σ H' s2/\(∃fl,X.heat fl=true/\zHz fl X.prog X.w X.K tg J fp it tn)/\tn 0 s2.heap/\(∀b∈fp,zDj X pins H' b)/\R J H'
def PI(X:Cx)(tg iter:Expr)(wi:TI):Prop:=
 ∀(pins:List (Addr×Obj))(s:Shared)(σ:St)(H:Hp)(R:It->Hp->Prop),Inv X pins σ H s->wi σ H R->
  wpAny (model X.prog X.w) X.A (eval iter X.env) (λv s1=>wpAny (model X.prog X.w) X.A (pyIter v) (PIE X pins σ tg R) X.xe s1) X.xe s
theorem zMu{M:Model}{A:Around}{E:Value->Shared->Prop}{s:Shared}{tg:Expr}{it:Addr}{u:Value}{o:Obj}{n:String}{vs:Array Value}{Q:Unit->Shared->Prop}(ho:s.heap.get? it=some o)(hc:o.cls= .type n)(hd:o.data= .fields vs)
    (hn: ["enumerate","zip","dict_itemiterator","dict_reverseitemiterator","odict_iterator","itertools.zip_longest","itertools.pairwise"].contains n=false) (hQ:Q () s):wpAny M A (letOwnedTupleGo tg (.ref it) u) Q E s:=by
  unfold letOwnedTupleGo;cases tg<;>first
    | exact mQ hQ
    |(cases u<;>first
        | exact mQ hQ
        | (refine mD (wpAny_load ho ?_)
           rw[hc,hd];show wpAny M A (if(["enumerate","zip","dict_itemiterator","dict_reverseitemiterator","odict_iterator","itertools.zip_longest","itertools.pairwise"].contains n && vs[0]? ==some (rawInt _))=true then _ else _) Q E s;rw[mG (by intro h;rw[hn,aA] at h;cases h)];exact mQ hQ))
def Itl(K:W.Frag)(a:Addr):It:=
 ⟨λi H=>∃xs x,SqL K H a xs/\xs[i]? =some x,λi H x H'=>H'=H/\∀xs,SqL K H a xs->xs[i]? =some x,λi H=>∃xs,SqL K H a xs/\xs.length<=i⟩
def Itr(lo:Int)(n:Nat):It:=⟨λi _=>i<n,λi H x H'=>H'=H/\x= .int (lo+i),λi _=>n<=i⟩
theorem zNj{P:Program}{w:World}{K:W.Frag}{tg:Expr}(a it:Addr):zHz true P w K tg (Itl K a) [it] it (λi h=>h.IsListIter it a i) where
 mem:=by simp
 obj:=λi h st b hb=>by
  have e:b=it:=by simpa using hb
  subst e;obtain⟨o,e,c,d⟩:=st;exact⟨o,e,λv z=>by rw[d] at z;cases z⟩
 keep:=λi h h' st k=>st.at λo e=>k it (by simp) o e
 item:=by
  intro X hP hw hK hc i pins s σ H E I hf st hg;subst hP hw hK;obtain⟨xs,x,hq,hx⟩:=hg;obtain⟨its,rv,p,hz⟩:=I.list hq;obtain⟨u,hu,ru⟩:=rv.get hx;obtain⟨f0,f1,f2,f3,f4,f5⟩:=hf it (by simp);refine wpAny_pyNext_list_item st p.isList (x:=u) (by simpa using hu) λh' st' sb=>?_;have I1:Inv X pins σ H {s with heap:=h'}:=I.turned (t':=s.toks) (λb o hb e=>(sb.2 b hb).trans e) f0 f1 f3 f4 f5;obtain⟨o,e,c,d⟩:=id st';exact⟨u,rfl,zMu (s:={s with heap:=h'}) e c d (by decide) ⟨x,H,I1,ru,⟨rfl,λys hy=>by rw[I.list_inj hy hq];exact hx⟩,st',λb hb=>(hf b hb).1⟩⟩
 done:=by
  intro X hP hw hK hc i pins s σ H E I hf st hg;subst hP hw hK;obtain⟨xs,hq,hx⟩:=hg;obtain⟨its,rv,p,hz⟩:=I.list hq;obtain⟨f0,f1,f2,f3,f4,f5⟩:=hf it (by simp);have hl:=rv.length;exact zCm (I.hn hc) st p.isList (by simp;lia) λh' eb=>⟨rfl,I.turned (t':=s.toks) (λb o hb e=>eb b o hb e) f0 f1 f3 f4 f5⟩
 self:=λ_ _ _ _ _ st h=>wpAny_pyIter_listiter st h
theorem zKo{P:Program}{w:World}{K:PySem.W.Frag}{tg:Expr}(it:Addr)(lo:Int)(n:Nat):Turn P w K tg (Itr lo n) [it] it (λi h=>IsRangeIter h it (lo+(i:Nat)*1) ((n:Int)- (i:Nat)) 1) where
 mem:=by simp
 obj:=λi h st b hb=>by
  have e:b=it:=by simpa using hb
  subst e;exact⟨_,st,λv z=>by
   have z':Data.fields _=Data.cell v:=z;cases z'⟩
 keep:=λi h h' st k=>k it (by simp) _ st
 item:=by
  intro X hP hw hK hc i pins s σ H E I hf st hg;subst hP hw hK;obtain⟨f0,f1,f2,f3,f4,f5⟩:=hf it (by simp);have W:=Walks.range (prog:=X.prog) (w:=X.w) (I.ok.hd.1 hc) it lo 1 n;refine W.item i s _ _ hg st λv h' tk hv st' kk=>?_;obtain⟨t,rfl⟩:=hv;have I1:Inv X pins σ H {s with heap:=h',toks:=tk}:=I.turned (λb o hb e=>kk b o (by simpa using hb) e) f0 f1 f3 f4 f5;refine⟨_,rfl,zMu (s:={s with heap:=h',toks:=tk}) (n:="range_iterator") st' rfl rfl (by decide) ⟨.int (lo+i),H,I1,⟨t, ?_⟩,⟨rfl,rfl⟩,st',λb hb=>(hf b hb).1⟩⟩;rw[Int.mul_one]
 done:=by
  intro X hP hw hK hc i pins s σ H E I hf st hg;subst hP hw hK;obtain⟨f0,f1,f2,f3,f4,f5⟩:=hf it (by simp);exact wpAny_pyNext_range_end (I.ok.hd.1 hc) st (by have:n<=i:=hg;lia) λh' eb=>⟨rfl,I.turned (t':=s.toks) (λb o hb e=>eb b o hb e) f0 f1 f3 f4 f5⟩
 self:=λ_ _ _ _ _ st h=>wpAny_pyIter_rangeiter st h
section
variable{X:Cx}{tg:Expr}
def zIy(K:W.Frag)(tl:TE):TI:=λσ H R=>tl σ H λx H1=>∃a,x= .ref a/\(∃xs,SqL K H1 a xs)/\R (Itl K a) H1
theorem zUs{l:Expr}{tl:TE}(hl:PE X l tl)(hcl:X.cool=true:=by rfl):PI X tg l (zIy X.K tl):=by
 intro pins s σ H R I h;refine thn (hl pins s σ H _ I h) λv s1 z_=>?_;obtain⟨x,H1,I1,r1,q1⟩:=z_;obtain⟨a,e,⟨xs,hq⟩,q⟩:=q1;subst e;cases r1;obtain⟨its,rv,p,hz⟩:=I1.list hq;refine wpAny_pyIter_list p.isList ?_;refine⟨s1.heap.objs.size,[s1.heap.objs.size],_,_,H1,rfl,I1.kept (t':=s1.toks) λb o e=>mI _ e,⟨true,hcl,zNj a _⟩,⟨_,nI _ rfl,rfl,rfl⟩,λb hb=>?_,q⟩;have e:b=s1.heap.objs.size:=by simpa using hb
 subst e;exact I1.fpOk (mK _) (I1.hok.fresh (mK _))
theorem zUc{pins:List (Addr×Obj)}{σ:St}{H:Hp}{s:Shared}{R:It->Hp->Prop}{E:Value->Shared->Prop}{lo hi:Int}{t u v:Tok}{tk:Nat}(I:Inv X pins σ H s)(h1: -(2 ^ 62)<=lo)(h2:lo<2 ^ 62)(h3: -(2 ^ 62)<=hi)(h4:hi<2 ^ 62)
  (q:R (Itr lo (hi - lo).toNat) H) (hcl:X.calm=true):wpAny (model X.prog X.w) X.A (pyIter (.ref s.heap.objs.size)) (PIE X pins σ tg R) E {s with heap:=s.heap.push {cls:=.type "range",data:=.fields #[.int lo t, .int hi u, .int 1 v]},toks:=tk}:=by
 refine wpAny_pyIter_range (IsRange.new ..) (small_one h1 h2 h3 h4) ?_;have I1:Inv X pins σ H {s with heap:=s.heap.push {cls:=.type "range",data:=.fields #[.int lo t, .int hi u, .int 1 v]},toks:=tk}:=I.kept λb o e=>mI _ e;refine⟨(s.heap.push {cls:=.type "range",data:=.fields #[.int lo t, .int hi u, .int 1 v]}).objs.size,[(s.heap.push {cls:=.type "range",data:=.fields #[.int lo t, .int hi u, .int 1 v]}).objs.size],_,_,H,rfl,
  I1.kept (t':=tk) λb o e=>mI _ e,⟨false,hcl,zKo _ lo (hi - lo).toNat⟩, ?_,λb hb=>?_,q⟩
 ·have e1:lo+((0:Nat):Int)*1=lo:=by simp
  have e2:(((hi - lo).toNat:Nat):Int)- ((0:Nat):Int)=Builtin.Range.rangeSize lo hi 1:=by rw[rangeSize_one];split<;>lia
  show IsRangeIter _ _ (lo+((0:Nat):Int)*1) ((((hi - lo).toNat:Nat):Int)- ((0:Nat):Int)) 1;rw[e1,e2];exact nI _ rfl
 ·have e:b=(s.heap.push {cls:=.type "range",data:=.fields #[.int lo t, .int hi u, .int 1 v]}).objs.size:=by simpa using hb
  subst e;exact I1.fpOk (mK _) (I1.hok.fresh (mK _))
def zIv(ta:TA):TI:=λσ H R=>ta σ H λvs H1=>∃j:Int,vs= [.int j]/\-(2 ^ 62)<=j/\j<2 ^ 62/\R (Itr 0 j.toNat) H1
theorem xX{a:Expr}{ta:TA}{p pos:Pos}(hg:Gl X "range")(hm:X.mg "range" =none)(ha:PA X [a] ta)(hs:starEach [a] X.env= [(false,eval a X.env)]:=by rfl)(hcl:X.calm=true:=by rfl):PI X tg (.Call (.Name "range" p) [a] [] pos) (zIv ta):=by
 intro pins s σ H R I h;refine Call_ (zFh I hg hm boot_range (cK (thn (ha pos pins s σ H _ I h) λus s1 z_=>?_) hs rfl));obtain⟨vs,H1,I1,r1,q1⟩:=z_;obtain⟨j,e,q1,q2,q⟩:=q1;subst e
 cases r1 with
 | cons r rr=>
  cases rr;obtain⟨t,rfl⟩:=r;exact call_range_1 (zUc I1 (by lia) (by lia) q1 q2 (by simpa using q) hcl)
def tFor(wi:TI)(g:TG)(tb:TS):TS:=λD σ H=>wi σ H λJ H1=>∃W:Nat->Nat->St->Hp->Prop,(∃m,W 0 m σ H1)/\∀i m σ H,W i m σ H->
 (J.stop i H/\D.nx σ H)\/(J.go i H/\∃N:St->Hp->Prop,(∀σ' H',N σ' H'->∃m',m'<m/\W (i+1) m' σ' H')/\∀x H',J.yld i H x H'->g x σ H' λσ2 H2=>tb {D with nx:=N,ct:=N,bk:=D.nx} σ2 H2)
def zDe(fp:List Addr)(h:Heap):List (Addr×Obj):=fp.filterMap λb=>(h.get? b).map λo=>(b,o)
theorem jF{fp:List Addr}{h:Heap}{b:Addr}{o:Obj}(hb:b∈fp)(e:h.get? b=some o):(b,o)∈zDe fp h:=List.mem_filterMap.mpr ⟨b,hb,by rw[e];rfl⟩
theorem zOf{fp:List Addr}{h:Heap}{p:Addr×Obj}(hp:p∈zDe fp h):p.1∈fp/\h.get? p.1=some p.2:=by
 obtain⟨b,hb,e⟩:=List.mem_filterMap.mp hp
 cases q:h.get? b with
 | none=>rw[q] at e;cases e
 | some o=>
  rw[q] at e;have e':(b,o)=p:=nU e;subst e';exact⟨hb,q⟩
theorem Inv.pinned{pins:List (Addr×Obj)}{σ:St}{H:Hp}{s:Shared}{fp:List Addr}(I:Inv X pins σ H s)(hf:∀b∈fp,zDj X pins H b)(ho:∀b∈fp,∃o,s.heap.get? b=some o/\∀v,o.data≠ .cell v):Inv X (pins++zDe fp s.heap) σ H s:=
 I.pins_of λp hp=>(pG.mp hp).elim (λz=>I.pin p (nV _ z)) λz=>by
  obtain⟨hb,e⟩:=zOf z;obtain⟨f0,f1,f2,_⟩:=hf p.1 hb;obtain⟨o,e',d⟩:=ho p.1 hb;rw[e] at e';cases e';exact⟨e,f0,f1,f2,d⟩
theorem Inv.unpinned{pins pl:List (Addr×Obj)}{σ:St}{H:Hp}{s:Shared}(I:Inv X (pins++pl) σ H s):Inv X pins σ H s:=I.pins_of λp hp=>I.pin p (nV _ (sH _ hp))
theorem gJ{iter:Expr}{body:List Stmt}{wi:TI}{g:TG}{tb:TS}{pos:Pos}(hp:PassesOwn (model X.prog X.w) X.A X.env X.xe)(hc:X.cool=true)(hi:PI X tg iter wi)(hg:PG X tg g)(hb:PSs X body tb)
  (hs:∀x,foldedSetIterable iter X.env x=pure x:=by intro _;rfl):PS X (.For tg iter body [] pos) (tFor wi g tb):=by
 intro pins s σ H D I h;refine wpAny_For (thn (hi pins s σ H _ I h) λv s1 h1=>thn h1 λitv s2 h2=>?_) hs;obtain⟨it,fp,tn,J,H2,e,I2,⟨fl,hfl,T⟩,st2,f2,W,⟨m0,w0⟩,turn⟩:=h2;subst e
 -- what stays true of the iterator's objects through the loop
 have stat:∀{H':Hp},(∀b∈fp,H' b=none)->∀b∈fp,zDj X pins H' b:=λhn b hb=>⟨hn b hb,(f2 b hb).2⟩;refine codeAny_forLoop_any (λn s'=>∃i σ' H',Inv X pins σ' H' s'/\tn i s'.heap/\(∀b∈fp,H' b=none)/\W i n σ' H') ?_ m0 ⟨0,σ,H2,I2,st2,λb hb=>(f2 b hb).1,w0⟩;rintro n s3 ⟨i,σ3,H3,I3,st3,fr3,w3⟩;rcases turn i n σ3 H3 w3 with⟨stop,qn⟩|⟨go,N,hN,step⟩
 ·refine sV hp (thn (T.done X rfl rfl rfl hfl i pins s3 σ3 H3 X.xe I3 (stat fr3) st3 stop) λr s4 ⟨hr,I4⟩=>?_)
  subst hr;exact aM ⟨σ3,H3,I4,qn⟩
 ·refine sV hp (thn (T.item X rfl rfl rfl hfl i pins s3 σ3 H3 X.xe I3 (stat fr3) st3 go) λr s4 z_=>?_);obtain⟨u,hr,h4⟩:=z_
  subst hr;refine sV hp (thn h4 λ_ s5 z_=>?_);obtain⟨x,H5,I5,r5,y5,st5,fr5⟩:=z_;have I5':=I5.pinned (stat fr5) (T.obj _ _ st5);refine sV hp (thn (hg _ s5 σ3 H5 x u _ I5' r5 (step x H5 y5)) λ_ s6 z_=>?_);obtain⟨σ6,H6,I6,q6⟩:=z_;refine sV hp (thn (hb _ s6 σ6 H6 _ I6 q6) λf s7 q7=>?_);have again:∀{σ7:St}{H7:Hp},Inv X (pins++zDe fp s5.heap) σ7 H7 s7->N σ7 H7->∃m,m<n/\∃i σ' H',Inv X pins σ' H' s7/\tn i s7.heap/\(∀b∈fp,H' b=none)/\W i m σ' H':=λ{σ7 H7} I7 n7=>by
   obtain⟨m',hm,w7⟩:=hN σ7 H7 n7;refine⟨m',hm,i+1,σ7,H7,I7.unpinned,T.keep _ _ _ st5 λb hb o e=>(I7.pin (b,o) (nV _ (nV _ (jF hb e)))).1,λb hb=>?_,w7⟩;obtain⟨o,e,d⟩:=T.obj _ _ st5 b hb;exact(I7.pin (b,o) (nV _ (nV _ (jF hb e)))).2.1
  cases f with
  | next=>obtain⟨σ7,H7,I7,n7⟩:=q7;exact again I7 n7
  | cont=>obtain⟨σ7,H7,I7,n7⟩:=q7;exact again I7 n7
  | brk=>obtain⟨σ7,H7,I7,q7⟩:=q7;exact⟨σ7,H7,I7.unpinned,q7⟩
  | ret v=>obtain⟨x7,σ7,H7,I7,r7,q7⟩:=q7;exact⟨x7,σ7,H7,I7.unpinned,r7,q7⟩
end
theorem zQo{K:PySem.W.Frag}{a:Addr}{xs:List V}{g:TG}{tb:TS}{D:uN}{σ:St}{H:Hp}(Pv:Nat->St->Hp->Prop)(h0:Pv 0 σ H)(hl:∀i σ H,i<=xs.length->Pv i σ H->SqL K H a xs)
  (hs:∀i x σ H,xs[i]? =some x->Pv i σ H->g x σ H λσ2 H2=>tb {D with nx:=Pv (i+1),ct:=Pv (i+1),bk:=D.nx} σ2 H2) (hd:∀σ H,Pv xs.length σ H->D.nx σ H):
  ∃W:Nat->Nat->St->Hp->Prop,(∃m,W 0 m σ H)/\∀i m σ H,W i m σ H->
   ((Itl K a).stop i H/\D.nx σ H)\/((Itl K a).go i H/\∃N:St->Hp->Prop,(∀σ' H',N σ' H'->∃m',m'<m/\W (i+1) m' σ' H')/\∀x H',(Itl K a).yld i H x H'->g x σ H' λσ2 H2=>tb {D with nx:=N,ct:=N,bk:=D.nx} σ2 H2):=by
 refine⟨λi m σ H=>m=xs.length - i/\i<=xs.length/\Pv i σ H,⟨xs.length,by simp,pW _,h0⟩, ?_⟩;rintro i m σ H ⟨rfl,hi,p⟩;have q:=hl i σ H hi p
 by_cases hlt:i<xs.length
 ·refine .inr ⟨⟨xs,xs[i],q,by simp[hlt]⟩,Pv (i+1),λσ' H' p'=>⟨xs.length - (i+1),by lia,rfl,hlt,p'⟩,λx H' y=>?_⟩
  obtain⟨e,y⟩:=y;subst e;exact hs i x σ _ (y xs q) p
 ·have e:i=xs.length:=by lia
  subst e;exact .inl ⟨⟨xs,q,mK _⟩,hd σ H p⟩
theorem zOj{lo:Int}{n:Nat}{g:TG}{tb:TS}{D:uN}{σ:St}{H:Hp}(Pv:Nat->St->Hp->Prop)(h0:Pv 0 σ H)
  (hs:∀i σ H,i<n->Pv i σ H->g (.int (lo+i)) σ H λσ2 H2=>tb {D with nx:=Pv (i+1),ct:=Pv (i+1),bk:=D.nx} σ2 H2) (hd:∀σ H,Pv n σ H->D.nx σ H):
  ∃W:Nat->Nat->St->Hp->Prop,(∃m,W 0 m σ H)/\∀i m σ H,W i m σ H->
   ((Itr lo n).stop i H/\D.nx σ H)\/((Itr lo n).go i H/\∃N:St->Hp->Prop,(∀σ' H',N σ' H'->∃m',m'<m/\W (i+1) m' σ' H')/\∀x H',(Itr lo n).yld i H x H'->g x σ H' λσ2 H2=>tb {D with nx:=N,ct:=N,bk:=D.nx} σ2 H2):=by
 refine⟨λi m σ H=>m=n - i/\i<=n/\Pv i σ H,⟨n,by simp,pW _,h0⟩, ?_⟩;rintro i m σ H ⟨rfl,hi,p⟩
 by_cases hlt:i<n
 ·refine .inr ⟨hlt,Pv (i+1),λσ' H' p'=>⟨n - (i+1),by lia,rfl,hlt,p'⟩,λx H' y=>?_⟩
  obtain⟨e,y⟩:=y;subst e y;exact hs i σ _ hlt p
 ·have e:i=n:=by lia
  subst e;exact .inl ⟨mK _,hd σ H p⟩
abbrev R2:=V->V->Hp->VK->Prop
def OpR(X:Cx)(f:Value->Value->Sem Value)(r:R2):Prop:=
 ∀(pins:List (Addr×Obj))(s:Shared)(σ:St)(H:Hp)(x y:V)(v u:Value)(Q:VK),Inv X pins σ H s->RelV x v->RelV y u->r x y H Q->
  wpAny (model X.prog X.w) X.A (f v u) (EP X pins σ Q) X.xe s
def UnR(X:Cx)(f:Value->Sem Value)(r:V->Hp->VK->Prop):Prop:=
 ∀(pins:List (Addr×Obj))(s:Shared)(σ:St)(H:Hp)(x:V)(v:Value)(Q:VK),Inv X pins σ H s->RelV x v->r x H Q->
  wpAny (model X.prog X.w) X.A (f v) (EP X pins σ Q) X.xe s
def xY(X:Cx)(f:Value)(r:List V->Hp->VK->Prop):Prop:=
 ∀(pins:List (Addr×Obj))(s:Shared)(σ:St)(H:Hp)(xs:List V)(us:List Value)(Q:VK),Inv X pins σ H s->Vals xs us->r xs H Q->
  wpAny (model X.prog X.w) X.A (call f us) (EP X pins σ Q) X.xe s
def TruR(X:Cx)(r:V->Hp->(Bool->Hp->Prop)->Prop):Prop:=
 ∀(pins:List (Addr×Obj))(s:Shared)(σ:St)(H:Hp)(x:V)(v:Value)(Q:Bool->Hp->Prop),Inv X pins σ H s->RelV x v->r x H Q->
  wpAny (model X.prog X.w) X.A (truthy v) (TP X pins σ Q) X.xe s
def tOp(r:R2)(ta tb:TE):TE:=λσ H Q=>ta σ H λx H1=>tb σ H1 λy H2=>r x y H2 Q
def tUn(r:V->Hp->VK->Prop)(ta:TE):TE:=λσ H Q=>ta σ H λx H1=>r x H1 Q
def rI(C:Int->Int->Prop)(g:Int->Int->V):R2:=λx y H Q=>∃i j,x= .int i/\y= .int j/\C i j/\Q (g i j) H
def rI0(g:Int->Int->V):R2:=λx y H Q=>∃i j,x= .int i/\y= .int j/\Q (g i j) H
def rU(g:Int->V):V->Hp->VK->Prop:=λx H Q=>∃i,x= .int i/\Q (g i) H
section
variable{X:Cx}{a b c:Expr}{ta tb tc:TE}{pos:Pos}
theorem zYq(ha:PE X a ta)(hb:PE X b tb){pins:List (Addr×Obj)}{s:Shared}{σ:St}{H:Hp}{R:V->V->Hp->Prop}(I:Inv X pins σ H s)
  (h:ta σ H λx H1=>tb σ H1 λy H2=>R x y H2) {Q:Value->Shared->Prop} {f:Value->Value->Sem Value}
  (hf:∀v u s2 x y H2,Inv X pins σ H2 s2->RelV x v->RelV y u->R x y H2->wpAny (model X.prog X.w) X.A (f v u) Q X.xe s2):
  wpAny (model X.prog X.w) X.A (eval a X.env) (λv s₁=>wpAny (model X.prog X.w) X.A (eval b X.env) (λu s₂=>wpAny (model X.prog X.w) X.A (f v u) Q X.xe s₂) X.xe s₁) X.xe s:=by
 refine thn (ha pins s σ H _ I h) λv s1 z_=>?_;obtain⟨x,H1,I1,r1,q1⟩:=z_;refine thn (hb pins s1 σ H1 _ I1 q1) λu s2 z_=>?_;obtain⟨y,H2,I2,r2,q2⟩:=z_;exact hf v u s2 x y H2 I2 r1 r2 q2
theorem zI{op:Operator}{r:R2}(ho:OpR X (binaryOp op) r)(ha:PE X a ta)(hb:PE X b tb):PE X (.BinOp a op b pos) (tOp r ta tb):=by
 intro pins s σ H Q I h;exact wpAny_BinOp (zYq ha hb I h λv u s2 x y H2 I2 rx ry q=>ho pins s2 σ H2 x y v u Q I2 rx ry q)
theorem jT{op:UnaryOp}{r:V->Hp->VK->Prop}(ho:UnR X (unaryOp op) r)(ha:PE X a ta):PE X (.UnaryOp op a pos) (tUn r ta):=by
 intro pins s σ H Q I h;refine UnaryOp_ (thn (ha pins s σ H _ I h) λv s1 z_=>?_);obtain⟨x,H1,I1,r1,q1⟩:=z_;exact ho pins s1 σ H1 x v Q I1 r1 q1
theorem opI{f:Value->Value->Sem Value}{C:Int->Int->Prop}{g:Int->Int->Int}
  (rule:∀(i j:Int)(t u:Tok)(s:Shared)(Q:Value->Shared->Prop)(E:Value->Shared->Prop),C i j->Q (.int (g i j) s.toks) {s with toks:=s.toks+1}->wpAny (model X.prog X.w) X.A (f (.int i t) (.int j u)) Q E s):
  OpR X f (rI C λi j=>.int (g i j)):=by
 intro pins s σ H x y v u Q I rx ry h;obtain⟨i,j,rfl,rfl,hc,q⟩:=h;obtain⟨t,rfl⟩:=rx;obtain⟨t',rfl⟩:=ry;exact rule i j t t' s _ _ hc ⟨.int (g i j),H,I.tok _,⟨_,rfl⟩,q⟩
theorem opI0{f:Value->Value->Sem Value}{g:Int->Int->Int}
  (rule:∀(i j:Int)(t u:Tok)(s:Shared)(Q:Value->Shared->Prop)(E:Value->Shared->Prop),Q (.int (g i j) s.toks) {s with toks:=s.toks+1}->wpAny (model X.prog X.w) X.A (f (.int i t) (.int j u)) Q E s):
  OpR X f (rI0 λi j=>.int (g i j)):=by
 intro pins s σ H x y v u Q I rx ry h;obtain⟨i,j,rfl,rfl,q⟩:=h;obtain⟨t,rfl⟩:=rx;obtain⟨t',rfl⟩:=ry;exact rule i j t t' s _ _ ⟨.int (g i j),H,I.tok _,⟨_,rfl⟩,q⟩
theorem zVc{f:Value->Value->Sem Value}{g:Int->Int->Bool}
  (rule:∀(i j:Int)(t u:Tok)(s:Shared)(Q:Value->Shared->Prop)(E:Value->Shared->Prop),Q (.bool (g i j)) s->wpAny (model X.prog X.w) X.A (f (.int i t) (.int j u)) Q E s):
  OpR X f (rI0 λi j=>.bl (g i j)):=by
 intro pins s σ H x y v u Q I rx ry h;obtain⟨i,j,rfl,rfl,q⟩:=h;obtain⟨t,rfl⟩:=rx;obtain⟨t',rfl⟩:=ry;exact rule i j t t' s _ _ ⟨.bl (g i j),H,I,rfl,q⟩
def zUk(i j:Int):Prop:=0<j/\j<1073741824
def zRn(i j:Int):Prop:=0<=j/\j<=1000000/\i.natAbs<2 ^ 64
def CMul(i j:Int):Prop:=(-(2 ^ 64)<i/\i<2 ^ 64)\/(-(2 ^ 64)<j/\j<2 ^ 64)
theorem CMul.ok{i j:Int}(h:CMul i j):IntMulOk i j:=by
 rcases h with⟨h1,h2⟩|⟨h1,h2⟩
 ·exact .of_left (intBits_le_64 h1 h2)
 ·exact .of_right (intBits_le_64 h1 h2)
theorem yL:OpR X (binaryOp .Add) (rI0 λi j=>.int (i+j)):=opI0 λ_ _ _ _ _ _ _ q=>add_int q
theorem qB:OpR X (binaryOp .Sub) (rI0 λi j=>.int (i - j)):=opI0 λ_ _ _ _ _ _ _ q=>sub_int q
theorem wY:OpR X (binaryOp .Mult) (rI CMul λi j=>.int (i*j)):=opI λ_ _ _ _ _ _ _ hc q=>mul_int q hc.ok
theorem yG:OpR X (binaryOp .FloorDiv) (rI zUk λi j=>.int (i / j)):=opI λi j _ _ _ _ _ hc q=>by
 have h1:(0:Int)<j:=hc.1;have h2:j<1073741824:=hc.2;exact floordiv_int (by lia) (by rw[Int.fdiv_eq_ediv_of_nonneg i (by lia)];exact q) (.inl (PyProof.noPylong_small (by lia)))
theorem yB:OpR X (binaryOp .Mod) (rI (λ_ j=>0<j) λi j=>.int (i % j)):=opI λi j _ _ _ _ _ hc q=>by
 have h1:(0:Int)<j:=hc;exact mod_int' (by lia) (by rw[Int.fmod_eq_emod_of_nonneg i (by lia)];exact q)
theorem zCd:OpR X (binaryOp .Pow) (rI zRn λi j=>.int (i ^ j.toNat)):=opI λ_ _ _ _ _ _ _ hc q=>pow_int_small hc.1 hc.2.1 hc.2.2 q
theorem unI{f:Value->Sem Value}{g:Int->Int}
  (rule:∀(i:Int)(t:Tok)(s:Shared)(Q:Value->Shared->Prop)(E:Value->Shared->Prop),Q (.int (g i) s.toks) {s with toks:=s.toks+1}->wpAny (model X.prog X.w) X.A (f (.int i t)) Q E s):
  UnR X f (rU λi=>.int (g i)):=by
 intro pins s σ H x v Q I rx h;obtain⟨i,rfl,q⟩:=h;obtain⟨t,rfl⟩:=rx;exact rule i t s _ _ ⟨.int (g i),H,I.tok _,⟨_,rfl⟩,q⟩
theorem vU:UnR X (unaryOp .USub) (rU λi=>.int (-i)):=unI λ_ _ _ _ _ q=>neg_int q
def zNl:V->V->Bool
 | .non, .non=>true | .non, .int _=>true | .int _, .non=>true | .non, .bl _=>true | .bl _, .non=>true | .non, .str _=>true | .str _, .non=>true
 | .int _, .int _=>true | .bl _, .bl _=>true | .str _, .str _=>true | .byt _, .byt _=>true
 | .int _, .str _=>true | .str _, .int _=>true | .bl _, .str _=>true | .str _, .bl _=>true
 | _,_=>false
def rEq:R2:=λx y H Q=>zNl x y=true/\Q (.bl (decide (x=y))) H
def rNe:R2:=λx y H Q=>zNl x y=true/\Q (.bl (!decide (x=y))) H
theorem zLn{i j:Int}:decide (V.int i=V.int j)=(i==j):=by
 rw[tQ];simp
theorem zQm{i j:Bool}:decide (V.bl i=V.bl j)=(i==j):=by
 rw[tQ];simp
theorem zMh{i j:Str}:decide (V.str i=V.str j)=(i==j):=by
 rw[tQ];simp
theorem zLh{i j:Array UInt8}:decide (V.byt i=V.byt j)=(i.toList==j.toList):=by
 rw[tQ];cases i;cases j;simp
theorem yP{pins:List (Addr×Obj)}{σ:St}{H:Hp}{s:Shared}{Q:VK}{k k':Bool}(I:Inv X pins σ H s)(q:Q (.bl k) H)(e:k=k'):EP X pins σ Q (.bool k') s:=by
 subst e;exact⟨.bl k,H,I,rfl,q⟩
theorem zS:OpR X (compareOp .Eq) rEq:=by
 intro pins s σ H x y v u Q I rx ry h;obtain⟨hs,q⟩:=h
 cases x with
 | non=>
  cases rx
  cases y with
  | non=>cases ry;exact PySem.EqNone.eq_none_none (yP I q (by simp))
  | bl j=>cases ry;exact PySem.EqNone.eq_none_bool (yP I q (by simp))
  | int j=>obtain⟨t',rfl⟩:=ry;exact PySem.EqNone.eq_none_int (yP I q (by simp))
  | str j=>obtain⟨t',rfl⟩:=ry;exact PySem.EqNone.eq_none_str (yP I q (by simp))
  | _=>exact absurd (show false=true from hs) mO
 | bl i=>
  cases rx
  cases y with
  | non=>cases ry;exact PySem.EqNone.eq_bool_none (yP I q (by simp))
  | bl j=>cases ry;exact eq_bool (yP I q zQm)
  | str j=>obtain⟨t',rfl⟩:=ry;exact PySem.EqMixed.eq_bool_str (yP I q (by simp))
  | _=>exact absurd (show false=true from hs) mO
 | int i=>
  obtain⟨t,rfl⟩:=rx
  cases y with
  | non=>cases ry;exact PySem.EqNone.eq_int_none (yP I q (by simp))
  | int j=>obtain⟨t',rfl⟩:=ry;exact eq_int (yP I q zLn)
  | str j=>obtain⟨t',rfl⟩:=ry;exact PySem.EqMixed.eq_int_str (yP I q (by simp))
  | _=>exact absurd (show false=true from hs) mO
 | str i=>
  obtain⟨t,rfl⟩:=rx
  cases y with
  | non=>cases ry;exact PySem.EqNone.eq_str_none (yP I q (by simp))
  | bl j=>cases ry;exact PySem.EqMixed.eq_str_bool (yP I q (by simp))
  | int j=>obtain⟨t',rfl⟩:=ry;exact PySem.EqMixed.eq_str_int (yP I q (by simp))
  | str j=>obtain⟨t',rfl⟩:=ry;exact eq_str (yP I q zMh)
  | _=>exact absurd (show false=true from hs) mO
 | byt i=>
  obtain⟨t,rfl⟩:=rx
  cases y with
  | byt j=>obtain⟨t',rfl⟩:=ry;exact W.eq_bytes (yP I q zLh)
  | _=>exact absurd (show false=true from hs) mO
 | _=>cases y<;>exact absurd (show false=true from hs) mO
theorem qD:OpR X (compareOp .NotEq) rNe:=by
 intro pins s σ H x y v u Q I rx ry h;obtain⟨hs,q⟩:=h
 cases x with
 | non=>
  cases rx
  cases y with
  | non=>cases ry;exact PySem.EqNone.ne_none_none (yP I q (by simp))
  | bl j=>cases ry;exact PySem.EqNone.ne_none_bool (yP I q (by simp))
  | int j=>obtain⟨t',rfl⟩:=ry;exact PySem.EqNone.ne_none_int (yP I q (by simp))
  | str j=>obtain⟨t',rfl⟩:=ry;exact PySem.EqNone.ne_none_str (yP I q (by simp))
  | _=>exact absurd (show false=true from hs) mO
 | bl i=>
  cases rx
  cases y with
  | non=>cases ry;exact PySem.EqNone.ne_bool_none (yP I q (by simp))
  | bl j=>cases ry;exact ne_bool (yP I q (congrArg not zQm))
  | str j=>obtain⟨t',rfl⟩:=ry;exact PySem.EqMixed.ne_bool_str (yP I q (by simp))
  | _=>exact absurd (show false=true from hs) mO
 | int i=>
  obtain⟨t,rfl⟩:=rx
  cases y with
  | non=>cases ry;exact PySem.EqNone.ne_int_none (yP I q (by simp))
  | int j=>obtain⟨t',rfl⟩:=ry;exact ne_int (yP I q (congrArg not zLn))
  | str j=>obtain⟨t',rfl⟩:=ry;exact PySem.EqMixed.ne_int_str (yP I q (by simp))
  | _=>exact absurd (show false=true from hs) mO
 | str i=>
  obtain⟨t,rfl⟩:=rx
  cases y with
  | non=>cases ry;exact PySem.EqNone.ne_str_none (yP I q (by simp))
  | bl j=>cases ry;exact PySem.EqMixed.ne_str_bool (yP I q (by simp))
  | int j=>obtain⟨t',rfl⟩:=ry;exact PySem.EqMixed.ne_str_int (yP I q (by simp))
  | str j=>obtain⟨t',rfl⟩:=ry;exact ne_str (yP I q (congrArg not zMh))
  | _=>exact absurd (show false=true from hs) mO
 | byt i=>
  obtain⟨t,rfl⟩:=rx
  cases y with
  | byt j=>obtain⟨t',rfl⟩:=ry;exact W.ne_bytes (yP I q (congrArg not zLh))
  | _=>exact absurd (show false=true from hs) mO
 | _=>cases y<;>exact absurd (show false=true from hs) mO
theorem zEu:OpR X (compareOp .Lt) (rI0 λi j=>.bl (decide (i<j))):=zVc λ_ _ _ _ _ _ _ q=>lt_int q
theorem zAp:OpR X (compareOp .LtE) (rI0 λi j=>.bl (decide (i<=j))):=zVc λ_ _ _ _ _ _ _ q=>le_int q
theorem wW:OpR X (compareOp .Gt) (rI0 λi j=>.bl (decide (j<i))):=zVc λ_ _ _ _ _ _ _ q=>gt_int q
theorem zTf:OpR X (compareOp .GtE) (rI0 λi j=>.bl (decide (j<=i))):=zVc λ_ _ _ _ _ _ _ q=>ge_int q
theorem zOh:OpR X (compareOp .In) (λx y H Q=>∃i j,x= .str i/\y= .str j/\Q (.bl (!(Builtin.Str.occurrences j i 0 j.length 1).isEmpty)) H):=by
 intro pins s σ H x y v u Q I rx ry h;obtain⟨i,j,rfl,rfl,q⟩:=h;obtain⟨t,rfl⟩:=rx;obtain⟨t',rfl⟩:=ry;exact in_str (yP I q rfl)
theorem zJ(b:Expr){op:CmpOp}(h:op≠ .In:=by decide)(h2:op≠ .NotIn:=by decide):behindInMarks op b=false:=by
 have e1:(op==CmpOp.In)=false:=by cases op<;>first | rfl | exact absurd rfl h
 have e2:(op==CmpOp.NotIn)=false:=by cases op<;>first | rfl | exact absurd rfl h2
 cases b<;>simp[behindInMarks,e1,e2]
theorem zW{op:CmpOp}{r:R2}(ho:OpR X (compareOp op) r)(ha:PE X a ta)(hb:PE X b tb)(hm:behindInMarks op b=false):PE X (.Compare a [op] [b] pos) (tOp r ta tb):=by
 intro pins s σ H Q I h;exact wpAny_Compare1 (zYq ha hb I h λv u s2 x y H2 I2 rx ry q=>ho pins s2 σ H2 x y v u Q I2 rx ry q) hm
def zIs(t:TE):TT:=λσ H Q=>t σ H λx H'=>∃k,x= .bl k/\Q k H'
theorem zK{op:CmpOp}{r:R2}(ho:OpR X (compareOp op) r)(ha:PE X a ta)(hb:PE X b tb)(hm:behindInMarks op b=false):PT X (.Compare a [op] [b] pos) (zIs (tOp r ta tb)):=by
 intro pins s σ H Q I h;refine wpAny_isTrue_Compare1 (thn (ha pins s σ H _ I h) λv s1 ⟨x,H1,I1,r1,q1⟩=>thn (hb pins s1 σ H1 _ I1 q1) λu s2 ⟨y,H2,I2,r2,q2⟩=>
  thn (ho pins s2 σ H2 x y v u _ I2 r1 r2 q2) λc s3 ⟨z,H3,I3,r3,k,e,q3⟩=>?_) hm
 subst e;cases r3;exact rM ⟨H3,I3,q3⟩
def zCa(r r':R2)(ta tb tc:TE):TE:=λσ H Q=>ta σ H λx H1=>tb σ H1 λy H2=>r x y H2 λz H3=>∃k,z= .bl k/\
 (if k=true then tc σ H3 λw' H4=>r' y w' H4 Q else Q (.bl false) H3)
theorem zTe{op op':CmpOp}{r r':R2}(ho:OpR X (compareOp op) r)(ho':OpR X (compareOp op') r')(ha:PE X a ta)(hb:PE X b tb)(hc:PE X c tc)
  (hm:lastMarks [op,op'] [b,c]=false:=by with_unfolding_all rfl):PE X (.Compare a [op,op'] [b,c] pos) (zCa r r' ta tb tc):=by
 intro pins s σ H Q I h;refine Compare_chain (thn (ha pins s σ H _ I h) λv s1 ⟨x,H1,I1,r1,q1⟩=>chain_link (thn (hb pins s1 σ H1 _ I1 q1) λu s2 ⟨y,H2,I2,r2,q2⟩=>
  thn (ho pins s2 σ H2 x y v u _ I2 r1 r2 q2) λd s3 ⟨z,H3,I3,r3,k,e,q3⟩=>?_)) hm
 subst e;cases r3;refine rM ?_
 cases k with
 | false=>exact ite_ff ⟨.bl false,H3,I3,rfl,q3⟩
 | true=>exact ite_tt (chain_last (thn (hc pins s3 σ H3 _ I3 q3) λw' s4 ⟨z',H4,I4,r4,q4⟩=>ho' pins s4 σ H4 y z' u w' Q I4 r2 r4 q4))
def TruV(K:W.Frag)(x:V)(H:Hp)(k:Bool):Prop:=
 match x with
 | .non=>k=false
 | .bl b=>k=b
 | .int i=>k=(i !=0)
 | .str y=>y.length<=sizeLine/\k=((y.length:Int) !=0)
 | .byt y=>y.size<=sizeLine/\k=((y.size:Int) !=0)
 | .ref p=>(∃xs,SqL K H p xs/\k= !xs.isEmpty)\/(∃xs,SqT K H p xs/\k= !xs.isEmpty)\/∃kvs,H p=some (.dK kvs)/\k= !kvs.isEmpty
 | _=>False
theorem zKj{κ:Type}{kvs:List (κ×V)}{vs:List (κ×Value)}(r:KV kvs vs):(!vs.isEmpty)= !kvs.isEmpty:=by
 cases r<;>rfl
theorem zBw{xs:List V}{its:List Value}(r:Vals xs its):(!its.toArray.isEmpty)= !xs.isEmpty:=by
 cases r<;>simp
theorem kY:(sizeLine:Nat)<2 ^ 63:=by rw[mJ];decide
theorem zYs:TruR X (λx H Q=>∃k,TruV X.K x H k/\Q k H):=by
 intro pins s σ H x v Q I rx h;obtain⟨k,e,q⟩:=h;have hl:=kY;have hs:sizeLine=16777216:=mJ
 cases x with
 | non=>
  cases rx;have e':k=false:=e;subst e';exact truthy_none ⟨H,I,q⟩
 | bl b=>
  cases rx;have e':k=b:=e;subst e';exact rM ⟨H,I,q⟩
 | int i=>
  obtain⟨t,rfl⟩:=rx;have e':k=(i !=0):=e;subst e';exact PySem.P.truthy_int ⟨H,I,q⟩
 | str y=>
  obtain⟨t,rfl⟩:=rx;obtain⟨hy,e'⟩:y.length<=sizeLine/\k=((y.length:Int) !=0):=e;subst e';exact PySem.P.truthy_str (by lia) ⟨H,I.tok _,q⟩
 | byt y=>
  obtain⟨t,rfl⟩:=rx;obtain⟨hy,e'⟩:y.size<=sizeLine/\k=((y.size:Int) !=0):=e;subst e';exact W.truthy_bytes (by lia) ⟨H,I.tok _,q⟩
 | ref p=>
  cases rx;have e':(∃xs,SqL X.K H p xs/\k= !xs.isEmpty)\/(∃xs,SqT X.K H p xs/\k= !xs.isEmpty)\/∃kvs,H p=some (.dK kvs)/\k= !kvs.isEmpty:=e;rcases e' with⟨xs,hx,e'⟩|⟨xs,hx,e'⟩|⟨kvs,hx,e'⟩
  ·subst e'
   obtain⟨its,r,pl,hz⟩:=I.list hx;have hlen:=r.length;exact wpAny_truthy_list pl.isList (by simp only[nE];lia) ⟨H,I.tok _,by rw[zBw r];exact q⟩
  ·subst e'
   obtain⟨its,r,pl,hz⟩:=I.tuple hx;have hlen:=r.length;exact truthy_tuple pl (by simp only[nE];lia) ⟨H,I.tok _,by rw[zBw r];exact q⟩
  ·subst e'
   obtain⟨hz,hS,vs,r,m⟩:kvs.length<=sizeLine/\(p==sysModules)=false/\∃vs,KV kvs vs/\s.heap.DictOf (yR X.prog X.w) p vs:=I.hok p _ hx;have hlen:kvs.length=vs.length:=Paired.length r;exact wpAny_truthy_dict hS m (by lia) ⟨H,I.tok _,by rw[zKj r];exact q⟩
 | _=>exact(show False from e).elim
theorem zHa(ha:PE X a ta)(he:∀whole,isTrue a X.env whole=(do let v <-whole;standAt a.pos;holding [v] (truthy v))):
  PT X a (λσ H Q=>ta σ H λx H'=>∃k,TruV X.K x H' k/\Q k H'):=by
 intro pins s σ H Q I h;refine isTrue_plain (thn (ha pins s σ H _ I h) λv s1 z_=>?_) (he _);obtain⟨x,H1,I1,r1,q1⟩:=z_;exact zYs pins s1 σ H1 x v Q I1 r1 q1
theorem yY:OpR X (binaryOp .Add) (λx y H Q=>∃i j,x= .str i/\y= .str j/\i.length+j.length<=sizeLine/\Q (.str (i++j)) H):=by
 intro pins s σ H x y v u Q I rx ry h;obtain⟨i,j,rfl,rfl,hz,q⟩:=h;obtain⟨t,rfl⟩:=rx;obtain⟨t',rfl⟩:=ry;exact add_str (λt' tk=>⟨.str (i++j),H,I.tok _,⟨_,rfl⟩,q⟩) hz
theorem jL{x:V}{us:List Value}(r:Vals [x] us):∃u,us= [u]/\RelV x u:=by
 cases r with
 | cons r1 r2=>cases r2;exact⟨_,rfl,r1⟩
theorem zDr{x y:V}{us:List Value}(r:Vals [x,y] us):∃u w',us= [u,w']/\RelV x u/\RelV y w':=by
 cases r with
 | cons r1 r2=>
  cases r2 with
  | cons r3 r4=>cases r4;exact⟨_,_,rfl,r1,r3⟩
theorem zJg:xY X (.builtin "abs") (λxs H Q=>∃i,xs= [.int i]/\Q (.int (if i<0 then -i else i)) H):=by
 intro pins s σ H xs us Q I r h;obtain⟨i,rfl,q⟩:=h;obtain⟨u,rfl,t,rfl⟩:=jL r;exact call_abs_int λu tk=>⟨.int (if i<0 then -i else i),H,I.tok _,⟨_,rfl⟩,q⟩
theorem zNx(hc:X.calm=true):xY X (.builtin "max") (λxs H Q=>∃i j,xs= [.int i, .int j]/\Q (.int (if j>i then j else i)) H):=by
 intro pins s σ H xs us Q I r h;obtain⟨i,j,rfl,q⟩:=h;obtain⟨u,w',rfl,⟨t,rfl⟩,⟨t',rfl⟩⟩:=zDr r;refine max_two_ints (I.ok.hd.1 hc) λh' tk k=>⟨_,H,I.kept k, ?_,q⟩
 by_cases hj:j>i
 ·rw[mL hj,mL hj];exact⟨_,rfl⟩
 ·rw[mG hj,mG hj];exact⟨_,rfl⟩
theorem zEa(hc:X.calm=true):xY X (.builtin "min") (λxs H Q=>∃i j,xs= [.int i, .int j]/\Q (.int (if j<i then j else i)) H):=by
 intro pins s σ H xs us Q I r h;obtain⟨i,j,rfl,q⟩:=h;obtain⟨u,w',rfl,⟨t,rfl⟩,⟨t',rfl⟩⟩:=zDr r;refine min_two_ints (I.ok.hd.1 hc) λh' tk k=>⟨_,H,I.kept k, ?_,q⟩
 by_cases hj:j<i
 ·rw[mL hj,mL hj];exact⟨_,rfl⟩
 ·rw[mG hj,mG hj];exact⟨_,rfl⟩
theorem zNy:xY X (.type "int") (λxs H Q=>(∃i,xs= [.int i]/\Q (.int i) H)\/∃k,xs= [.bl k]/\Q (.int (if k then 1 else 0)) H):=by
 intro pins s σ H xs us Q I r h;rcases h with⟨i,rfl,q⟩|⟨k,rfl,q⟩
 ·obtain⟨u,rfl,t,rfl⟩:=jL r
  exact call_int_int ⟨.int i,H,I,⟨_,rfl⟩,q⟩
 ·obtain⟨u,rfl,r1⟩:=jL r
  cases r1;exact call_int_bool ⟨.int (if k then 1 else 0),H,I.tok _,⟨_,rfl⟩,q⟩
theorem wF:xY X (.type "str") (λxs H Q=>∃i,xs= [.int i]/\i.natAbs.log2<1920/\Q (.str (toString i)) H):=by
 intro pins s σ H xs us Q I r h;obtain⟨i,rfl,hz,q⟩:=h;obtain⟨u,rfl,t,rfl⟩:=jL r;exact PySem.P.str_of_int hz ⟨.str _,H,I.tok _,⟨_,rfl⟩,q⟩
theorem zTr:xY X (.builtin "ord") (λxs H Q=>∃x,xs= [.str x]/\x.length=1/\Q (.int (x.cps.getD 0 0:Nat)) H):=by
 intro pins s σ H xs us Q I r h;obtain⟨x,rfl,hz,q⟩:=h;obtain⟨u,rfl,t,rfl⟩:=jL r;exact ord_of_one hz ⟨.int _,H,I.tok _,⟨_,rfl⟩,q⟩
end
structure ObjM(h:Heap)(x dx C:Addr)(mA:Str->Option Value):Prop where
 obj:h.get? x=some (W.instObj C dx)
 ns:h.Ns1 dx mA
 ne:dx≠x
theorem uY{h:Heap}{dx:Addr}{mA:Str->Option Value}(n:h.Ns1 dx mA):∃od,h.get? dx=some od/\∀name,W.lookIn name od=some (mA name):=by
 obtain⟨o,es,ep,ho,hd,hk,_,hm⟩:=n;refine⟨o,ho,λname=>?_⟩;have e:=hm name;unfold nsFind findBy at e;rw[<-Array.find?_toList] at e;unfold W.lookIn;rw[hd];dsimp only;split
 ·rename_i y q
  rw[q] at e;exact congrArg some e
 ·rename_i q
  rw[q] at e;have a:es.toList.any (·.refKey)=false:=by
   rw[List.any_eq_false];intro y hy;obtain⟨z,t,hkey⟩:=hk y (Array.mem_toList_iff.mp hy);simp[DictEntry.refKey,hkey]
  have a':¬es.toList.any (·.refKey)=true:=by rw[a];exact mO
  rw[mG a'];exact congrArg some e
theorem ObjM.look{h:Heap}{x dx C:Addr}{mA:Str->Option Value}(I:ObjM h x dx C mA):∃od,W.InstAt h x (W.instObj C dx) C (some od)/\∀name,W.lookIn name od=some (mA name):=
 let ⟨od,ho,hl⟩:=uY I.ns
 ⟨od,⟨I.obj,rfl,rfl,ho⟩,hl⟩
section
variable{prog:Program}{w:World}{A:Around}{E:Value->Shared->Prop}{s:Shared}{K:W.Frag}{x dx C f:Addr}{mA:Str->Option Value}{name:Str}{v:Value}
theorem zWd{expr:Bool}{Q:Value->Shared->Prop}(X:K.In s.heap)(I:ObjM s.heap x dx C mA)(hg:W.plainGet K C name=true)(hh:W.hasDictIn K C=true)
  (ha:W.findIn K (.ref C) name=some none) (hv:mA name=some v) (hv':W.handedIn v=true) (h:Q v {s with toks:=s.toks+1}):
  wpAny (model prog w) A (getAttr (.ref x) name expr) Q E s:=by
 obtain⟨od,J,hl⟩:=I.look;exact W.get_value X J (W.plainGet_of hg).1 (W.findObj_own hh ha rfl (by rw[hl,hv])) hv' h
theorem zQv{pl:Sem Bool}{Q:Value×List Value->Shared->Prop}(X:K.In s.heap)(I:ObjM s.heap x dx C mA)(hg:W.plainGet K C name=true)
  (hf:W.findIn K (.ref C) name=some (some (.ref f))) (ht:W.isFn K (.ref f)=true) (hv:mA name=none) (h:Q (.ref f,[.ref x]) s):
  wpAny (model prog w) A (getMethod (.ref x) name pl) Q E s:=by
 obtain⟨od,J,hl⟩:=I.look;exact W.method_fn X J (W.plainGet_of hg).1 (W.plainGet_of hg).2 hf (aW.mp ht) (by show(W.lookIn name od).map (·.isSome)=some false;rw[hl,hv];rfl) h
theorem zVd{ns:List Str}{Q:Unit->Shared->Prop}(X:K.In s.heap)(I:ObjM s.heap x dx C mA)
  (hs:W.findIn K (.ref C) "__setattr__" =some (some (.builtin "object.__setattr__"))) (hp:W.plainOver K C=true) (ht:W.takerIn K C name=some none) (hh:W.hasDictIn K C=true)
  (hw:PySem.Within mA ns) (hsz:ns.length<=sizeLine)
  (h:∀h',ObjM h' x dx C (λy=>if y=name then some v else mA y)->Heap.SameBut dx s.heap h'->Q () {s with heap:=h',toks:=s.toks+2}):
  wpAny (model prog w) A (setAttr (.ref x) name v) Q E s:=by
 obtain⟨od,J,hl⟩:=I.look;refine W.set_plain X J hs (W.osa_open (s:={s with toks:=s.toks+1}) (r:=none) X J hp ht λb=>?_);obtain⟨cd,hc,hd'⟩:=W.any_some hh;have hx:s.heap.get? x=some ⟨.ref C,some dx, .plain,#[]⟩:=I.obj;refine mD (mQ (mD (mD (wpAny_loadPart hx (mD (W.Looks.here (s:={s with toks:=s.toks+1}) (W.looks_clsIn X hc) ?_))))));rw[hd'];refine mQ (a:=some dx) (mD (mQ (mD ?_)));refine wpAny_nsSet1 (s:={s with toks:=s.toks+1}) I.ns λh' hn2 hs2=>?_;obtain⟨oD,esD,epD,hoD,hdD,hcD⟩:=hn2.count (PySem.Within.cons name v hw);refine mD (wpAny_lookBehind hoD (by rw[hdD];exact pastItsLine_dict (nN hcD (by rw[mE];lia))) ?_);exact mQ (h _ ⟨(hs2.2 _ (Ne.symm I.ne)).trans I.obj,hn2,I.ne⟩ hs2)
theorem zPy{R:Result->Shared->Prop}{vs:List Value}{kw:List (Str×Value)}(X:K.In s.heap)(hm:W.makesIn K C=true)
  (hi:W.findIn K (.ref C) "__init__" =some (some (.ref f))) (hf:W.typeIn K (.ref f)=some (.type "function"))
  (h:codeAny (model prog w) (A.under (.builtin "type.__call__" ⟨.ref C::vs,kw⟩)) (.call (.ref f) ⟨.ref (s.heap.objs.size+1)::vs,kw⟩) (W.InitBack (s.heap.objs.size+1) R)
   {s with heap:=(s.heap.push W.emptyDict).push (W.instObj C s.heap.objs.size)}):
  codeAny (model prog w) A (.call (.ref C) ⟨vs,kw⟩) R s:=by
 obtain⟨hh,g,d,t,os⟩:=s;exact W.make_core (W.makes_of X hm) (W.looks_findIn X hi) (λself=>W.bind_fn X self hf) (.inl rfl) h
end
def wC(f:Str)(v:V):List (Str×V)->List (Str×V)
 | []=>[(f,v)]
 |(g,x)::r=>if g=f then(g,v)::r else(g,x)::wC f v r
theorem zAn(f g:Str)(v:V):∀fs:List (Str×V),(wC f v fs).lookup g=if g=f then some v else fs.lookup g
 | []=>by
  show List.lookup g [(f,v)]=_
  by_cases h:g=f
  ·have hb:(g==f)=true:=aW.mpr h
   simp only[List.lookup,hb,mL h]
  ·have hb:(g==f)=false:=rW.mpr h
   simp only[List.lookup,hb,mG h]
 |(k,x)::r=>by
  have ih:=zAn f g v r;rw[show wC f v ((k,x)::r)=(if k=f then(k,v)::r else(k,x)::wC f v r) from rfl]
  by_cases hk:k=f
  ·rw[mL hk]
   by_cases h:g=k
   ·have hb:(g==k)=true:=aW.mpr h
    simp only[List.lookup,hb,mL (h.trans hk)]
   ·have hb:(g==k)=false:=rW.mpr h
    simp only[List.lookup,hb,mG (λe:g=f=>h (e.trans hk.symm))]
  ·rw[mG hk]
   by_cases h:g=k
   ·have hb:(g==k)=true:=aW.mpr h
    simp only[List.lookup,hb,mG (λe:g=f=>hk (h.symm.trans e))]
   ·have hb:(g==k)=false:=rW.mpr h
    simp only[List.lookup,hb];exact ih
theorem uU(f:Str)(v:V):∀fs:List (Str×V),f∈(wC f v fs).map (·.1)/\∀g,g∈fs.map (·.1)->g∈(wC f v fs).map (·.1)
 | []=>⟨by simp[wC],λg h=>by simp at h⟩
 |(k,x)::r=>by
  obtain⟨i1,i2⟩:=uU f v r;rw[show wC f v ((k,x)::r)=(if k=f then(k,v)::r else(k,x)::wC f v r) from rfl]
  by_cases hk:k=f
  ·rw[mL hk]
   subst hk;exact⟨by simp,λg h=>by simpa using h⟩
  ·rw[mG hk]
   refine⟨?_,λg h=>?_⟩
   ·rw[nD]
    exact mR _ i1
   ·rw[nD] at h⊢
    rcases mF.mp h with e | e
    ·exact mF.mpr (.inl e)
    ·exact mR _ (i2 g e)
theorem zAk(f:Str)(v:V):∀fs:List (Str×V),(wC f v fs).length<=fs.length+1
 | []=>by simp[wC]
 |(k,x)::r=>by
  have ih:=zAk f v r;rw[show wC f v ((k,x)::r)=(if k=f then(k,v)::r else(k,x)::wC f v r) from rfl]
  by_cases hk:k=f
  ·rw[mL hk,mE,mE];lia
  ·rw[mG hk,mE,mE];lia
theorem RelO.some_of{v:V}{o:Option Value}(r:RelO (some v) o):∃u,o=some u/\RelV v u:=by
 cases o with
 | none=>exact(show False from r).elim
 | some u=>exact⟨u,rfl,r⟩
theorem RelO.none_of{o:Option Value}(r:RelO none o):o=none:=by
 cases o with
 | none=>rfl
 | some u=>exact(show False from r).elim
theorem zNu{v:V}{u:Value}(r:RelV v u):W.handedIn u=true:=by
 cases v with
 | non=>cases (show u=Value.none from r);rfl
 | bl b=>cases (show u=Value.bool b from r);rfl
 | int i=>obtain⟨t,e⟩:=(show∃t,u=Value.int i t from r);cases e;rfl
 | str x=>obtain⟨t,e⟩:=(show∃t,u=Value.str x t from r);cases e;rfl
 | byt b=>obtain⟨t,e⟩:=(show∃t,u=Value.bytes b t from r);cases e;rfl
 | flt b=>obtain⟨t,e⟩:=(show∃t,u=Value.float b t from r);cases e;rfl
 | ref a=>cases (show u=Value.ref a from r);rfl
 | ty n=>cases (show u=Value.type n from r);rfl
section
variable{P:Program}{w:World}{H H':Hp}{h h':Heap}{a C dx:Addr}{fs fs':List (Str×V)}
theorem zAx(hok:HOk P w H h)(e:H a=some (.ins C dx fs)):∃mA,ObjM h a dx C mA/\(∀f,RelO (fs.lookup f) (mA f))/\PySem.Within mA (fs.map (·.1))/\fs.length<=1000/\H dx=some (.own a):=by
 obtain⟨d,z,ne,ob,mA,n,r,q⟩:=(show ObjOk P w H h a (.ins C dx fs) from hok a _ e);exact⟨mA,⟨ob,n,ne⟩,r,q,z,d⟩
end
structure Cls(K:W.Frag)(C:Addr):Prop where
 pg:W.plainGet K C Str.empty=true
 hd:W.hasDictIn K C=true
 po:W.plainOver K C=true
 sa:W.findIn K (.ref C) "__setattr__" =some (some (.builtin "object.__setattr__"))
theorem Cls.get{K:W.Frag}{C:Addr}(c:Cls K C)(f:Str):W.plainGet K C f=true:=c.pg
def NoAttr(K:W.Frag)(C:Addr)(f:Str):Prop:=W.findIn K (.ref C) f=some none
theorem NoAttr.taker{K:W.Frag}{C:Addr}{f:Str}(n:NoAttr K C f):W.takerIn K C f=some none:=by
 unfold W.takerIn;rw[show W.findIn K (.ref C) f=some none from n]
 rfl
structure Con(K:W.Frag)(C:Addr)(f:Str)(v:V)(u:Value):Prop where
 at_:W.findIn K (.ref C) f=some (some u)
 rel:RelV v u
 get:W.specialIn K u "__get__" =some none
 cp:W.copiedNames.contains f=false
structure zGy(K:W.Frag)(C:Addr)(m:Str)(f:Addr):Prop where
 at_:W.findIn K (.ref C) m=some (some (.ref f))
 fn:W.isFn K (.ref f)=true
 kp:W.keepIn K (.ref f)=true
section
variable{X:Cx}{pins:List (Addr×Obj)}{σ:St}{H:Hp}{s:Shared}{a C dx:Addr}{fs:List (Str×V)}{f:Str}{v:V}{A:Around}{E:Value->Shared->Prop}
theorem zCc{b:Bool}{Q:Value->Shared->Prop}(I:Inv X pins σ H s)(e:H a=some (.ins C dx fs))(c:Cls X.K C)(n:NoAttr X.K C f)(l:fs.lookup f=some v)
  (h:∀u s',Inv X pins σ H s'->RelV v u->Q u s'):wpAny (model X.prog X.w) A (getAttr (.ref a) f b) Q E s:=by
 obtain⟨mA,O,r,_,_,_⟩:=zAx I.hok e;obtain⟨u,hu,ru⟩:=RelO.some_of (v:=v) (o:=mA f) (by rw[<-l];exact r f);exact zWd I.kIn O (c.get f) c.hd n hu (zNu ru) (h u _ (I.tok _) ru)
theorem zKs{m:Str}{g:Addr}{pl:Sem Bool}{Q:Value×List Value->Shared->Prop}(I:Inv X pins σ H s)(e:H a=some (.ins C dx fs))(c:Cls X.K C)(k:zGy X.K C m g)(l:fs.lookup m=none)
  (h:Q (.ref g,[.ref a]) s):wpAny (model X.prog X.w) A (getMethod (.ref a) m pl) Q E s:=by
 obtain⟨mA,O,r,_,_,_⟩:=zAx I.hok e;have hn:mA m=none:=RelO.none_of (by rw[<-l];exact r m);exact zQv I.kIn O (c.get m) k.at_ k.fn hn h
theorem zCu{y:V}{u:Value}{Q:Unit->Shared->Prop}(I:Inv X pins σ H s)(e:H a=some (.ins C dx fs))(c:Cls X.K C)(n:NoAttr X.K C f)(hl:fs.length<1000)(ry:RelV y u)
  (h:∀s',Inv X pins σ (upd H a (.ins C dx (wC f y fs))) s'->Q () s'):wpAny (model X.prog X.w) A (setAttr (.ref a) f u) Q E s:=by
 obtain⟨mA,O,r,wi,_,ho⟩:=zAx I.hok e;have hz:(fs.map (·.1)).length<=sizeLine:=by rw[nA,mJ];lia
 refine zVd I.kIn O c.sa c.po n.taker c.hd wi hz λh' O' sb=>h _ ?_;have hd:∃o,h'.get? dx=some o:=let ⟨o,_,_,e',_⟩:=O'.ns;⟨o,e'⟩;refine I.write (x:=a) (e:=dx) (by rw[e];exact nJ) (.inr ho) (λb q hb z=>(sb.2 b hb).trans z) hd ?_;refine⟨by rw[zN O.ne];exact ho, ?_,O.ne,O'.obj,_,O'.ns,λg=>?_,λg hg=>?_⟩
 ·have:=zAk f y fs;lia
 ·show RelO ((wC f y fs).lookup g) (if g=f then some u else mA g)
  rw[zAn]
  by_cases q:g=f
  ·rw[mL q,mL q];exact ry
  ·rw[mG q,mG q];exact r g
 ·by_cases q:g=f
  ·rw[q];exact(uU f y fs).1
  ·refine(uU f y fs).2 g (wi g λz=>hg ?_)
   show(if g=f then some u else mA g)=none;rw[mG q];exact z
theorem Inv.made(I:Inv X pins σ H s):Inv X pins σ (upd (upd H s.heap.objs.size (.own (s.heap.objs.size+1))) (s.heap.objs.size+1) (.ins C s.heap.objs.size []))
  {s with heap:=(s.heap.push W.emptyDict).push (W.instObj C s.heap.objs.size)}:=by
 have e1:(s.heap.push W.emptyDict).get? s.heap.objs.size=some W.emptyDict:=nI s.heap rfl;have e2:((s.heap.push W.emptyDict).push (W.instObj C s.heap.objs.size)).get? (s.heap.objs.size+1)=some (W.instObj C s.heap.objs.size):=by
  have:=nI (s.heap.push W.emptyDict) (o:=W.instObj C s.heap.objs.size) rfl
  rwa [tE] at this
 have e3:(s.heap.push W.emptyDict).Ns s.heap.objs.size (λ_=>none):=⟨W.emptyDict,#[],_,e1,rfl,(λe he=>absurd he (by simp)),λ_=>rfl⟩;have I1:=I.laid (a:=s.heap.objs.size) (o:=.own (s.heap.objs.size+1)) (h':=s.heap.push W.emptyDict) (t':=s.toks) (λb u q=>mI _ q) (mK _) ⟨_,e1⟩;refine I1.laid (a:=s.heap.objs.size+1) (o:=.ins C s.heap.objs.size []) (t':=s.toks) (λb u q=>mI _ q) (Nat.le_of_eq (tE _ _)) ?_;have ne:s.heap.objs.size≠s.heap.objs.size+1:=nR (sO _);refine⟨by rw[zN ne,zF],pW _,ne,e2,λ_=>none,(Heap.Ns1.of_empty e3).at λo q=>mI _ q,λ_=>nJ,λy hy=>absurd rfl hy⟩
theorem zLq{prog:Program}{w:World}{env:Env}{e:Expr}{f:Str}{pos:Pos}{s:Shared}{Q:Value->Shared->Prop}(hb:attributeBase e f env (eval e env)=eval e env)
  (h:wpAny (model prog w) A (eval e env) (λo s₁=>wpAny (model prog w) A (getAttr o f true) Q E s₁) E s):wpAny (model prog w) A (eval (.Attribute e f pos) env) Q E s:=
 Attribute_any_ h (by rw[arm_eval_Attribute,hb])
end
def zZz(K:W.Frag)(ta:TE)(f:Str):TE:=λσ H Q=>ta σ H λx H1=>∃a C dx fs v,x= .ref a/\H1 a=some (.ins C dx fs)/\Cls K C/\NoAttr K C f/\fs.lookup f=some v/\Q v H1
def zZn(K:W.Frag)(ta tv:TE)(f:Str):TS:=λD σ H=>tv σ H λy H1=>ta σ H1 λx H2=>∃a C dx fs,x= .ref a/\H2 a=some (.ins C dx fs)/\Cls K C/\NoAttr K C f/\fs.length<1000/\
 D.nx σ (upd H2 a (.ins C dx (wC f y fs)))
def zXz(X:Cx)(op:Operator)(rd:V->V->Hp->VK->Prop):Prop:=
 ∀(pins:List (Addr×Obj))(s:Shared)(σ:St)(H:Hp)(x y:V)(u v:Value)(Q:VK),Inv X pins σ H s->RelV x u->RelV y v->rd x y H Q->wpAny (model X.prog X.w) X.A (inplaceOp op u v) (EP X pins σ Q) X.xe s
def zFw(K:W.Frag)(ta tv:TE)(rd:V->V->Hp->VK->Prop)(f:Str):TS:=λD σ H=>ta σ H λx H1=>∃a C dx fs v,x= .ref a/\H1 a=some (.ins C dx fs)/\Cls K C/\NoAttr K C f/\fs.lookup f=some v/\
 tv σ H1 λy H2=>rd v y H2 λz H3=>∃dx' fs',H3 a=some (.ins C dx' fs')/\fs'.length<1000/\D.nx σ (upd H3 a (.ins C dx' (wC f z fs')))
section
variable{X:Cx}{o e value:Expr}{f:Str}{pos pos' tpos:Pos}{ta tv:TE}
theorem qZ(he:PE X e ta)(hb:attributeBase e f X.env (eval e X.env)=eval e X.env):PE X (.Attribute e f pos) (zZz X.K ta f):=by
 intro pins s σ H Q I h;refine zLq hb (thn (he pins s σ H _ I h) λu s1 z_=>?_);obtain⟨x,H1,I1,rx,a,C,dx,fs,v,ex,ea,c,n,l,q⟩:=z_;subst ex;obtain rfl:u=Value.ref a:=rx;exact zCc I1 ea c n l λu' s2 I2 ru=>⟨v,H1,I2,ru,q⟩
theorem zKr(ha:PE X o ta)(hv:PE X value tv)(hs:swapsWith value (some (.Attribute o f pos')) pos.line X.env=pure false):PS X (.Assign [.Attribute o f pos'] value pos) (zZn X.K ta tv f):=by
 intro pins s σ H D I h;refine bO (thn (hv pins s σ H _ I h) λu s1 z_=>?_) hs;obtain⟨y,H1,I1,ry,q⟩:=z_;refine thn (ha pins s1 σ H1 _ I1 q) λov s2 z_=>?_;obtain⟨x,H2,I2,rx,a,C,dx,fs,ex,ea,c,n,l,q2⟩:=z_;subst ex;obtain rfl:ov=Value.ref a:=rx;exact zCu I2 ea c n l ry λs3 I3=>⟨σ,_,I3,q2⟩
theorem kC{op:Operator}{rd:V->V->Hp->VK->Prop}(ha:PE X o ta)(hv:PE X value tv)(hop:zXz X op rd):PS X (.AugAssign (.Attribute o f tpos) op value pos) (zFw X.K ta tv rd f):=by
 intro pins s σ H D I h;refine wpAny_AugAssign_AttributeAny (thn (ha pins s σ H _ I h) λov s1 z_=>?_);obtain⟨x,H1,I1,rx,a,C,dx,fs,v,ex,ea,c,n,l,q⟩:=z_;subst ex;obtain rfl:ov=Value.ref a:=rx;refine zCc I1 ea c n l λu s2 I2 ru=>thn (hv pins s2 σ H1 _ I2 q) λw3 s3 z_=>?_;obtain⟨y,H2,I3,ry,q3⟩:=z_;refine thn (hop pins s3 σ H2 v y u w3 _ I3 ru ry q3) λw4 s4 z_=>?_;obtain⟨z,H3,I4,rz,dx',fs',ea',l',q4⟩:=z_;exact zCu I4 ea' c n l' rz λs5 I5=>⟨σ,_,I5,q4⟩
def zYc:V->V->Hp->VK->Prop:=λx y H Q=>∃i j,x= .int i/\y= .int j/\Q (.int (i+j)) H
theorem zBo:zXz X .Add zYc:=by
 rintro pins s σ H x y u v Q I rx ry ⟨i,j,rfl,rfl,q⟩;obtain⟨t,rfl⟩:=(show∃t,u=Value.int i t from rx);obtain⟨t',rfl⟩:=(show∃t',v=Value.int j t' from ry);exact PyProof.Rows.iadd_int ⟨.int (i+j),H,I.tok _,⟨_,rfl⟩,q⟩
end
section
variable{X:Cx}{pins:List (Addr×Obj)}{σ:St}{H:Hp}{s:Shared}{A:Around}{E:Value->Shared->Prop}{Q:Value->Shared->Prop}{c:Value}{b:Bool}
inductive uX (K:W.Frag) (H:Hp):V->Value->Prop where
 | non:uX K H .non (.type "NoneType")
 | bl (x:Bool):uX K H (.bl x) (.type "bool")
 | int (i:Int):uX K H (.int i) (.type "int")
 | str (x:Str):uX K H (.str x) (.type "str")
 | flt (x:UInt64):uX K H (.flt x) (.type "float")
 | lst {a:Addr} {xs:List V} (e:H a=some (.lst xs)):uX K H (.ref a) (.type "list")
 | frz {a:Addr} {o:Obj} {xs:List V} (e:H a=some (.frz o (.lst xs))):uX K H (.ref a) (.type "list")
 | tup {a:Addr} {xs:List V} (e:H a=some (.tup xs)):uX K H (.ref a) (.type "tuple")
 | dK {a:Addr} {kvs:List (Key×V)} (e:H a=some (.dK kvs)):uX K H (.ref a) (.type "dict")
 | dT {a:Addr} {kvs:List (List Key×V)} (e:H a=some (.dT kvs)):uX K H (.ref a) (.type "dict")
 | ins {a C dx:Addr} {fs:List (Str×V)} (e:H a=some (.ins C dx fs)) (cl:Cls K C) (ha:W.findIn K (.ref C) "__class__" =some (some (.builtin "object.__class__")))
   (hn:W.specialIn K (.builtin "object.__class__") "__get__" =some (some (.builtin "getset_descriptor.__get__"))) (htk:W.takesIn K (.builtin "object.__class__")=some true)
   (hm:W.mroIn K C (.type "object")=some true):uX K H (.ref a) (.ref C)
theorem zOd{x:V}{u t:Value}(I:Inv X pins σ H s)(rx:RelV x u)(ty:uX X.K H x t)(e:W.kitOne X.K t c=some b)(h:∀tk,Q (.bool b) {s with toks:=tk}):
  wpAny (model X.prog X.w) A (call (.builtin "isinstance") [u,c]) Q E s:=by
 cases ty with
 | non=>cases (show u=Value.none from rx);exact sT W.kitx_none I.kIn nJ e (λz=>nomatch z) h
 | bl y=>cases (show u=Value.bool y from rx);exact sT W.kitx_bool I.kIn nJ e (λz=>nomatch z) h
 | int i=>obtain⟨t,q⟩:=(show∃t,u=Value.int i t from rx);cases q;exact sT W.kitx_int I.kIn nJ e (λz=>nomatch z) h
 | str y=>obtain⟨t,q⟩:=(show∃t,u=Value.str y t from rx);cases q;exact sT W.kitx_str I.kIn nJ e (λz=>nomatch z) h
 | flt y=>obtain⟨t,q⟩:=(show∃t,u=Value.float y t from rx);cases q;exact sT W.kitx_float I.kIn nJ e (λz=>nomatch z) h
 | @lst a xs ea=>
  cases (show u=Value.ref a from rx);obtain⟨_,_,n,_,h1⟩:=(show ObjOk X.prog X.w H s.heap a (.lst xs) from I.hok a _ ea);exact sT W.kitx_list I.kIn ⟨_,h1,rfl⟩ e (λz=>nomatch z) h
 | @frz a ob xs ea=>
  cases (show u=Value.ref a from rx);obtain⟨_,_,_,n,_,h1⟩:=(show ObjOk X.prog X.w H s.heap a (.frz ob (.lst xs)) from I.hok a _ ea);exact sT W.kitx_list I.kIn ⟨_,h1,rfl⟩ e (λz=>nomatch z) h
 | @tup a xs ea=>
  cases (show u=Value.ref a from rx);obtain⟨_,_,_,p⟩:=(show ObjOk X.prog X.w H s.heap a (.tup xs) from I.hok a _ ea);obtain⟨o,h1,h2,_⟩:=p;exact sT W.kitx_tuple I.kIn ⟨o,h1,h2⟩ e (λz=>nomatch z) h
 | @dK a kvs ea=>
  cases (show u=Value.ref a from rx);obtain⟨_,_,vs,_,p⟩:=(show ObjOk X.prog X.w H s.heap a (.dK kvs) from I.hok a _ ea);obtain⟨o,es,ep,h1,h2,_⟩:=p;exact sT W.kitx_dict I.kIn ⟨o,h1,h2.1⟩ e (λz=>nomatch z) h
 | @dT a kvs ea=>
  cases (show u=Value.ref a from rx);obtain⟨_,_,xs,_,o,es,ep,h1,h2,_⟩:=(show ObjOk X.prog X.w H s.heap a (.dT kvs) from I.hok a _ ea);exact sT W.kitx_dict I.kIn ⟨o,h1,h2.1⟩ e (λz=>nomatch z) h
 | @ins a C dx fs ea cl ha hn htk hm=>
  cases (show u=Value.ref a from rx);obtain⟨mA,O,_⟩:=zAx I.hok ea;obtain⟨od,J,_⟩:=O.look;exact sT (W.kitx_own (cl.get _) cl.hd ha hn htk hm) I.kIn J e (λz=>nomatch z) h
end
structure Room(k:Nat)(A:Around):Prop where
 hd:A.handled=none
 dp:A.depth+3*k+5<recursionLimit
 un:A.units+16*k+200<cLine
theorem Room.mono{j k:Nat}{A:Around}(r:Room k A)(h:j<=k):Room j A:=⟨r.hd,by have:=r.dp;lia,by have:=r.un;lia⟩
theorem Room.deeper{k:Nat}{A:Around}(r:Room (k+1) A)(env:Env):Room k (A.deeper env):=
 ⟨r.hd,by have:=r.dp;show A.depth+1+3*k+5<_;lia,by have:=r.un;show A.units+3+16*k+200<_;lia⟩
theorem zKt{A:Around}{C:Addr}{us:List Value}{kw:List (Str×Value)}:(A.under (.builtin "type.__call__" ⟨.ref C::us,kw⟩)).depth=A.depth+1:=by
 first | rfl | simp[Around.under,Code.weight,Code.isCreation,Code.isGuard,Code.isCaller,Code.frames,Code.isFrame,guardIds]
theorem zKb{A:Around}{C:Addr}{us:List Value}{kw:List (Str×Value)}:(A.under (.builtin "type.__call__" ⟨.ref C::us,kw⟩)).units=A.units+1:=by
 first | rfl | simp[Around.under,Code.cUnits,Code.frames,Code.isFrame]
theorem Room.make{k:Nat}{A:Around}(r:Room (k+1) A)(C:Addr)(us:List Value)(kw:List (Str×Value)):Room k (A.under (.builtin "type.__call__" ⟨.ref C::us,kw⟩)):=
 ⟨r.hd,by have:=r.dp;rw[zKt];lia,by have:=r.un;rw[zKb];lia⟩
theorem Room.depth{k:Nat}{A:Around}(r:Room k A):A.depth<recursionLimit:=by have:=r.dp;lia
theorem Room.units{k:Nat}{A:Around}(r:Room k A):A.units+64<cLine:=by have:=r.un;lia
theorem Room.units0{k:Nat}{A:Around}(r:Room k A):A.units<cLine:=by have:=r.un;lia
def zNt:TA:=λ_ H Q=>Q [] H
def zAl(ta:TE)(tr:TA):TA:=λσ H Q=>ta σ H λx H1=>tr σ H1 λxs H2=>Q (x::xs) H2
section
variable{X:Cx}{e:Expr}{es:List Expr}{te:TE}{t:TA}{pos:Pos}
theorem zB:PA X [] zNt:=λ_ _ _ _ H Q I h=>Calls.spliced_nil ⟨[],H,I, .nil,h⟩
theorem zA(ha:PE X e te)(hr:PA X es t)(hs:starEach (e::es) X.env=(false,eval e X.env)::starEach es X.env:=by rfl):PA X (e::es) (zAl te t):=by
 intro pos pins s σ H Q I h;rw[hs];show wpAny _ _ (spliced ((false,eval e X.env)::backTo pos (starEach es X.env))) _ _ s;refine aQ (thn (ha pins s σ H _ I h) λu s1 z_=>?_);obtain⟨x,H1,I1,r1,q1⟩:=z_;refine thn (hr pos pins s1 σ H1 _ I1 q1) λus s2 z_=>?_;obtain⟨xs,H2,I2,r2,q2⟩:=z_;exact ⟨x::xs,H2,I2, .cons r1 r2,q2⟩
def zMy(t:TA):TE:=λσ H Q=>t σ H λxs H1=>xs.length<=sizeLine/\∀p,H1 p=none->Q (.ref p) (upd H1 p (.tup xs))
def zSp(t:TA):TE:=λσ H Q=>t σ H λxs H1=>xs.length<=sizeLine/\∀p,H1 p=none->Q (.ref p) (upd H1 p (.lst xs))
theorem yA{x1}(h:PA X es t):PE X (.Tuple es x1 pos) (zMy t):=by
 intro pins s σ H Q I hq;refine wpAny_Tuple_spliced (thn (h pos pins s σ H _ I hq) λus s1 z_=>?_);obtain⟨xs,H1,I1,r,z,q⟩:=z_;refine ⟨by rw[<-r.length];exact z, ?_⟩;have hf:H1 s1.heap.objs.size=none:=I1.hok.fresh (mK _);refine⟨.ref s1.heap.objs.size,upd H1 s1.heap.objs.size (.tup xs),I1.laid (t':=s1.toks) (λb u e=>mI _ e) (mK _) ?_,rfl,q _ hf⟩;exact⟨z,us,r,⟨_,nI _ rfl,rfl,_,rfl⟩⟩
theorem zT(h:PA X es t):PE X (.List es pos) (zSp t):=by
 intro pins s σ H Q I hq;refine wpAny_List_spliced (thn (h pos pins s σ H _ I hq) λus s1 z_=>?_);obtain⟨xs,H1,I1,r,z,q⟩:=z_;refine ⟨by rw[<-r.length];exact z, ?_⟩;have hf:H1 s1.heap.objs.size=none:=I1.hok.fresh (mK _);refine⟨.ref s1.heap.objs.size,upd H1 s1.heap.objs.size (.lst xs),I1.laid (t':=s1.toks) (λb u e=>mI _ e) (mK _) ?_,rfl,q _ hf⟩;exact⟨z,us,0,r,nI _ rfl⟩
end
abbrev Sp:=List V->Hp->VK->XK->Prop
abbrev CXT:=List Env->Hp->Shared->XK->Value->Shared->Prop
structure Env0(P:Program)(w:World)(K:W.Frag)(mg:Str->Option Value)(base:Heap)(A:Around)(outer:List Env)(s:Shared)(H:Hp):Prop where
 frames:A.frames=some outer
 mod:Mod K mg base
 bs:∀b o,base.get? b=some o->s.heap.get? b=some o/\H b=none
 bsz:base.objs.size<=s.heap.objs.size
 funs:s.heap.FunFrames base outer
 frf:∀b∈frs outer,H b=none
 hok:HOk P w H s.heap
 bare:AllBare s.gens
def CE(outer:List Env)(P:Program)(w:World)(H:Hp)(s:Shared)(Q:VK)(u:Value)(s':Shared):Prop:=
 ∃v H',s'.os=s.os/\AllBare s'.gens/\Un (frs outer) [] H H' s.heap s'.heap/\HOk P w H' s'.heap/\RelV v u/\Q v H'
def CR(CX:CXT)(outer:List Env)(P:Program)(w:World)(H:Hp)(s:Shared)(Q:VK)(E:XK)(r:Result)(s':Shared):Prop:=
 match r with
 | .ok (.ret u)=>CE outer P w H s Q u s'
 | .ok _=>False
 | .error e=>CX outer H s E e s'
structure FnOk(P:Program)(w:World)(K:W.Frag)(mg:Str->Option Value)(base:Heap)(CX:CXT)(k:Nat)(f:Addr)(fd:FuncData)(ps:List Str)(sp:Sp):Prop where
 len:∀vs H Q E,sp vs H Q E->vs.length=ps.length
 run:∀(A:Around)(outer:List Env)(s:Shared)(H:Hp)(args:Args)(us:List Value)(vs:List V)(Q:VK)(E:XK),Room k A->Env0 P w K mg base A outer s H->BindsTo s fd args (ps.zip us)->Vals vs us->sp vs H Q E->
  codeAny (model P w) A (.call (.ref f) args) (CR CX outer P w H s Q E) s
theorem FnOk.mono{P:Program}{w:World}{K:W.Frag}{mg:Str->Option Value}{base:Heap}{CX:CXT}{j k:Nat}{f:Addr}{fd:FuncData}{ps:List Str}{sp:Sp}(F:FnOk P w K mg base CX j f fd ps sp)(h:j<=k):
  FnOk P w K mg base CX k f fd ps sp:=⟨F.len,λA outer s H args us vs Q E hr=>F.run A outer s H args us vs Q E (hr.mono h)⟩
theorem Env0.make{P:Program}{w:World}{K:W.Frag}{mg:Str->Option Value}{base:Heap}{A:Around}{outer:List Env}{s:Shared}{H:Hp}(e:Env0 P w K mg base A outer s H)(C:Addr)(us:List Value)(kw:List (Str×Value)):
  Env0 P w K mg base (A.under (.builtin "type.__call__" ⟨.ref C::us,kw⟩)) outer s H:=⟨by first | exact e.frames |(simpa [Around.under,Code.envs,Code.isFrame,pushEnvs] using e.frames),e.mod,e.bs,e.bsz,e.funs,e.frf,e.hok,e.bare⟩
section
variable{X:Cx}{pins:List (Addr×Obj)}{σ:St}{H:Hp}{s s':Shared}
theorem Inv.env0(I:Inv X pins σ H s):Env0 X.prog X.w X.K X.mg X.base X.A X.stack s H:=
 ⟨I.ok.frames,I.ok.mod,I.bs,nN I.ok.bsz I.sz,I.stack,I.stkFree,I.hok,I.bare⟩
theorem Inv.after{Q:VK}{u:Value}(I:Inv X pins σ H s)(h:CE X.stack X.prog X.w H s Q u s'):EP X pins σ Q u s':=by
 obtain⟨v,H',os,bare,un,hok,r,q⟩:=h;obtain⟨hh,g,d,t,os'⟩:=s';obtain rfl:os'=s.os:=os;exact⟨v,H',I.call (h':=hh) (g':=g) (d':=d) (t':=t) (ch:=[]) un hok bare (λb z=>absurd z (by simp)),r,q⟩
end
def kT(sp:Sp)(dvs:List V)(E:XK)(t:TA):TE:=λσ H Q=>t σ H λvs H1=>sp (vs++dvs) H1 Q E
def zHc(C:Addr)(m:Str)(sp:Sp)(dvs:List V)(E:XK)(ta:TE)(t:TA):TE:=λσ H Q=>ta σ H λx H1=>∃a dx fs,x= .ref a/\H1 a=some (.ins C dx fs)/\fs.lookup m=none/\
 t σ H1 λvs H2=>sp (x::(vs++dvs)) H2 Q E
def zLy(C:Addr)(sp:Sp)(dvs:List V)(E:XK)(t:TA):TE:=λσ H Q=>t σ H λvs H1=>∀x dx,H1 x=none->H1 dx=none->dx≠x->
 sp (.ref x::(vs++dvs)) (upd (upd H1 dx (.own x)) x (.ins C dx [])) (λv H2=>v= .non/\Q (.ref x) H2) E
def Binds(K:W.Frag)(fd:FuncData)(ps:List Str)(ds:List Value):Prop:=
 ∀(s:Shared)(us:List Value),K.In s.heap->(us++ds).length=ps.length->BindsTo s fd ⟨us,[]⟩ (ps.zip (us++ds))
theorem Binds.all{K:W.Frag}{fd:FuncData}{ps:List Str}(h:∀us:List Value,us.length=ps.length->bindArgs fd ⟨us,[]⟩=pure (ps.zip us)):Binds K fd ps []:=λs us _ hl=>by
 rw[mN] at hl⊢;exact .of_eq (h us hl)
def gN(CX:CXT)(X:Cx)(E:XK):Prop:=∀(pins:List (Addr×Obj))(σ:St)(H:Hp)(s:Shared)(e:Value)(s':Shared),Inv X pins σ H s->CX X.stack H s E e s'->X.xe e s'
section
variable{X:Cx}{CX:CXT}{k:Nat}{f C:Addr}{fd:FuncData}{ps:List Str}{sp:Sp}{dvs:List V}{ds:List Value}{E:XK}{x m:Str}{p pos apos:Pos}{e o:Expr}{es:List Expr}{ta:TE}{t:TA}
theorem zRc{pins:List (Addr×Obj)}{σ:St}{H:Hp}{s:Shared}{Q:VK}{us:List Value}{vs:List V}(F:FnOk X.prog X.w X.K X.mg X.base CX k f fd ps sp)(hr:Room k X.A)(hb:Binds X.K fd ps ds)(hd:Vals dvs ds)(hx:gN CX X E)
  (I:Inv X pins σ H s) (r:Vals vs us) (h:sp (vs++dvs) H Q E):wpAny (model X.prog X.w) X.A (call (.ref f) us) (EP X pins σ Q) X.xe s:=by
 have r2:Vals (vs++dvs) (us++ds):=r.append hd;have hl:(us++ds).length=ps.length:=by rw[<-r2.length];exact F.len _ _ _ _ h
 refine sI (rQ (F.run X.A X.stack s H ⟨us,[]⟩ (us++ds) (vs++dvs) Q E hr I.env0 (hb s us I.kIn hl) r2 h) λr s' hq=>?_)
 cases r with
 | error e=>exact hx pins σ H s e s' I hq
 | ok fl=>
  cases fl with
  | ret u=>exact I.after hq
  | next=>exact False.elim hq
  | brk=>exact False.elim hq
  | cont=>exact False.elim hq
theorem zLv(F:FnOk X.prog X.w X.K X.mg X.base CX k f fd ps sp)(hr:Room k X.A)(hg:Gl X x)(hm:X.mg x=some (.ref f))(hk:W.keepIn X.K (.ref f)=true)(hb:Binds X.K fd ps ds)(hd:Vals dvs ds)(hx:gN CX X E)
  (ha:PA X (e::es) t) (hdb:(x==("__debug__" :Str))=false:=by decide) (he:starEach (e::es) X.env=(false,eval e X.env)::starEach es X.env:=by rfl) (hpl:(backTo pos (starEach es X.env)).any (·.1)=false:=by rfl):
  PE X (.Call (.Name x p) (e::es) [] pos) (kT sp dvs E t):=by
 intro pins s σ H Q I h;refine rD (wT I hg hm ?_ hdb);refine W.callWith_K (h₀:=X.base) I.ok.mod.kin hk (thn (ha pos pins s σ H _ I h) λus s1 z_=>?_) he hpl;obtain⟨vs,H1,I1,r,q⟩:=z_;refine ⟨I1.kIn, ?_⟩;exact zRc F hr hb hd hx I1 r q
theorem zMo{pl:Sem Bool}(he:PE X o ta)(c:Cls X.K C)(hm:zGy X.K C m f)(F:FnOk X.prog X.w X.K X.mg X.base CX k f fd ps sp)(hr:Room k X.A)(hb:Binds X.K fd ps ds)(hd:Vals dvs ds)(hx:gN CX X E)(ha:PA X (e::es) t)
  (hst:starEach (e::es) X.env=(false,eval e X.env)::starEach es X.env:=by rfl) (hpl:(backTo pos (starEach es X.env)).any (·.1)=false:=by rfl)
  (ht:eval (.Call (.Attribute o m apos) (e::es) [] pos) X.env=(do
   let ov <-eval o X.env
   standAt apos.atName
   let (f,first) <-holding [ov] (getMethod ov m pl)
   callWith pos f first (backTo pos (starEach (e::es) X.env)) (backToKw pos (keywordEach [] X.env))):=by rfl):
  PE X (.Call (.Attribute o m apos) (e::es) [] pos) (zHc C m sp dvs E ta t):=by
 intro pins s σ H Q I h;refine W.methodCall_KW (pl:=pl) (thn (he pins s σ H _ I h) λu s1 z_=>?_) ht;obtain⟨x,H1,I1,rx,a,dx,fs,ex,ea,l,q⟩:=z_;subst ex;obtain rfl:u=Value.ref a:=rx;refine zKs I1 ea c hm l ?_;refine W.callWith_K (first:=[.ref a]) (h₀:=X.base) I.ok.mod.kin hm.kp (thn (ha pos pins s1 σ H1 _ I1 q) λus s2 z_=>?_) hst hpl;obtain⟨vs,H2,I2,r,q2⟩:=z_;refine ⟨I2.kIn, ?_⟩;exact zRc (us:=.ref a::us) (vs:=.ref a::vs) F hr hb hd hx I2 (.cons rfl r) q2
structure Mk(K:W.Frag)(C f:Addr):Prop where
 makes:W.makesIn K C=true
 init:W.findIn K (.ref C) "__init__" =some (some (.ref f))
 fn:W.isFn K (.ref f)=true
 kp:W.keepIn K (.ref C)=true
theorem zTs{pins:List (Addr×Obj)}{σ:St}{H:Hp}{s:Shared}{Q:VK}{us:List Value}{vs:List V}(M:Mk X.K C f)(F:FnOk X.prog X.w X.K X.mg X.base CX k f fd ps sp)(hr:Room (k+1) X.A)(hb:Binds X.K fd ps ds)(hd:Vals dvs ds)
  (hx:gN CX X E) (I:Inv X pins σ H s) (r:Vals vs us)
  (h:∀x dx,H x=none->H dx=none->dx≠x->sp (.ref x::(vs++dvs)) (upd (upd H dx (.own x)) x (.ins C dx [])) (λv H2=>v= .non/\Q (.ref x) H2) E):
  wpAny (model X.prog X.w) X.A (call (.ref C) us) (EP X pins σ Q) X.xe s:=by
 have hq:=h (s.heap.objs.size+1) s.heap.objs.size (I.hok.fresh (tW _)) (I.hok.fresh (mK _)) (nR (sO _));have I2:=Inv.made (C:=C) I;have r2:Vals (V.ref (s.heap.objs.size+1)::(vs++dvs)) (Value.ref (s.heap.objs.size+1)::(us++ds)):=.cons rfl (r.append hd);have hl:(Value.ref (s.heap.objs.size+1)::us++ds).length=ps.length:=by
  have e:=r2.length;rw[F.len _ _ _ _ hq] at e;exact e.symm
 refine sI (zPy (f:=f) I.kIn M.makes M.init (aW.mp M.fn) (rQ (F.run _ X.stack _ _ ⟨Value.ref (s.heap.objs.size+1)::us,[]⟩ (Value.ref (s.heap.objs.size+1)::(us++ds)) _ _ E (hr.make C us [])
  (I2.env0.make C us []) (hb _ (Value.ref (s.heap.objs.size+1)::us) I2.kIn hl) r2 hq) λr s' hq'=>?_))
 cases r with
 | error e=>exact hx pins σ _ _ e s' I2 hq'
 | ok fl=>
  cases fl with
  | ret u=>
   obtain⟨v,H',I3,rv,ev,q3⟩:=I2.after hq';subst ev;exact⟨rv,⟨V.ref (s.heap.objs.size+1),H',I3,rfl,q3⟩⟩
  | next=>exact False.elim hq'
  | brk=>exact False.elim hq'
  | cont=>exact False.elim hq'
theorem zUt(M:Mk X.K C f)(F:FnOk X.prog X.w X.K X.mg X.base CX k f fd ps sp)(hr:Room (k+1) X.A)(hg:Gl X x)(hm:X.mg x=some (.ref C))(hb:Binds X.K fd ps ds)(hd:Vals dvs ds)(hx:gN CX X E)
  (ha:PA X (e::es) t) (hdb:(x==("__debug__" :Str))=false:=by decide) (he:starEach (e::es) X.env=(false,eval e X.env)::starEach es X.env:=by rfl) (hpl:(backTo pos (starEach es X.env)).any (·.1)=false:=by rfl):
  PE X (.Call (.Name x p) (e::es) [] pos) (zLy C sp dvs E t):=by
 intro pins s σ H Q I h;refine rD (wT I hg hm ?_ hdb);refine W.callWith_K (h₀:=X.base) I.ok.mod.kin M.kp (thn (ha pos pins s σ H _ I h) λus s1 z_=>?_) he hpl;obtain⟨vs,H1,I1,r,q⟩:=z_;refine ⟨I1.kIn, ?_⟩;exact zTs M F hr hb hd hx I1 r q
end
section
variable{X:Cx}{CX:CXT}{k:Nat}{f C:Addr}{fd:FuncData}{ps ks:List Str}{sp:Sp}{E:XK}{x m:Str}{p pos apos kpos:Pos}{e o:Expr}{es:List Expr}{kws:List Keyword}{te ta:TE}{t tk:TA}{nm:Option Str}
structure KBinds(K:W.Frag)(fd:FuncData)(ps ks:List Str)(g:List Value->List Value->List Value)(gV:List V->List V->List V):Prop where
 to:∀(s:Shared)(us ws:List Value),K.In s.heap->(g us ws).length=ps.length->BindsTo s fd ⟨us,ks.zip ws⟩ (ps.zip (g us ws))
 rel:∀{vs:List V}{us:List Value}{zs:List V}{ws:List Value},Vals vs us->Vals zs ws->Vals (gV vs zs) (g us ws)
variable{g:List Value->List Value->List Value}{gV:List V->List V->List V}
end
structure zV(N P:List Str)(sc:Scope):Prop where
 kind:sc.kind= .function
 co:sc.isCoroutine=false
 gen:sc.isGenerator=false
 nd:N.Nodup
 pre:N.take P.length=P
 par:∀x∈P,sc.names.lookup x=some .local\/sc.names.lookup x=some .cell
 nofree:∀y∈sc.names,y.2≠ .free
theorem zDp{kindOf:Str->Option NameKind}{x:Str}:∀{binds:List (Str×Value)}{m:Str->Option Value},(∀v,(x,v)∉binds)->bindL kindOf binds m x=m x
 | [],_,_=>rfl
 |(n,v)::r,m,h=>by
  unfold bindL;rw[zDp λw hw=>h w (mR _ hw)];split
  ·have:x≠n:=by rintro rfl;exact h v mH
   simp[this]
  ·rfl
theorem zEs{kindOf:Str->Option NameKind}{x:Str}:∀{binds:List (Str×Value)}{m:Str->Option Value},(∀v,(x,v)∉binds)->bindC kindOf binds m x=m x
 | [],_,_=>rfl
 |(n,v)::r,m,h=>by
  unfold bindC;rw[zEs λw hw=>h w (mR _ hw)];split
  ·rfl
  ·have:x≠n:=by rintro rfl;exact h v mH
   simp[this]
theorem zDz{kindOf:Str->Option NameKind}{x:Str}{v:Value}:∀{P:List Str}{vs:List Value}{i:Nat}{m:Str->Option Value},P.Nodup->P[i]? =some x->vs[i]? =some v->kindOf x=some .local->
  bindL kindOf (P.zip vs) m x=some v
 | [],_,_,_,_,h,_,_=>by simp at h
 | _::_,[],_,_,_,_,h,_=>by simp at h
 | p::P,w::vs,0,m,nd,h1,h2,hk=>by
  simp at h1 h2;subst h1;subst h2;show bindL kindOf ((p,w)::P.zip vs) m p=_;unfold bindL;rw[zDp λv hv=>(pE.mp nd).1 (bR hv).1,mL hk];simp
 | p::P,w::vs,i+1,m,nd,h1,h2,hk=>by
  show bindL kindOf ((p,w)::P.zip vs) m x=_;unfold bindL;exact zDz (i:=i) (pE.mp nd).2 (by simpa using h1) (by simpa using h2) hk
theorem zDw{kindOf:Str->Option NameKind}{x:Str}{v:Value}:∀{P:List Str}{vs:List Value}{i:Nat}{m:Str->Option Value},P.Nodup->P[i]? =some x->vs[i]? =some v->kindOf x≠some .local->
  bindC kindOf (P.zip vs) m x=some v
 | [],_,_,_,_,h,_,_=>by simp at h
 | _::_,[],_,_,_,_,h,_=>by simp at h
 | p::P,w::vs,0,m,nd,h1,h2,hk=>by
  simp at h1 h2;subst h1;subst h2;show bindC kindOf ((p,w)::P.zip vs) m p=_;unfold bindC;rw[zEs λv hv=>(pE.mp nd).1 (bR hv).1,mG hk];simp
 | p::P,w::vs,i+1,m,nd,h1,h2,hk=>by
  show bindC kindOf ((p,w)::P.zip vs) m x=_;unfold bindC;exact zDw (i:=i) (pE.mp nd).2 (by simpa using h1) (by simpa using h2) hk
def qF(N:List Str)(vs:List V):St:=vs.map some++List.replicate (N.length - vs.length) none
def zCs(CX:CXT)(P:Program)(w:World)(K:W.Frag)(mg:Str->Option Value)(base:Heap)(N:List Str)(qual:Str)(scope:Scope)(f:Addr)(cd:Value)(A:Around)(outer:List Env)(s:Shared)(H:Hp)(E:XK):Cx where
 prog:=P
 w:=w
 K:=K
 mg:=mg
 base:=base
 A:=A.deeper (envOfC qual scope s.heap.objs.size f cd)
 N:=N
 s₀:=s
 H₀:=H
 env:=envOfC qual scope s.heap.objs.size f cd
 outer:=outer
 stack:=envOfC qual scope s.heap.objs.size f cd::outer
 ex:=[]
 calm:=true
 cool:=true
 fn:=λ_=>true
 pn:=[]
 xe:=λe s'=>wpAny (model P w) (A.deeper (envOfC qual scope s.heap.objs.size f cd)) (leaving (envOfC qual scope s.heap.objs.size f cd) e) (λ_ s''=>CX outer H s E e s'') (λe' s''=>CX outer H s E e' s'') s'
theorem zHw{sc:Scope}{n:Nat}{x:Str}(h:sc.names.lookup x=some .cell):∃c,(cellsFrom n sc.names []).lookup x=some c:=by
 have q:=W.cellsFrom_some sc.names n [] (.inl h);exact Option.isSome_iff_exists.mp q
theorem zEj{CX:CXT}{P:Program}{w:World}{K:W.Frag}{mg:Str->Option Value}{base:Heap}{N ps:List Str}{qual:Str}{scope:Scope}{f:Addr}{cd:Value}{A:Around}{outer:List Env}{s s1:Shared}{H:Hp}{E:XK}{us:List Value}{vs:List V}
  (S:zV N ps scope) (hd:A.handled=none) (e0:Env0 P w K mg base A outer s H) (hl:vs.length=ps.length) (r:Vals vs us)
  (x:InCallC s s.heap.objs.size (bindL (envOfC qual scope s.heap.objs.size f cd).kindOf (ps.zip us) λ_=>none) (cellsFrom (s.heap.objs.size+1) scope.names []) (bindC (envOfC qual scope s.heap.objs.size f cd).kindOf (ps.zip us) λ_=>none) s1):
  Inv (zCs CX P w K mg base N qual scope f cd A outer s H E) [] (qF N vs) H s1:=by
 have hpl:ps.length<=N.length:=by have:=congrArg List.length S.pre;rw[nY] at this;lia
 obtain⟨h1,tk,rfl,hk⟩:=x.done;have noA:∀b:Addr,b∉(zCs CX P w K mg base N qual scope f cd A outer s H E).ex:=λb z=>absurd (show b∈([]:List Addr) from z) (by simp);refine⟨⟨e0.mod,S.kind,rfl,rfl,mK _,λy z c h1 h2=>?_,λy hy=>?_,λy c _ h=>?_,⟨λ_=>hd,λ_=>HnAt.none hd⟩,Around.frames_deeper e0.frames, .inr ⟨rfl,rfl⟩,λb z=>absurd z (noA b),e0.bs,e0.bsz,λb _ _=>noA b,λb z=>absurd z (noA b),e0.funs,e0.frf⟩,
  rfl,e0.bare,Un.kept hk,⟨_,x.toInCall.ns,λi y v h1 h2 h3=>?_⟩,λy c h=>⟨_,x.cell y c h⟩,e0.hok.fresh (mK _),λy c h=>?_,λp hp=>absurd (show p∈([]:List (Addr×Obj)) from hp) (by simp),e0.hok.kept hk, ?_⟩
 ·exact name_of_addr x.apart (rP h1) (rP h2)
 ·have hy:scope.names.lookup y=some .cell\/scope.names.lookup y=some .free:=hy
  rcases hy with hy | hy
  ·exact zHw hy
  ·exact absurd rfl (S.nofree _ (rP hy))
 ·exact Nat.le_of_lt (x.above y c (rP h))
 ·have hi:i<vs.length:=by
   unfold qF at h2
   by_cases hi:i<vs.length
   ·exact hi
   ·rw[nO (by simpa using hi)] at h2
    rw[List.getElem?_replicate] at h2;split at h2<;>cases h2
  have ha:vs[i]? =some v:=by
   unfold qF at h2;rw[nQ (by simpa using hi),pM] at h2
   cases e:vs[i]? with
   | none=>rw[e] at h2;cases h2
   | some a=>rw[e] at h2;cases h2;rfl
  obtain⟨u,hu,rv⟩:=r.get ha;have hp:ps[i]? =some y:=by
   rw[<-S.pre,tH (by lia)];exact h1
  have ndP:ps.Nodup:=by rw[<-S.pre];exact S.nd.sublist (List.take_sublist _ _)
  refine⟨u,rv, ?_⟩;rcases S.par y (nW hp) with k | k
  ·exact .inl ⟨k,zDz ndP hp hu k⟩
  ·obtain⟨c,e⟩:=zHw (n:=s.heap.objs.size+1) k
   refine .inr ⟨.inl k,c,e, ?_⟩;have q:=x.cell y c e;rw[zDw ndP hp hu (by show scope.names.lookup y≠_;rw[k];decide)] at q;exact q
 ·exact e0.hok.fresh (Nat.le_of_lt (x.above y c (rP h)))
 ·unfold qF
  show _=N.length;rw[mC,nA,mU]
  lia
theorem zSj{CX:CXT}{P:Program}{w:World}{K:W.Frag}{mg:Str->Option Value}{base:Heap}{k:Nat}{f:Addr}{name qual:Str}{params:Arguments}{body:List Stmt}{scope:Scope}{dV kV doc pm cdv ct oc:Value}{an od:Option Addr}
  {osl:Array (Option Value)} {N ps:List Str} {sp:Sp} (lk:K.lookup f=some ⟨oc,od, .func (W.fnOf name qual params body scope dV kV doc pm an cdv ct),osl⟩) (hcd:W.codeIn K cdv qual=true) (S:zV N ps scope)
  (len:∀vs H Q E,sp vs H Q E->vs.length=ps.length)
  (hbody:∀(A:Around)(outer:List Env)(s:Shared)(H:Hp)(vs:List V)(Q:VK)(E:XK),Room k (A.deeper (envOfC qual scope s.heap.objs.size f cdv))->sp vs H Q E->
   ∃t,PSs (zCs CX P w K mg base N qual scope f cdv A outer s H E) body t/\t {nx:=λ_ H'=>Q .non H',rt:=Q} (qF N vs) H):
  FnOk P w K mg base CX (k+1) f (W.fnOf name qual params body scope dV kV doc pm an cdv ct) ps sp:=by
 refine⟨len,λA outer s H args us vs Q E hr e0 hb r hsp=>?_⟩;have hl:=len _ _ _ _ hsp;have KX:K.In s.heap:=e0.mod.kin.keeps λb o e=>(e0.bs b o e).1;have lim:s.heap.NoLimit:=e0.mod.nolimit.keeps λb o e=>(e0.bs b o e).1;have hkind:∀y∈ps.zip us,scope.names.lookup y.1=some .local\/(scope.names.lookup y.1=some .cell/\((cellsFrom (s.heap.objs.size+1) scope.names []).lookup y.1).isSome=true):=fun⟨n,v⟩ hy=>by
  rcases S.par n (bR hy).1 with q | q
  ·exact .inl q
  ·exact .inr ⟨q,W.cellsFrom_some _ _ _ (.inl q)⟩
 refine codeAny_call_function hr.depth (KX _ _ lk) rfl S.co S.gen rfl (W.codeRec_of KX hcd) (hb _ _ _ _ ?_);refine wpAny_newFunctionEnv_cells S.kind hkind λenv he s1 x=>?_;subst he;refine⟨lim.keeps x.toInCall.keep,codeAny_func ?_⟩;obtain⟨t,ht,hq⟩:=hbody A outer s H vs Q E (hr.deeper _) hsp;have I:Inv (zCs CX P w K mg base N qual scope f cdv A outer s H E) [] (qF N vs) H s1:=zEj S hr.hd e0 hl r x;refine pU (ht [] s1 (qF N vs) H _ I hq) (λfl s' hs=>?_) λe s' hs=>hs;have fin:∀{σ':St}{H':Hp}{v:V}{u:Value},Inv (zCs CX P w K mg base N qual scope f cdv A outer s H E) [] σ' H' s'->RelV v u->Q v H'->CE outer P w H s Q u s':=
  λ{σ' H' v u} J rv q=>⟨v,H',J.os,J.bare,J.base,J.hok,rv,q⟩
 cases fl with
 | ret u=>
  obtain⟨v,σ',H',J,rv,q⟩:=hs;exact fin J rv q
 | next=>
  obtain⟨σ',H',J,q⟩:=hs;exact fin (v:=V.non) (u:=Value.none) J rfl q
 | brk=>
  obtain⟨_,_,_,q⟩:=hs;exact False.elim q
 | cont=>
  obtain⟨_,_,_,q⟩:=hs;exact False.elim q
section
variable{X:Cx}{x:Str}{p pos:Pos}{e:Expr}{es:List Expr}{t:TA}{id T:String}{r:List V->Hp->VK->Prop}
def tCB(r:List V->Hp->VK->Prop)(t:TA):TE:=λσ H Q=>t σ H λvs H1=>r vs H1 Q
theorem zP(hc:xY X (.builtin id) r)(hg:Gl X x)(hm:X.mg x=none)(hv:bootBuiltins x=some (.builtin id))(ha:PA X (e::es) t)(hn:x≠ "__name__":=by decide)(hdb:(x==("__debug__" :Str))=false:=by decide)
  (he:starEach (e::es) X.env=(false,eval e X.env)::starEach es X.env:=by rfl) (hpl:(backTo pos (starEach es X.env)).any (·.1)=false:=by rfl):PE X (.Call (.Name x p) (e::es) [] pos) (tCB r t):=by
 intro pins s σ H Q I h;refine rD (zFh I hg hm hv ?_ hn hdb);refine bS (thn (ha pos pins s σ H _ I h) λus s1 z_=>?_) he hpl;obtain⟨vs,H1,I1,r1,q1⟩:=z_;exact hc pins s1 σ H1 vs us Q I1 r1 q1
theorem yM(hc:xY X (.type T) r)(hg:Gl X x)(hm:X.mg x=none)(hv:bootBuiltins x=some (.type T))(ha:PA X (e::es) t)(hn:x≠ "__name__":=by decide)(hdb:(x==("__debug__" :Str))=false:=by decide)
  (he:starEach (e::es) X.env=(false,eval e X.env)::starEach es X.env:=by rfl) (hpl:(backTo pos (starEach es X.env)).any (·.1)=false:=by rfl):PE X (.Call (.Name x p) (e::es) [] pos) (tCB r t):=by
 intro pins s σ H Q I h;refine rD (zFh I hg hm hv ?_ hn hdb);refine cK (thn (ha pos pins s σ H _ I h) λus s1 z_=>?_) he hpl;obtain⟨vs,H1,I1,r1,q1⟩:=z_;exact hc pins s1 σ H1 vs us Q I1 r1 q1
end
end L2
namespace HT
open PySem PyProof.Rows
section
open PySem.SeqAt
open PySem.AutoSeq1 (wpAny_loadPart')
open PySem.MeetsSeq PySem.MeetsSeq2 PySem.MeetsSeq3
end
section
variable{prog:Program}{w:World}{A:Around}{E:Value->Shared->Prop}{s:Shared}
def sIx(n d:Nat):Option Int->Nat
 | none=>d
 | some v=>if v<0 then(v+(n:Int)).toNat else min v.toNat n
theorem sIx_nat(n d k:Nat):sIx n d (some (k:Int))=min k n:=by
 show(if(k:Int)<0 then((k:Int)+(n:Int)).toNat else min (k:Int).toNat n)=min k n;rw[if_neg (by lia),Int.toNat_natCast]
end
end HT
namespace L2
open PySem PySem.Spec PyProof.Rows
abbrev TO:=St->Hp->(Option Int->Hp->Prop)->Prop
def PO(X:Cx)(e:Option Expr)(t:TO):Prop:=
 ∀(pins:List (Addr×Obj))(s:Shared)(σ:St)(H:Hp)(Q:Option Int->Hp->Prop),Inv X pins σ H s->t σ H Q->
  wpAny (model X.prog X.w) X.A (evalPart e X.env) (λu s'=>∃o H',Inv X pins σ H' s'/\IsPart u o/\Q o H') X.xe s
def gY:TO:=λ_ H Q=>Q none H
def zJi(t:TE):TO:=λσ H Q=>t σ H λx H1=>∃i,x= .int i/\Q (some i) H1
section
variable{X:Cx}{e:Expr}{te:TE}{lo hi:Option Expr}{tl th:TO}{pos p2:Pos}
theorem wP:PO X none gY:=by
 intro pins s σ H Q I h;rw[evalPart_none];exact mQ ⟨none,H,I, .none,h⟩
theorem yQ(h:PE X e te):PO X (some e) (zJi te):=by
 intro pins s σ H Q I hw;rw[evalPart_some];refine thn (h pins s σ H _ I hw) λu s1 z_=>?_;obtain⟨x,H1,I1,r1,q1⟩:=z_;obtain⟨i,rfl,q⟩:=q1;obtain⟨t,rfl⟩:=r1;exact⟨some i,H1,I1, .int i t,q⟩
def SlR(X:Cx)(r:V->Option Int->Option Int->Hp->VK->Prop):Prop:=
 ∀(pins:List (Addr×Obj))(s:Shared)(σ:St)(H:Hp)(x:V)(v vl vu:Value)(lo hi:Option Int)(sl:Addr)(Q:VK),Inv X pins σ H s->RelV x v->s.heap.IsSliceOf sl vl vu .none->IsPart vl lo->IsPart vu hi->r x lo hi H Q->
  ∃T id,typeLookup (.type T) "__getitem__" =pure (some (.builtin id))/\s.TypeIs v T/\wpAny (model X.prog X.w) X.A (getItem v (.ref sl)) (EP X pins σ Q) X.xe s
def tSl(r:V->Option Int->Option Int->Hp->VK->Prop)(te:TE)(tl th:TO):TE:=λσ H Q=>te σ H λx H1=>tl σ H1 λl H2=>th σ H2 λu H3=>r x l u H3 Q
theorem yV{r:V->Option Int->Option Int->Hp->VK->Prop}(hr:SlR X r)(he:PE X e te)(hl:PO X lo tl)(hu:PO X hi th):PE X (.Subscript e (.Slice lo hi none p2) pos) (tSl r te tl th):=by
 intro pins s σ H Q I h;refine Subscript_ (thn (he pins s σ H _ I h) λv s1 z_=>?_);obtain⟨x,H1,I1,r1,q1⟩:=z_;refine wpAny_Slice (thn (hl pins s1 σ H1 _ I1 q1) λvl s2 z_=>?_);obtain⟨l,H2,I2,pl,q2⟩:=z_;refine thn (hu pins s2 σ H2 _ I2 q2) λvu s3 z_=>?_;obtain⟨u,H3,I3,pu,q3⟩:=z_;rw[evalPart_none];refine mQ ?_;have I4:Inv X pins σ H3 {s3 with heap:=s3.heap.push {cls:=.type "slice",data:=.fields #[vl,vu, .none]}}:=I3.kept (t':=s3.toks) λb ob q=>mI _ q;obtain⟨T,id,hT,ht,hg⟩:=hr pins {s3 with heap:=s3.heap.push {cls:=.type "slice",data:=.fields #[vl,vu, .none]}} σ H3 x v vl vu l u s3.heap.objs.size Q I4 r1 (Heap.IsSliceOf.new ..) pl pu q3;show wpAny (model X.prog X.w) X.A (subscriptTail e (.Slice lo hi none p2) v (.ref s3.heap.objs.size)) (EP X pins σ Q) X.xe {s3 with heap:=s3.heap.push {cls:=.type "slice",data:=.fields #[vl,vu, .none]}};exact tail_any (ops:=[.ref s3.heap.objs.size,v]) ht hT hg (by with_unfolding_all rfl)
def zDk(xs:List V)(lo hi:Option Int):List V:=(xs.drop (HT.sIx xs.length 0 lo)).take (HT.sIx xs.length xs.length hi - HT.sIx xs.length 0 lo)
theorem zJb(xs:List V)(lo hi:Option Int):(zDk xs lo hi).length<=xs.length:=by
 unfold zDk;rw[nY,nG]
 lia
end
def ixN(n:Nat)(i:Int):Option Nat:=if 0<=i then(if i<n then some i.toNat else none) else if -(n:Int)<=i then some (i+n).toNat else none
def atI{α:Type}(xs:List α)(i:Int):Option α:=(ixN xs.length i).bind λj=>xs[j]?
theorem zMv{n:Nat}{i:Int}{j:Nat}(h:ixN n i=some j):seqIndex? i n=some j/\j<n/\-(n:Int)<=i/\i<n:=by
 unfold ixN at h
 by_cases h0:0<=i
 ·rw[mL h0] at h
  by_cases h1:i<n
  ·rw[mL h1] at h
   have e:i.toNat=j:=nU h;exact⟨by rw[seqIndex_of h0 h1,e],by lia,by lia,h1⟩
  ·rw[mG h1] at h;cases h
 ·rw[mG h0] at h
  by_cases h1: -(n:Int)<=i
  ·rw[mL h1] at h
   have e:(i+n).toNat=j:=nU h;exact⟨by rw[seqIndex_neg (by lia) h1,e],by lia,h1,by lia⟩
  ·rw[mG h1] at h;cases h
theorem zFl{α:Type}{xs:List α}{i:Int}{v:α}(h:atI xs i=some v):∃j,seqIndex? i xs.length=some j/\xs[j]? =some v/\j<xs.length/\-(xs.length:Int)<=i/\i<xs.length:=by
 unfold atI at h
 cases e:ixN xs.length i with
 | none=>rw[e] at h;cases h
 | some j=>
  rw[e] at h;obtain⟨h1,h2,h3,h4⟩:=zMv e;exact⟨j,h1,h,h2,h3,h4⟩
theorem yF{α:Type}{xs:List α}{j:Nat}{v:α}(h:xs[j]? =some v):atI xs (j:Int)=some v:=by
 have hj:j<xs.length:=(nF.mp h).1;have e:ixN xs.length (j:Int)=some j:=by
  unfold ixN;rw[mL (by lia),mL (by lia)];simp
 unfold atI;rw[e];exact h
theorem wA{α:Type}(xs:List α)(v:α):atI (xs++ [v]) (-1)=some v:=by
 have hl:(xs++ [v]).length=xs.length+1:=by simp
 have e:ixN (xs++ [v]).length (-1)=some xs.length:=by
  unfold ixN;rw[hl,mG (by decide),mL (by lia)]
  congr 1
  lia
 unfold atI;rw[e];show(xs++ [v])[xs.length]? =some v;simp
def zWj(b:Expr):Prop:=∀o i,subscripted b false o i=operate [o,i] (getItem o i)
def IxR(X:Cx)(r:R2):Prop:=
 ∀(value slice:Expr)(pins:List (Addr×Obj))(s:Shared)(σ:St)(H:Hp)(x y:V)(v u:Value)(Q:VK),Inv X pins σ H s->RelV x v->RelV y u->r x y H Q->
  subscripted slice false v u=operate [v,u] (getItem v u)->wpAny (model X.prog X.w) X.A (subscriptTail value slice v u) (EP X pins σ Q) X.xe s
def MtR(X:Cx)(id:String)(r:V->List V->Hp->VK->Prop):Prop:=
 ∀(pins:List (Addr×Obj))(s:Shared)(σ:St)(H:Hp)(x:V)(xs:List V)(v:Value)(us:List Value)(Q:VK),Inv X pins σ H s->RelV x v->Vals xs us->r x xs H Q->
  wpAny (model X.prog X.w) X.A (call (.builtin id) (v::us)) (EP X pins σ Q) X.xe s
section
variable{X:Cx}{a b:Expr}{ta tb:TE}{pos:Pos}
theorem zR{r:R2}(hr:IxR X r)(ha:PE X a ta)(hb:PE X b tb)(hs:zWj b):PE X (.Subscript a b pos) (tOp r ta tb):=by
 intro pins s σ H Q I h;exact Subscript_ (zYq ha hb I h λv u s2 x y H2 I2 rx ry q=>hr a b pins s2 σ H2 x y v u Q I2 rx ry q (hs _ _))
def zDi(K:W.Frag):R2:=λx y H Q=>∃p xs i v,x= .ref p/\y= .int i/\SqL K H p xs/\atI xs i=some v/\Q v H
def zNb(K:W.Frag):R2:=λx y H Q=>∃p xs i v,x= .ref p/\y= .int i/\SqT K H p xs/\atI xs i=some v/\Q v H
def rIxS:R2:=λx y H Q=>∃z i c,x= .str z/\y= .int i/\z.length<=sizeLine/\atI z.cps.toList i=some c/\Q (.str ⟨#[c]⟩) H
theorem zY:IxR X (zDi X.K):=by
 intro value slice pins s σ H x y v u Q I rx ry h hs;obtain⟨p,xs,i,z,rfl,rfl,hq,he,q⟩:=h;cases rx;obtain⟨t,rfl⟩:=ry;obtain⟨its,r,pl,hz⟩:=I.list hq;obtain⟨j,h1,h2,h3,h4,h5⟩:=zFl he;obtain⟨w,ew,rw'⟩:=r.get h2;have hl:=r.length;have hn:=kY;have fin:EP X pins σ Q w s:=⟨z,H,I,rw',q⟩
 by_cases h0:0<=i
 ·have hj:i.toNat=j:=by
   rw[seqIndex_of h0 h5] at h1;exact nU h1
  exact item_listR pl.isList h0 (by lia) (by rw[hj];simpa using ew) fin hs
 ·have hj:(i+(its.toArray.size:Int)).toNat=j:=by
   rw[seqIndex_neg (by lia) h4] at h1;rw[nE,<-hl];exact nU h1
  exact subscriptTail_builtinR (x:=w) pl.isList.typeIs slot_list_getitem.lookup
   (wpAny_getItem_list_neg (Q:=λr s'=>r=w/\EP X pins σ Q r s') pl.isList (by lia) (by rw[nE]<;>lia) (by lia) (by rw[hj];simpa using ew) ⟨rfl,fin⟩) hs
theorem yC:IxR X (zNb X.K):=by
 intro value slice pins s σ H x y v u Q I rx ry h hs;obtain⟨p,xs,i,z,rfl,rfl,hq,he,q⟩:=h;cases rx;obtain⟨t,rfl⟩:=ry;obtain⟨its,r,pl,hz⟩:=I.tuple hq;obtain⟨j,h1,h2,h3,h4,h5⟩:=zFl he;obtain⟨w,ew,rw'⟩:=r.get h2;have hl:=r.length;have hn:=kY;have fin:EP X pins σ Q w s:=⟨z,H,I,rw',q⟩;exact subscriptTail_builtinR (x:=w) pl.typeIs slot_tuple_getitem.lookup
  (getItem_tuple (j:=j) (Q:=λr s'=>r=w/\EP X pins σ Q r s') pl (by lia) (by lia) (by rw[nE,<-hl];exact h1) (by simpa using ew) ⟨rfl,fin⟩) hs
theorem vO:IxR X rIxS:=by
 intro value slice pins s σ H x y v u Q I rx ry h hs;obtain⟨z,i,c,rfl,rfl,hz,he,q⟩:=h;obtain⟨t,rfl⟩:=rx;obtain⟨t',rfl⟩:=ry;obtain⟨j,h1,h2,h3,h4,h5⟩:=zFl he;have hl:z.cps.toList.length=z.length:=by simp[Str.length]
 rw[hl] at h1 h4 h5;have hn:=kY;exact tail_any (tD s z t) slot_str_getitem.lookup (getItem_str (c:=c) (by
  have e1:decide (i< -(2 ^ 63:Int))=false:=mM (by lia);have e2:decide (i≥2 ^ 63)=false:=mM (by lia);rw[e1,e2,bD]) (by rw[h1];simpa using h2) ⟨.str ⟨#[c]⟩,H,I.tok _,⟨_,rfl⟩,q⟩) hs
theorem zKe(its:List Value)(n j:Nat)(u:Value):Obj.mapSeq (·.setIfInBounds j u) {cls:=.type "list",data:=.seq its.toArray n}={cls:=.type "list",data:=.seq (its.set j u).toArray n}:=by
 simp[Obj.mapSeq]
theorem Inv.lst{pins:List (Addr×Obj)}{σ:St}{H:Hp}{s:Shared}{p:Addr}{xs:List V}(I:Inv X pins σ H s)(h:H p=some (.lst xs)):
  ∃(its:List Value)(n:Nat),Vals xs its/\s.heap.get? p=some {cls:=.type "list",data:=.seq its.toArray n}/\xs.length<=sizeLine:=by
 obtain⟨z,its,n,r,e⟩:=I.hok p _ h;exact⟨its,n,r,e,z⟩
theorem Inv.lstUpd{pins:List (Addr×Obj)}{σ:St}{H:Hp}{s:Shared}{p:Addr}{xs ys:List V}{its its':List Value}{n n':Nat}{f:Obj->Obj}(I:Inv X pins σ H s)(h:H p=some (.lst xs))
  (ho:s.heap.get? p=some {cls:=.type "list",data:=.seq its.toArray n}) (hf:f {cls:=.type "list",data:=.seq its.toArray n}={cls:=.type "list",data:=.seq its'.toArray n'}) (r:Vals ys its') (hz:ys.length<=sizeLine) (t:Nat):
  Inv X pins σ (upd H p (.lst ys)) {s with heap:=s.heap.update p f,toks:=t}:=by
 have e:(s.heap.update p f).get? p=some {cls:=.type "list",data:=.seq its'.toArray n'}:=by
  rw[tZ f ho (by rw[hf]<;>rfl),hf]
 refine I.write (x:=p) (e:=p) (by rw[h];trivial) (.inl rfl) (λb u hb q=>(mZ _ _ (Ne.symm hb)).trans q) ⟨_,e⟩ ?_;exact⟨hz,its',n',r,e⟩
def rSetL:V->V->V->Hp->(Hp->Prop)->Prop:=λo i v H Q=>∃p xs k j,o= .ref p/\i= .int k/\H p=some (.lst xs)/\ixN xs.length k=some j/\Q (upd H p (.lst (xs.set j v)))
theorem zHs:PSet X rSetL:=by
 intro pins s σ H o i v ov iv u Q I ro ri rv h;obtain⟨p,xs,k,j,rfl,rfl,hp,hj,q⟩:=h;cases ro;obtain⟨t,rfl⟩:=ri;obtain⟨its,n,r,ho,hz⟩:=I.lst hp;obtain⟨h1,h2,h3,h4⟩:=zMv hj;have hl:=r.length;have hn:=kY;have I':Inv X pins σ (upd H p (.lst (xs.set j v))) {s with heap:=s.heap.update p (Obj.mapSeq (·.setIfInBounds j u))}:=
  I.lstUpd hp ho (zKe its n j u) (r.set rv j) (by rw[List.length_set];exact hz) s.toks
 by_cases h0:0<=k
 ·have hk:k.toNat=j:=by
   rw[seqIndex_of h0 h4] at h1;exact nU h1
  exact W.ki_setAt ho h0 (by lia) (by rw[nE,<-hl];exact h4) (by rw[hk];exact⟨_,I',q⟩)
 ·have hk:(k+(its.toArray.size:Int)).toNat=j:=by
   rw[seqIndex_neg (by lia) h3] at h1;rw[nE,<-hl];exact nU h1
  exact W.ki_setBack ho (by lia) (by rw[nE,<-hl];exact h3) (by lia) (by rw[hk];exact⟨_,I',q⟩)
theorem zGa(lo hi:Option Int)(n:Nat):(sliceBounds lo hi none n).1=((HT.sIx n 0 lo:Nat):Int)/\(sliceBounds lo hi none n).2.1=((HT.sIx n n hi:Nat):Int)/\(sliceBounds lo hi none n).2.2=1:=by
 refine⟨?_, ?_,rfl⟩
 ·cases lo with
  | none=>simp[sliceBounds,HT.sIx]
  | some i=>
   simp only[sliceBounds,HT.sIx,Option.getD_none,show(1:Int)>0 by decide,tO]
   by_cases h:i<0
   ·simp only[h,tO]<;>lia
   ·simp only[h,sW]<;>lia
 ·cases hi with
  | none=>simp[sliceBounds,HT.sIx]
  | some i=>
   simp only[sliceBounds,HT.sIx,Option.getD_none,show(1:Int)>0 by decide,tO]
   by_cases h:i<0
   ·simp only[h,tO]<;>lia
   ·simp only[h,sW]<;>lia
theorem zDn(its:List Value)(lo hi:Option Int):slicePick its.toArray lo hi none=((its.drop (HT.sIx its.length 0 lo)).take (HT.sIx its.length its.length hi - HT.sIx its.length 0 lo)).toArray:=by
 obtain⟨h1,h2,h3⟩:=zGa lo hi its.toArray.size;unfold slicePick;rw[h1,h2,h3];simp only[sliceRange_one,pick_run,nE]<;>rfl
def zXs(K:W.Frag):V->Option Int->Option Int->Hp->VK->Prop:=λx lo hi H Q=>∃a xs,x= .ref a/\SqL K H a xs/\∀p,H p=none->Q (.ref p) (upd H p (.lst (zDk xs lo hi)))
theorem uF:SlR X (zXs X.K):=by
 intro pins s σ H x v vl vu lo hi sl Q I rx hs pl pu h;obtain⟨a,xs,rfl,hx,q⟩:=h;cases rx;obtain⟨its,r,ht,hz⟩:=I.list hx;have hlen:=r.length;refine⟨"list",_,slot_list_getitem.lookup,ht.isList.typeIs, ?_⟩;refine wpAny_getItem_list_slice ht.isList hs pl pu .none (by simp) ?_ (by rw[nE]<;>lia);rw[zDn,<-hlen];refine⟨.ref s.heap.objs.size,_,I.laid (t':=s.toks) (o:=.lst (zDk xs lo hi)) (λb ob q=>mI _ q) (mK _) ?_,rfl,q _ (I.hok.fresh (mK _))⟩;exact⟨nN (zJb xs lo hi) hz,_,0,(r.drop (HT.sIx xs.length 0 lo)).take (HT.sIx xs.length xs.length hi - HT.sIx xs.length 0 lo),nI _ rfl⟩
def wK:V->Bool
 | .non=>true
 | .bl _=>true
 | .int _=>true
 | .str _=>true
 | _=>false
def eqV:V->V->Bool
 | .non, .non=>true
 | .bl a, .bl b=>a==b
 | .bl a, .int b=>(if a then 1 else 0)==b
 | .int a, .bl b=>a==(if b then 1 else 0)
 | .int a, .int b=>a==b
 | .str a, .str b=>a==b
 | _,_=>false
theorem zRr{A:Around}{s:Shared}{y x:V}{u v:Value}(ry:RelV y u)(rx:RelV x v)(fy:wK y=true)(fx:wK x=true):SeqAt.EqAt A s u v (eqV y x):=by
 cases y with
 | non=>
  cases ry
  cases x with
  | non=>cases rx;exact SeqAt.EqAt.same _
  | bl b=>cases rx;exact SeqAt.EqAt.none_bool b
  | int b=>obtain⟨t,rfl⟩:=rx;exact SeqAt.EqAt.none_int b t
  | str b=>obtain⟨t,rfl⟩:=rx;exact SeqAt.EqAt.none_str b t
  | _=>exact absurd (show false=true from fx) mO
 | bl a=>
  cases ry
  cases x with
  | non=>cases rx;exact SeqAt.EqAt.bool_none a
  | bl b=>cases rx;exact SeqAt.EqAt.bool_bool a b
  | int b=>obtain⟨t,rfl⟩:=rx;exact SeqAt.EqAt.bool_int a b t
  | str b=>obtain⟨t,rfl⟩:=rx;exact SeqAt.EqAt.bool_str a b t
  | _=>exact absurd (show false=true from fx) mO
 | int a=>
  obtain⟨t',rfl⟩:=ry
  cases x with
  | non=>cases rx;exact SeqAt.EqAt.int_none a t'
  | bl b=>cases rx;exact SeqAt.EqAt.int_bool a t' b
  | int b=>obtain⟨t,rfl⟩:=rx;exact SeqAt.EqAt.int_int a t' b t
  | str b=>obtain⟨t,rfl⟩:=rx;exact SeqAt.EqAt.int_str a t' b t
  | _=>exact absurd (show false=true from fx) mO
 | str a=>
  obtain⟨t',rfl⟩:=ry
  cases x with
  | non=>cases rx;exact SeqAt.EqAt.str_none a t'
  | bl b=>cases rx;exact SeqAt.EqAt.str_bool a t' b
  | int b=>obtain⟨t,rfl⟩:=rx;exact SeqAt.EqAt.str_int a t' b t
  | str b=>obtain⟨t,rfl⟩:=rx;exact SeqAt.EqAt.str_str a t' b t
  | _=>exact absurd (show false=true from fx) mO
 | _=>exact absurd (show false=true from fy) mO
def eqU(x:V)(u:Value):Bool:=match u with
 | .none=>eqV .non x
 | .bool b=>eqV (.bl b) x
 | .int i _=>eqV (.int i) x
 | .str z _=>eqV (.str z) x
 | _=>false
theorem zSn{x y:V}{u:Value}(r:RelV y u)(f:wK y=true):eqU x u=eqV y x:=by
 cases y with
 | non=>cases r;rfl
 | bl b=>cases r;rfl
 | int i=>obtain⟨t,rfl⟩:=r;rfl
 | str z=>obtain⟨t,rfl⟩:=r;rfl
 | _=>exact absurd (show false=true from f) mO
theorem zFs{x:V}:∀{xs:List V}{us:List Value},Vals xs us->xs.all wK=true->us.any (eqU x)=xs.any λy=>eqV y x
 | _,_, .nil,_=>rfl
 | y::xs,u::us, .cons r t,f=>by
  rw[cR,bH] at f;rw[bE,bE,zSn r f.1,zFs t f.2]
theorem zCh{A:Around}{s:Shared}{x:V}{v:Value}(rx:RelV x v)(fx:wK x=true):∀{xs:List V}{us:List Value},Vals xs us->xs.all wK=true->∀u∈us,SeqAt.EqAt A s u v (eqU x u)
 | _,_, .nil,_=>λu hu=>by cases hu
 | y::xs,u::us, .cons r t,f=>λu' hu=>by
  rw[cR,bH] at f;rcases mF.mp hu with rfl | hu
  ·rw[zSn r f.1];exact zRr r rx f.1 fx
  ·exact zCh rx fx t f.2 u' hu
def inV(x:V)(xs:List V):Bool:=xs.any λy=>eqV y x
def rIn(K:W.Frag)(neg:Bool):R2:=λx y H Q=>∃p xs,y= .ref p/\(SqL K H p xs\/SqT K H p xs)/\wK x=true/\xs.all wK=true/\Q (.bl (if neg then !inV x xs else inV x xs)) H
theorem zEd:OpR X (compareOp .In) (rIn X.K false):=by
 intro pins s σ H x y v u Q I rx ry h;obtain⟨p,xs,rfl,hq,fx,fs,q⟩:=h;cases ry;rcases hq with hq | hq
 ·obtain⟨its,r,pl,hz⟩:=I.list hq
  refine SeqAt.in_listAt (eqU x) pl.isList (λw hw=>zCh rx fx r fs w (by simpa using hw)) ⟨.bl _,H,I,rfl, ?_⟩;rw[show its.toArray.any (eqU x)=its.any (eqU x) by simp,zFs r fs];exact q
 ·obtain⟨its,r,pl,hz⟩:=I.tuple hq
  refine SeqAt.in_tupleAt (eqU x) pl (λw hw=>zCh rx fx r fs w (by simpa using hw)) ⟨.bl _,H,I,rfl, ?_⟩;rw[show its.toArray.any (eqU x)=its.any (eqU x) by simp,zFs r fs];exact q
theorem zGo:xY X (.builtin "len") (λxs H Q=>∃p ys,xs= [.ref p]/\(SqL X.K H p ys\/SqT X.K H p ys)/\Q (.int ys.length) H):=by
 intro pins s σ H xs us Q I r h;obtain⟨p,ys,rfl,hq,q⟩:=h;obtain⟨u,rfl,rx⟩:=jL r;cases rx;have hn:=kY;rcases hq with hq | hq
 ·obtain⟨its,r',pl,hz⟩:=I.list hq
  have hlen:=r'.length;exact Calls.call_len_list pl.isList (by simp only[nE]<;>lia) ⟨.int ys.length,H,I.tok _,⟨s.toks+1,by rw[nE,hlen]⟩,q⟩
 ·obtain⟨its,r',pl,hz⟩:=I.tuple hq
  have hlen:=r'.length;exact len_tuple pl (by simp only[nE]<;>lia) ⟨.int ys.length,H,I.tok _,⟨s.toks+1,by rw[nE,hlen]⟩,q⟩
theorem yE:xY X (.builtin "len") (λxs H Q=>∃z,xs= [.str z]/\z.length<=sizeLine/\Q (.int z.length) H):=by
 intro pins s σ H xs us Q I r h;obtain⟨z,rfl,hz,q⟩:=h;obtain⟨u,rfl,t,rfl⟩:=jL r;have hn:=kY;exact len_str (by lia) ⟨.int z.length,H,I.tok _,⟨_,rfl⟩,q⟩
def tyV(K:W.Frag)(T:String)(x:V)(H:Hp):Prop:=match x with
 | .str _=>T= "str"
 | .int _=>T= "int"
 | .ref p=>(T= "list"/\∃xs,SqL K H p xs)\/(T= "tuple"/\∃o,K.lookup p=some o/\o.cls= .type "tuple"/\o.dict=none)\/
   (T= "dict"/\((∃kvs,H p=some (.dK kvs))\/∃kvs,H p=some (.dT kvs)))\/(T= "set"/\∃S n,H p=some (.set S n))
 | _=>False
theorem zRo{pins:List (Addr×Obj)}{σ:St}{H:Hp}{s:Shared}{T:String}{x:V}{v:Value}(I:Inv X pins σ H s)(r:RelV x v)(ty:tyV X.K T x H):
  s.TypeIs v T/\∀a,v= .ref a->∃ob,s.heap.get? a=some ob/\ob.dict=none:=by
 cases x with
 | str z=>
  obtain⟨t,rfl⟩:=r;cases (show T= "str" from ty);exact⟨tD s z t,λ_ e=>nomatch e⟩
 | int i=>
  obtain⟨t,rfl⟩:=r;cases (show T= "int" from ty);exact⟨typeIs_int s i t,λ_ e=>nomatch e⟩
 | ref p=>
  cases r;rcases ty with⟨rfl,xs,hq⟩|⟨rfl,o,hk,hc,hd⟩|⟨rfl,hk⟩|⟨rfl,S,n,hk⟩
  ·obtain⟨its,_,pl,_⟩:=I.list hq
   refine⟨pl.isList.typeIs,λa e=>?_⟩;cases e;obtain⟨o,n,e,c,hd,_⟩:=pl;exact⟨o,e,hd⟩
  ·refine⟨⟨o,I.kIn p o hk,hc⟩,λa e=>?_⟩
   cases e;exact⟨o,I.kIn _ o hk,hd⟩
  ·have z:∃o,s.heap.get? p=some o/\o.ExactDict:=by
    rcases hk with⟨kvs,hk⟩|⟨kvs,hk⟩
    ·obtain⟨_,_,_,_,o,_,_,e,ex,_⟩:=I.hok p _ hk
     exact⟨o,e,ex⟩
    ·obtain⟨_,_,_,_,o,_,_,e,ex,_⟩:=I.hok p _ hk
     exact⟨o,e,ex⟩
   obtain⟨o,e,ex⟩:=z;refine⟨⟨o,e,ex.1⟩,λa e2=>?_⟩;cases e2;exact⟨o,e,ex.2.1⟩
  ·obtain⟨o,_,_,_,e,ex,_⟩:=I.hok p _ hk
   refine⟨⟨o,e,ex.1⟩,λa e2=>?_⟩;cases e2;exact⟨o,e,ex.2.1⟩
 | _=>exact False.elim ty
def zRj(K:W.Frag)(T:String)(r:V->List V->Hp->VK->Prop)(to:TE):TE:=λσ H Q=>to σ H λx H1=>tyV K T x H1/\r x [] H1 Q
def tBM(K:W.Frag)(T:String)(r:V->List V->Hp->VK->Prop)(to:TE)(t:TA):TE:=λσ H Q=>to σ H λx H1=>tyV K T x H1/\t σ H1 λxs H2=>r x xs H2 Q
variable{o e:Expr}{es:List Expr}{to:TE}{t:TA}{name:Str}{apos cpos:Pos}{T id:String}{r:V->List V->Hp->VK->Prop}
theorem zPs(pa:PlainAttrs T)(slot:Slot T name id)(hty:typeOf (.builtin id)=pure (.type "method_descriptor"))(hm:MtR X id r)(ho:PE X o to)
  (hbase:attributeBase o name X.env (eval o X.env)=eval o X.env:=by rfl) (hline:(apos.endLine==cpos.line)=true:=by rfl):PE X (.Call (.Attribute o name apos) [] [] cpos) (zRj X.K T r to):=by
 intro pins s σ H Q I h;refine wpAny_Call_method0_late hbase hline (thn (ho pins s σ H _ I h) λv s1 z_=>?_);obtain⟨x,H1,I1,r1,ty,q1⟩:=z_;obtain⟨h1,h2⟩:=zRo I1 r1 ty;exact⟨T,id,pa,slot,hty,h1,h2,bA rfl (PySem.evalArgs_none (hm pins s1 σ H1 x [] v [] Q I1 r1 .nil q1))⟩
theorem wG(pa:PlainAttrs T)(slot:Slot T name id)(hty:typeOf (.builtin id)=pure (.type "method_descriptor"))(hm:MtR X id r)(ho:PE X o to)(ha:PA X (e::es) t)
  (hbase:attributeBase o name X.env (eval o X.env)=eval o X.env:=by rfl)
  (hfew:((backTo cpos (starEach (e::es) X.env)).all (λx=>!x.1)&& (backToKw cpos (keywordEach [] X.env)).all (λx=>x.1.isSome)
   && decide ((e::es).length+([]:List Keyword).length+(if([]:List Keyword).isEmpty then 0 else 1)<30))=true:=by rfl)
  (hline:(apos.endLine==cpos.line)=true:=by rfl) (hs:starEach (e::es) X.env=(false,eval e X.env)::starEach es X.env:=by rfl) (hplain:(backTo cpos (starEach es X.env)).any (·.1)=false:=by rfl):
  PE X (.Call (.Attribute o name apos) (e::es) [] cpos) (tBM X.K T r to t):=by
 intro pins s σ H Q I h;refine wpAny_Call_method_late hbase hfew hline rfl (thn (ho pins s σ H _ I h) λv s1 z_=>?_);obtain⟨x,H1,I1,r1,ty,q1⟩:=z_;obtain⟨h1,h2⟩:=zRo I1 r1 ty;refine⟨T,id,pa,slot,hty,h1,h2, ?_⟩;have hA:=ha cpos pins s1 σ H1 _ I1 q1;rw[hs] at hA⊢;refine bA (by show(false ||(backTo cpos (starEach es X.env)).any (·.1))=false;rw[hplain]<;>rfl) (Calls.evalArgs_plain ?_)
 refine thn hA λus s2 z_=>?_;obtain⟨vs,H2,I2,r2,q2⟩:=z_;exact hm pins s2 σ H2 x vs v us Q I2 r1 r2 q2
/- xs.append(e),list.index on a module's tuple .. are MtR facts of 06m -/
end
def MtM(X:Cx)(id:String)(r:V->List V->Hp->VK->Prop):Prop:=
 ∀(pins:List (Addr×Obj))(s:Shared)(σ:St)(H:Hp)(x:V)(xs:List V)(v:Value)(us:List Value)(Q:VK),Inv X pins σ H s->RelV x v->Vals xs us->r x xs H Q->
  wpAny (model X.prog X.w) X.A (call (.builtin id) (v::us)) (EP X pins σ Q) X.xe s
theorem Vals.one:∀{x:V}{us:List Value},Vals [x] us->∃u,us= [u]/\RelV x u
 | _,_, .cons r .nil=>⟨_,rfl,r⟩
theorem Vals.two:∀{x y:V}{us:List Value},Vals [x,y] us->∃u v,us= [u,v]/\RelV x u/\RelV y v
 | _,_,_, .cons r (.cons q .nil)=>⟨_,_,rfl,r,q⟩
theorem Vals.zero:∀{us:List Value},Vals [] us->us= []
 | _, .nil=>rfl
theorem Vals.dropLast{xs:List V}{us:List Value}(h:Vals xs us):Vals xs.dropLast us.dropLast:=by
 induction h with
 | nil=>exact .nil
 | cons r t ih=>
  cases t with
  | nil=>exact .nil
  | cons q t'=>exact .cons r ih
theorem Vals.rep{xs:List V}{us:List Value}(h:Vals xs us):∀k:Nat,Vals (List.replicate k xs).flatten (List.replicate k us).flatten
 | 0=>.nil
 | k+1=>by
  rw[pA,pA,tX,tX];exact Vals.append h (Vals.rep h k)
theorem zJx{α:Type}(l:List α):l.eraseIdx (l.length - 1)=l.dropLast:=by
 induction l with
 | nil=>rfl
 | cons a r ih=>
  cases r with
  | nil=>rfl
  | cons b r=>
   have e:(a::b::r).length - 1=((b::r).length - 1)+1:=by
    have h1:(a::b::r).length=r.length+2:=rfl;have h2:(b::r).length=r.length+1:=rfl
    lia
   rw[e,List.eraseIdx_cons_succ,ih]
   all_goals rfl
theorem zDu(its:List Value):∀(k:Nat)(acc:List Value),
  List.foldl (λx1 x2=>x1++x2) acc.toArray (List.replicate k its.toArray)=(acc++(List.replicate k its).flatten).toArray
 | 0,acc=>by simp
 | k+1,acc=>by
  have e:acc.toArray++its.toArray=(acc++its).toArray:=by simp
  have e2:(acc++its)++(List.replicate k its).flatten=acc++(List.replicate (k+1) its).flatten:=by
   rw[pA,tX,mY]
  rw[<-e2,<-zDu its k (acc++its),<-e,pA,bT]
section
variable{X:Cx}{pins:List (Addr×Obj)}{σ:St}{H:Hp}{s:Shared}{l b:Addr}{xs ys zs:List V}
theorem Inv.lset{its its':List Value}{n:Nat}{f:Array Value->Array Value}{t':Nat}(I:Inv X pins σ H s)(hH:H l=some (.lst xs))
  (e:s.heap.get? l=some {cls:=.type "list",data:=.seq its.toArray n}) (hf:f its.toArray=its'.toArray) (hv:Vals ys its') (hz:ys.length<=sizeLine):
  Inv X pins σ (upd H l (.lst ys)) {s with heap:=s.heap.update l (Obj.mapSeq f),toks:=t'}:=by
 have q:=PySem.IsL.update e f;rw[hf] at q;refine I.write (x:=l) (e:=l) (by rw[hH];exact trivial) (.inl rfl) (λb' u hb hu=>(mZ s.heap (Obj.mapSeq f) (Ne.symm hb)).trans hu) ⟨_,q⟩ ?_;exact⟨hz,its',_,hv,q⟩
theorem Inv.lnew{its:List Value}{t':Nat}(I:Inv X pins σ H s)(hv:Vals ys its)(hz:ys.length<=sizeLine):
  Inv X pins σ (upd H s.heap.objs.size (.lst ys)) {s with heap:=s.heap.push {cls:=.type "list",data:=.seq its.toArray},toks:=t'}:=
 I.laid (λ_ _ q=>mI _ q) (mK _) ⟨hz,its,0,hv,nI _ rfl⟩
theorem Inv.fresh(I:Inv X pins σ H s):H s.heap.objs.size=none:=I.hok.fresh (mK _)
theorem Inv.lstM(I:Inv X pins σ H s)(hH:H l=some (.lst xs)):xs.length<=sizeLine/\∃(its:List Value)(n:Nat),Vals xs its/\xs.length=its.length/\s.heap.get? l=some {cls:=.type "list",data:=.seq its.toArray n}:=by
 obtain⟨z,its,n,r,e⟩:=I.hok l _ hH;exact⟨z,its,n,r,r.length,e⟩
theorem zQf{n:Nat}(h:n<=sizeLine):Builtin.List.listTooLong n=false:=by
 unfold Builtin.List.listTooLong;exact mM (by lia)
end
section
variable{X:Cx}
def zFk:V->List V->Hp->VK->Prop:=λx vs H Q=>∃l xs y,x= .ref l/\vs= [y]/\H l=some (.lst xs)/\xs.length<sizeLine/\Q .non (upd H l (.lst (xs++ [y])))
theorem xP:MtM X "list.append" zFk:=by
 intro pins s σ H x vs v us Q I rx rv h;obtain⟨l,xs,y,rfl,rfl,hH,hz,q⟩:=h;cases rx;obtain⟨u,rfl,ru⟩:=rv.one;obtain⟨z,its,n,r,hl,e⟩:=I.lstM hH;refine tR F.slot_list_append ⟨_,e,rfl⟩ F.entry_list_append (F.args_list_append_2 _ _) (PySem.list_append l its.toArray n u (by rw[nE];lia)) ⟨e, ?_⟩;refine⟨.non,_,I.lset (its':=its++ [u]) hH e (by simp) (r.append (.cons ru .nil)) ?_,rfl,q⟩;rw[mC,sB]
 lia
def rPop:V->List V->Hp->VK->Prop:=λx vs H Q=>∃l xs y,x= .ref l/\vs= []/\H l=some (.lst xs)/\xs[xs.length - 1]? =some y/\Q y (upd H l (.lst xs.dropLast))
theorem zRl:MtM X "list.pop" rPop:=by
 intro pins s σ H x vs v us Q I rx rv h;obtain⟨l,xs,y,rfl,rfl,hH,hy,q⟩:=h;cases rx;have hus:=rv.zero;subst hus;obtain⟨z,its,n,r,hl,e⟩:=I.lstM hH;obtain⟨u,hu,ru⟩:=r.get hy;have hy':its.toArray[its.toArray.size - 1]? =some u:=by
  show its.toArray[its.length - 1]? =some u;rw[<-aB,<-hl];exact hu
 refine tR F.slot_list_pop ⟨_,e,rfl⟩ F.entry_list_pop (F.args_list_pop_1 _) (MeetsSeq.list_pop_last l its.toArray n u hy' (by rw[nE];lia)) ⟨e, ?_⟩;refine⟨y,_,I.lset (its':=its.dropLast) hH e ?_ r.dropLast ?_,ru,q⟩
 ·show its.toArray.eraseIdxIfInBounds (its.toArray.size - 1)=its.dropLast.toArray
  rw[nE,List.eraseIdxIfInBounds_toArray,zJx]
 ·rw[List.length_dropLast]
  lia
def zGs:R2:=λx y H Q=>∃l b xs zs,x= .ref l/\y= .ref b/\H l=some (.lst xs)/\H b=some (.lst zs)/\xs.length+zs.length<=sizeLine/\∀p,H p=none->Q (.ref p) (upd H p (.lst (xs++zs)))
theorem yW:OpR X (binaryOp .Add) zGs:=by
 intro pins s σ H x y v u Q I rx ry h;obtain⟨l,b,xs,zs,rfl,rfl,hH,hB,hz,q⟩:=h;cases rx;cases ry;obtain⟨z,its,n,r,hl,e⟩:=I.lstM hH;obtain⟨z2,its2,n2,r2,hl2,e2⟩:=I.lstM hB;refine PySem.P.add_list e e2 ?_ (by rw[nE,nE];lia);have ea:its.toArray++its2.toArray=(its++its2).toArray:=by simp
 rw[ea];exact⟨.ref _,_,I.lnew (t':=s.toks) (r.append r2) (by rw[mC];lia),rfl,q _ I.fresh⟩
def zXo:R2:=λx y H Q=>∃l k xs,x= .ref l/\y= .int k/\H l=some (.lst xs)/\-(2 ^ 63)<=k/\k<2 ^ 63/\xs.length*k.toNat<=sizeLine/\
 ∀p,H p=none->Q (.ref p) (upd H p (.lst (List.replicate k.toNat xs).flatten))
theorem zMl{α:Type}(xs:List α)(k:Nat):(List.replicate k xs).flatten.length=k*xs.length:=by
 induction k with
 | zero=>simp
 | succ k ih=>rw[pA,tX,mC,ih,Nat.succ_mul,Nat.add_comm]
theorem zAb:OpR X (binaryOp .Mult) zXo:=by
 intro pins s σ H x y v u Q I rx ry h;obtain⟨l,k,xs,rfl,rfl,hH,h1,h2,hz,q⟩:=h;cases rx;obtain⟨t,rfl⟩:=ry;obtain⟨z,its,n,r,hl,e⟩:=I.lstM hH;have hlen:its.toArray.size*k.toNat<=sizeLine:=by rw[nE,<-hl];exact hz
 have hcap:¬its.toArray.size*k.toNat>(2 ^ 63 - 1)/ 8:=by
  have:(sizeLine:Nat)<=(2 ^ 63 - 1)/ 8:=by decide
  lia
 have hfit:¬(!Builtin.List.listFitsIndex k)=true:=by
  rw[fitsIndex_both h1 h2];exact mO
 have hlong:¬Builtin.List.listTooLong (its.toArray.size*k.toNat)=true:=by
  rw[zQf hlen];exact mO
 have hnew:List.foldl (λx1 x2=>x1++x2) #[] (List.replicate (if its.toArray.isEmpty=true then 0 else k.toNat) its.toArray)=(List.replicate k.toNat its).flatten.toArray:=by
  have f0:∀m:Nat,List.foldl (λx1 x2=>x1++x2) #[] (List.replicate m its.toArray)=(List.replicate m its).flatten.toArray:=λm=>by
   have:=zDu its m [];rw[nH] at this;exact this
  rw[f0]
  cases its with
  | nil=>simp
  | cons a r'=>rw[mG (by simp)]
 refine wpAny_binaryOp_repeat_ref (T:="list") (U:="int") (by decide) ⟨_,e,rfl⟩ (λs'=>typeIs_int s' k t) noFill_list_mul F.fills_int_mul F.slot_int_rmul repeat_list F.slot_int_index.lookup
  (tR F.slot_int_rmul (typeIs_int s k t) F.entry_int_rmul (F.args_int_rmul_2 _ _) (int___rmul___int_list k t l its.toArray n)
   ⟨e,rfl,⟨_,e,rfl⟩,tR F.slot_list_mul ⟨_,e,rfl⟩ F.entry_list_mul (F.args_list_mul_2 _ _) (AutoListH.list___mul___list_int_3 l its.toArray n k t hfit hcap hlong) ⟨e, ?_⟩⟩)
 rw[hnew];exact⟨.ref _,_,I.lnew (t':=s.toks) (r.rep k.toNat) (by rw[zMl,Nat.mul_comm];exact hz),rfl,q _ I.fresh⟩
end
section
variable{prog:Program}{w:World}{A:Around}{E:Value->Shared->Prop}{s:Shared}
set_option maxRecDepth 100000 in
end
section
variable{X:Cx}
end
section
variable{κ:Type} [DecidableEq κ]
def xM(kvs:List (κ×V))(k:κ):Option V:=(kvs.find? λkv=>decide (kv.1=k)).map (·.2)
def vT(kvs:List (κ×V))(k:κ)(v:V):List (κ×V):=
 if(kvs.any λkv=>decide (kv.1=k))=true then kvs.map (λkv=>if kv.1=k then(kv.1,v) else kv) else kvs++ [(k,v)]
theorem jS{k:κ}:xM ([]:List (κ×V)) k=none:=rfl
theorem wE{p:κ×V}{r:List (κ×V)}{k:κ}(e:p.1=k):xM (p::r) k=some p.2:=by simp[xM,tS,e]
theorem yN{p:κ×V}{r:List (κ×V)}{k:κ}(e:¬p.1=k):xM (p::r) k=xM r k:=by simp[xM,tS,e]
theorem uH(k:κ):∀kvs:List (κ×V),(kvs.any λkv=>decide (kv.1=k))=(xM kvs k).isSome
 | []=>rfl
 | p::r=>by
  rw[bE]
  by_cases e:p.1=k
  ·simp only[wE e,nB e,aR,Option.isSome_some]
  ·rw[yN e,mM e,tP];exact uH k r
theorem jZ(kvs:List (κ×V))(k:κ)(v:V):(vT kvs k v).length<=kvs.length+1:=by
 unfold vT;split
 ·rw[nA];lia
 ·rw[mC,mE,nL];lia
theorem wU{kvs:List (κ×V)}{k:κ}(v:V)(h:xM kvs k=none):vT kvs k v=kvs++ [(k,v)]:=by
 unfold vT;rw[uH,h];exact mG (by decide)
theorem RelO.isSome_eq{o:Option V}{u:Option Value}(r:RelO o u):o.isSome=u.isSome:=by
 cases o with
 | none=>cases u with
  | none=>rfl
  | some _=>exact(show False from r).elim
 | some _=>cases u with
  | none=>exact(show False from r).elim
  | some _=>rfl
theorem KV.val{kvs:List (κ×V)}{vs:List (κ×Value)}(r:KV kvs vs)(k:κ):RelO (xM kvs k) (valueAt vs k):=by
 unfold KV at r
 induction r with
 | nil=>exact nJ
 | @cons p q ps qs h t ih=>
  obtain⟨h1,h2⟩:=h
  by_cases e:p.1=k
  ·have e':q.1=k:=h1.symm.trans e
   have b:valueAt (q::qs) k=some q.2:=by simp[valueAt,tS,e']
   rw[wE e,b];exact h2
  ·have e':¬q.1=k:=λz=>e (h1.trans z)
   have b:valueAt (q::qs) k=valueAt qs k:=by simp[valueAt,tS,e']
   rw[yN e,b];exact ih
theorem KV.any{kvs:List (κ×V)}{vs:List (κ×Value)}(r:KV kvs vs)(k:κ):(kvs.any λkv=>decide (kv.1=k))=vs.any λkv=>decide (kv.1=k):=by
 unfold KV at r
 induction r with
 | nil=>rfl
 | cons h t ih=>rw[bE,bE,ih,h.1]
theorem KV.repl{kvs:List (κ×V)}{vs:List (κ×Value)}(r:KV kvs vs)(k:κ){y:V}{u:Value}(ry:RelV y u):
  KV (kvs.map λkv=>if kv.1=k then(kv.1,y) else kv) (vs.map λkv=>if kv.1=k then(kv.1,u) else kv):=by
 unfold KV at r⊢
 induction r with
 | nil=>exact .nil
 | @cons p q ps qs h t ih=>
  rw[nD,nD];refine .cons ?_ ih;obtain⟨h1,h2⟩:=h
  by_cases e:p.1=k
  ·rw[mL e,mL (h1.symm.trans e)];exact⟨h1,ry⟩
  ·rw[mG e,mG (λz=>e (h1.trans z))];exact⟨h1,h2⟩
theorem KV.put{kvs:List (κ×V)}{vs:List (κ×Value)}(r:KV kvs vs)(k:κ){y:V}{u:Value}(ry:RelV y u):KV (vT kvs k y) (stored vs k u):=by
 unfold vT stored;rw[r.any k]
 by_cases e:(vs.any λkv=>decide (kv.1=k))=true
 ·rw[mL e,mL e];exact r.repl k ry
 ·rw[mG e,mG e];exact Paired.snoc r ⟨rfl,ry⟩
theorem KV.keys{kvs:List (κ×V)}{vs:List (κ×Value)}(r:KV kvs vs):kvs.map (·.1)=vs.map (·.1):=by
 unfold KV at r
 induction r with
 | nil=>rfl
 | cons h t ih=>rw[nD,nD,ih,h.1]
theorem KV.length{kvs:List (κ×V)}{vs:List (κ×Value)}(r:KV kvs vs):kvs.length=vs.length:=Paired.length r
end
theorem zCk{P:Program}{w:World}{k:Key}{u:Value}(r:RelV (kV k) u):(yR P w).is k u=true:=by
 cases k with
 | inl i=>obtain⟨t,e⟩:=(show∃t,u=Value.int i t from r);subst e;exact zHe P w i t
 | inr x=>obtain⟨t,e⟩:=(show∃t,u=Value.str x t from r);subst e;exact zIn P w x t
theorem zEq{P:Program}{w:World}:∀{ks:List Key}{us:List Value},Vals (ks.map kV) us->ItemsAre (yR P w) ks us
 | [],_,r=>by rw[pV] at r;cases r;exact .nil
 | k::ks,_,r=>by
  rw[nD] at r
  cases r with
  | cons h t=>exact .cons (zCk h) (zEq t)
abbrev KT(H:Hp):List (List Key×V)->List (List Key×Addr×Value)->Prop:=Paired λp q=>p.1=q.1/\H q.2.1=some (.tup (p.1.map kV))/\RelV p.2 q.2.2
theorem KT.val{H:Hp}{kvs:List (List Key×V)}{xs:List (List Key×Addr×Value)}(r:KT H kvs xs)(k:List Key):RelO (xM kvs k) ((atKey xs k).map (·.2)):=by
 induction r with
 | nil=>exact nJ
 | @cons p q ps qs h t ih=>
  obtain⟨h1,_,h2⟩:=h
  by_cases e:p.1=k
  ·have e':q.1=k:=h1.symm.trans e
   have b:atKey (q::qs) k=some q.2:=by simp[atKey,tS,e']
   rw[wE e,b];exact h2
  ·have e':¬q.1=k:=λz=>e (h1.trans z)
   have b:atKey (q::qs) k=atKey qs k:=by simp[atKey,tS,e']
   rw[yN e,b];exact ih
theorem KT.repl{H:Hp}{kvs:List (List Key×V)}{xs:List (List Key×Addr×Value)}(r:KT H kvs xs)(k:List Key){y:V}{u:Value}(ry:RelV y u):
  KT H (kvs.map λkv=>if kv.1=k then(kv.1,y) else kv) (xs.map (putAt k u)):=by
 induction r with
 | nil=>exact .nil
 | @cons p q ps qs h t ih=>
  rw[nD,nD];refine .cons ?_ ih;obtain⟨h1,h2,h3⟩:=h;unfold putAt
  by_cases e:p.1=k
  ·rw[mL e,mL (h1.symm.trans e)];exact⟨h1,h2,ry⟩
  ·rw[mG e,mG (λz=>e (h1.trans z))];exact⟨h1,h2,h3⟩
theorem KT.put{H:Hp}{kvs:List (List Key×V)}{xs:List (List Key×Addr×Value)}(r:KT H kvs xs)(k:List Key){b:Addr}{y:V}{u:Value}(hb:H b=some (.tup (k.map kV)))(ry:RelV y u):
  KT H (vT kvs k y) (storedH xs k b u):=by
 have e:(kvs.any λkv=>decide (kv.1=k))=(atKey xs k).isSome:=by
  rw[uH,(r.val k).isSome_eq,Option.isSome_map]
 unfold vT storedH;rw[e]
 by_cases q:(atKey xs k).isSome=true
 ·rw[mL q,mL q];exact r.repl k ry
 ·rw[mG q,mG q];exact Paired.snoc r ⟨rfl,hb,ry⟩
theorem KT.keeps{H H':Hp}{kvs:List (List Key×V)}{xs:List (List Key×Addr×Value)}(r:KT H kvs xs)(ht:∀b ys,H b=some (.tup ys)->H' b=some (.tup ys)):KT H' kvs xs:=
 Paired.mapP r λ_ _ z=>⟨z.1,ht _ _ z.2.1,z.2.2⟩
section
variable{P:Program}{w:World}{H:Hp}{h:Heap}{a:Addr}
theorem zXc{u:HO}(ok:HOk P w H h)(e:Rd H a u):ObjOk P w H h a u:=e.ok ok
theorem zBm{kvs:List (Key×V)}(ok:HOk P w H h)(e:Rd H a (.dK kvs)):kvs.length<=sizeLine/\(a==sysModules)=false/\∃vs,KV kvs vs/\h.DictOf (yR P w) a vs:=
 show ObjOk P w H h a (.dK kvs) from zXc ok e
theorem zWy{kvs:List (Key×V)}(ok:HOk P w H h)(e:H a=some (.dK kvs)):kvs.length<=sizeLine/\(a==sysModules)=false/\∃vs,KV kvs vs/\h.DictOf (yR P w) a vs:=zBm ok (.inl e)
theorem zEx{ks:List Key}(ok:HOk P w H h)(e:H a=some (.tup (ks.map kV))):(tupleKind (yR P w)).is h ks a:=by
 obtain⟨_,its,r,o,h1,h2,n,h3⟩:=(show ObjOk P w H h a (.tup (ks.map kV)) from ok a _ e);exact⟨o,its.toArray,n,h1,h2,h3,by simpa using zEq r⟩
theorem zLd{kvs:List (List Key×V)}(ok:HOk P w H h)(e:Rd H a (.dT kvs)):kvs.length<=sizeLine/\(a==sysModules)=false/\
  ∃xs,KT H kvs xs/\h.DictOfH (tupleKind (yR P w)) a xs:=by
 obtain⟨z,y,xs,r,o,es,ep,h1,h2,h3,h4,h5⟩:=(show ObjOk P w H h a (.dT kvs) from zXc ok e);refine⟨z,y,xs,r,o,es,ep,h1,h2,h3,h4,λx hx=>?_,h5⟩;have all:∀{l:List (List Key×V)}{m:List (List Key×Addr×Value)},KT H l m->∀x∈m,(tupleKind (yR P w)).is h x.1 x.2.1:=by
  intro l m q
  induction q with
  | nil=>intro x hx;exact nomatch hx
  | @cons p q ps qs hq t ih=>
   intro x hx;rcases mF.mp hx with e | hx
   ·subst e
    exact zEx ok (by rw[<-hq.1];exact hq.2.1)
   ·exact ih x hx
 exact all r x hx
theorem dt_of{kvs:List (List Key×V)}(ok:HOk P w H h)(e:H a=some (.dT kvs)):kvs.length<=sizeLine/\(a==sysModules)=false/\
  ∃xs,KT H kvs xs/\h.DictOfH (tupleKind (yR P w)) a xs:=zLd ok (.inl e)
end
def DGet(H:Hp)(a:Addr)(y:V)(r:Option V):Prop:=
 (∃kvs k,Rd H a (.dK kvs)/\y=kV k/\r=xM kvs k)\/∃kvs k b,Rd H a (.dT kvs)/\y= .ref b/\H b=some (.tup (k.map kV))/\r=xM kvs k
def DPut(H:Hp)(a:Addr)(y v:V)(H':Hp):Prop:=
 (∃kvs k,H a=some (.dK kvs)/\y=kV k/\kvs.length<sizeLine/\H'=upd H a (.dK (vT kvs k v)))\/
 ∃kvs k b,H a=some (.dT kvs)/\y= .ref b/\H b=some (.tup (k.map kV))/\kvs.length<sizeLine/\H'=upd H a (.dT (vT kvs k v))
theorem DGet.k{H:Hp}{a:Addr}{kvs:List (Key×V)}{k:Key}(e:H a=some (.dK kvs)):DGet H a (kV k) (xM kvs k):=.inl ⟨kvs,k, .inl e,rfl,rfl⟩
theorem DPut.k{H:Hp}{a:Addr}{kvs:List (Key×V)}{k:Key}{v:V}(e:H a=some (.dK kvs))(hl:kvs.length<sizeLine):DPut H a (kV k) v (upd H a (.dK (vT kvs k v))):=.inl ⟨kvs,k,e,rfl,hl,rfl⟩
section
variable{X:Cx}{pins:List (Addr×Obj)}{σ:St}{H:Hp}{s:Shared}{a:Addr}{y v:V}{u r:Value}{o:Option V}{A:Around}{E:Value->Shared->Prop}
theorem Inv.big(I:Inv X pins σ H s):sysModules<s.heap.objs.size:=by
 have h:mainGlobals<s.heap.objs.size:=(I.mod.glob.keeps I.bk).lt;exact Nat.lt_trans (by decide) h
theorem zEm{Q:Value->Shared->Prop}(hu:A.units+1<cLine)(I:Inv X pins σ H s)(g:DGet H a y (some v))(ry:RelV y u)(h:∀w' s',Inv X pins σ H s'->RelV v w'->Q w' s'):
  wpAny (model X.prog X.w) A (getItem (.ref a) u) Q E s:=by
 rcases g with⟨kvs,k,e,ey,l⟩|⟨kvs,k,b,e,ey,eb,l⟩
 ·subst ey
  obtain⟨z,hd,vs,rel,dd⟩:=zBm I.hok e;obtain⟨w',hw,rw'⟩:=RelO.some_of (v:=v) (o:=valueAt vs k) (by rw[l];exact rel.val k);exact wpAny_getItem_of (zCk ry) dd.mapOf hw (h w' _ (I.tok _) rw')
 ·subst ey
  cases (show u=Value.ref b from ry);obtain⟨z,hd,xs,rel,dd⟩:=zLd I.hok e;obtain⟨w',hw,rw'⟩:=RelO.some_of (v:=v) (o:=(atKey xs k).map (·.2)) (by rw[l];exact rel.val k);obtain⟨p,hp,hp2⟩:=Option.map_eq_some_iff.mp hw;refine wpAny_getItem_heap (cL hu) (zEx I.hok eb) dd hp ?_;rw[hp2];exact h w' _ (I.tok _) rw'
theorem d_in{Q:Value->Shared->Prop}(hu:A.units+1<cLine)(I:Inv X pins σ H s)(g:DGet H a y o)(ry:RelV y u)(h:∀s',Inv X pins σ H s'->Q (.bool o.isSome) s'):
  wpAny (model X.prog X.w) A (compareOp .In u (.ref a)) Q E s:=by
 rcases g with⟨kvs,k,e,ey,l⟩|⟨kvs,k,b,e,ey,eb,l⟩
 ·subst ey
  obtain⟨z,hd,vs,rel,dd⟩:=zBm I.hok e;refine wpAny_in_of (zCk ry) hd dd.mapOf ?_;rw[<-(rel.val k).isSome_eq,<-l];exact h _ (I.tok _)
 ·subst ey
  cases (show u=Value.ref b from ry);obtain⟨z,hd,xs,rel,dd⟩:=zLd I.hok e;refine wpAny_in_heap (cL hu) (zEx I.hok eb) hd dd ?_;have q:=(rel.val k).isSome_eq;rw[Option.isSome_map] at q;rw[<-q,<-l];exact h _ (I.tok _)
theorem zGc{h':Heap}{t':Nat}{ob:HO}(I:Inv X pins σ H s)(mu:Mut (H a))(hs:Heap.SameBut a s.heap h')(he:∃q,h'.get? a=some q)(new:ObjOk X.prog X.w (upd H a ob) h' a ob):
  Inv X pins σ (upd H a ob) {s with heap:=h',toks:=t'}:=
 I.write (x:=a) (e:=a) mu (.inl rfl) (λb q hb z=>(hs.2 b hb).trans z) he new
theorem zPa{P:Program}{w:World}{H':Hp}{h':Heap}{kvs:List (Key×V)}{vs:List (Key×Value)}(z:kvs.length<=sizeLine)(hd:(a==sysModules)=false)(rel:KV kvs vs)(dd:h'.DictOf (yR P w) a vs):
  ObjOk P w H' h' a (.dK kvs):=⟨z,hd,vs,rel,dd⟩
theorem zEl{H':Hp}{Q:Unit->Shared->Prop}(hu:A.units+1<cLine)(I:Inv X pins σ H s)(g:DPut H a y v H')(ry:RelV y u)(rv:RelV v r)(h:∀s',Inv X pins σ H' s'->Q () s'):
  wpAny (model X.prog X.w) A (setItem (.ref a) u r) Q E s:=by
 rcases g with⟨kvs,k,e,ey,l,eH⟩|⟨kvs,k,b,e,ey,eb,l,eH⟩
 ·subst ey eH
  obtain⟨z,hd,vs,rel,dd⟩:=zWy I.hok e;have hz:vs.length<=sizeLine:=by rw[<-rel.length];exact z
  have hl:(vT kvs k v).length<=sizeLine:=by have:=jZ kvs k v;lia
  refine wpAny_setItem_pairs (hsz:=hz) (zCk ry) dd λh' dd' hs=>h _ ?_;have he:∃q,h'.get? a=some q:=let ⟨q,_,_,hq,_⟩:=dd';⟨q,hq⟩;exact zGc I (by rw[e];exact nJ) hs he (zPa hl hd (rel.put k rv) dd')
 ·subst ey eH
  cases (show u=Value.ref b from ry);obtain⟨z,hd,xs,rel,dd⟩:=dt_of I.hok e;have hz:xs.length<=sizeLine:=by rw[<-Paired.length rel];exact z
  have hl:(vT kvs k v).length<=sizeLine:=by have:=jZ kvs k v;lia
  refine wpAny_setItem_heap (hsz:=hz) (cL hu) (zEx I.hok eb) dd λh' dd' hs=>h _ ?_;obtain⟨q,es,ep,hq,h2,h3,h4,_,h5⟩:=dd';refine zGc I (by rw[e];exact nJ) hs ⟨q,hq⟩ ⟨hl,hd,_,(rel.put k eb rv).keeps λc ys ec=>?_,q,es,ep,hq,h2,h3,h4,h5⟩;rw[zN (zAi ec e (λz=>nomatch z))];exact ec
end
section
variable{X:Cx}{pins:List (Addr×Obj)}{σ:St}{H:Hp}{s:Shared}{a:Addr}{kvs:List (Key×V)}{k:Key}{u:Value}{A:Around}{E:Value->Shared->Prop}
theorem d_len{Q:Value->Shared->Prop}(I:Inv X pins σ H s)(e:Rd H a (.dK kvs))(h:∀t s',Inv X pins σ H s'->Q (.int kvs.length t) s'):wpAny (model X.prog X.w) A (call (.builtin "len") [.ref a]) Q E s:=by
 obtain⟨z,hd,vs,rel,dd⟩:=zBm I.hok e;refine call_len_dict hd dd (by rw[<-rel.length];rw[mJ] at z;lia) ?_;rw[<-rel.length];exact h _ _ (I.tok _)
end
def zZl(i:Expr):Prop:=∀ov iv,subscripted i false ov iv=operate [ov,iv] (getItem ov iv)
theorem zLm{prog:Program}{w:World}{A:Around}{E:Value->Shared->Prop}{s:Shared}{env:Env}{value slice:Expr}{pos:Pos}{T id:String}{Q:Value->Shared->Prop}
  (hl:typeLookup (.type T) "__getitem__" =pure (some (.builtin id))) (hs:zZl slice)
  (h:wpAny (model prog w) A (eval value env) (λo s₁=>wpAny (model prog w) A (eval slice env) (λi s₂=>s₂.TypeIs o T/\wpAny (model prog w) A (getItem o i) Q E s₂) E s₁) E s):
  wpAny (model prog w) A (eval (.Subscript value slice pos) env) Q E s:=by
 refine Subscript_ (pU h (λo s₁ h₁=>pU h₁ (λi s₂ h₂=>?_) λ_ _ x=>x) λ_ _ x=>x);obtain⟨hT,h₂⟩:=h₂;unfold subscriptTail;refine mD ?_;rw[getitemInPython_of_ne hT.not_modules];refine mD (wpAny_specialOf hT hl ?_);have fin:wpAny (model prog w) A (subscripted slice false o i) (λr s₃=>wpAny (model prog w) A (letTemporaryGo value o r>>=λ_=>pure r) Q E s₃) E s₂:=by
  rw[hs o i];exact wpAny_operating (pU h₂ (λr s₃ h₃=>mD (wpAny_letTemporaryGo (mQ h₃))) λ_ _ x=>x)
 first
  | exact mQ (mD fin)
  | exact mD (mQ (mD fin))
  | exact mD fin
theorem zIp{X:Cx}{pins:List (Addr×Obj)}{σ:St}{H:Hp}{s:Shared}{a:Addr}{y:V}{o:Option V}(I:Inv X pins σ H s)(g:DGet H a y o):s.TypeIs (.ref a) "dict":=by
 rcases g with⟨kvs,k,e,_,_⟩|⟨kvs,k,b,e,_,_,_⟩
 ·obtain⟨_,_,vs,_,dd⟩:=zBm I.hok e
  exact dd.typeIs
 ·obtain⟨_,_,xs,_,dd⟩:=zLd I.hok e
  exact dd.typeIs
def zIc(td ty:TE):TE:=λσ H Q=>td σ H λx H1=>ty σ H1 λy H2=>∃a v,x= .ref a/\DGet H2 a y (some v)/\Q v H2
def zXw(ty td:TE):TE:=λσ H Q=>ty σ H λy H1=>td σ H1 λx H2=>∃a o,x= .ref a/\DGet H2 a y o/\Q (.bl o.isSome) H2
def zHf(td ty tv:TE):TS:=λD σ H=>tv σ H λv H1=>td σ H1 λx H2=>ty σ H2 λy H3=>∃a H4,x= .ref a/\DPut H3 a y v H4/\D.nx σ H4
def zXd(td ty tv:TE)(rd:V->V->Hp->VK->Prop):TS:=λD σ H=>td σ H λx H1=>ty σ H1 λy H2=>∃a v,x= .ref a/\DGet H2 a y (some v)/\
 tv σ H2 λy2 H3=>rd v y2 H3 λz H4=>∃H5,DPut H4 a y z H5/\D.nx σ H5
section
variable{X:Cx}{o i e value:Expr}{pos pos' tpos:Pos}{td ty tv:TE}
theorem xE(hu:X.A.units+1<cLine)(ho:PE X o td)(hi:PE X i ty)(hs:zZl i):PE X (.Subscript o i pos) (zIc td ty):=by
 intro pins s σ H Q I h;refine zLm PySem.F.slot_dict_getitem.lookup hs (thn (ho pins s σ H _ I h) λu s1 z_=>?_);obtain⟨x,H1,I1,rx,q1⟩:=z_;refine thn (hi pins s1 σ H1 _ I1 q1) λiv s2 z_=>?_;obtain⟨y,H2,I2,ry,a,v,ex,g,q2⟩:=z_;subst ex;obtain rfl:u=Value.ref a:=rx;exact⟨zIp I2 g,zEm hu I2 g ry λw' s3 I3 rw'=>⟨v,H2,I3,rw',q2⟩⟩
theorem zPc(hu:X.A.units+1<cLine)(hi:PE X i ty)(ho:PE X o td):PC X .In i o (zXw ty td):=by
 intro pins s σ H Q I h;refine thn (hi pins s σ H _ I h) λiv s1 z_=>?_;obtain⟨y,H1,I1,ry,q1⟩:=z_;refine thn (ho pins s1 σ H1 _ I1 q1) λu s2 z_=>?_;obtain⟨x,H2,I2,rx,a,ov,ex,g,q2⟩:=z_;subst ex;obtain rfl:u=Value.ref a:=rx;exact d_in hu I2 g ry λs3 I3=>⟨.bl ov.isSome,H2,I3,rfl,q2⟩
theorem vG(hu:X.A.units+1<cLine)(ho:PE X o td)(hi:PE X i ty)(hv:PE X value tv)(hs:swapsWith value (some (.Subscript o i pos')) pos.line X.env=pure false):
  PS X (.Assign [.Subscript o i pos'] value pos) (zHf td ty tv):=by
 intro pins s σ H D I h;refine wpAny_Assign_Subscript (thn (hv pins s σ H _ I h) λr s1 z_=>?_) hs;obtain⟨v,H1,I1,rv,q1⟩:=z_;refine thn (ho pins s1 σ H1 _ I1 q1) λu s2 z_=>?_;obtain⟨x,H2,I2,rx,q2⟩:=z_;refine thn (hi pins s2 σ H2 _ I2 q2) λiv s3 z_=>?_;obtain⟨y,H3,I3,ry,a,H4,ex,g,q3⟩:=z_;subst ex;obtain rfl:u=Value.ref a:=rx;exact zEl hu I3 g ry rv λs4 I4=>⟨σ,H4,I4,q3⟩
theorem zVx{op:Operator}{rd:V->V->Hp->VK->Prop}(hu:X.A.units+1<cLine)(ho:PE X o td)(hi:PE X i ty)(hv:PE X value tv)(hop:zXz X op rd)
  (ha:∀ov iv new,augStore i ov iv new=(do holding [new,ov,iv] (setItem ov iv new);release [new,ov,iv] [];pure .next)):PS X (.AugAssign (.Subscript o i tpos) op value pos) (zXd td ty tv rd):=by
 intro pins s σ H D I h;refine wpAny_AugAssign_SubscriptAny (thn (ho pins s σ H _ I h) λu s1 z_=>?_) ha;obtain⟨x,H1,I1,rx,q1⟩:=z_;refine thn (hi pins s1 σ H1 _ I1 q1) λiv s2 z_=>?_;obtain⟨y,H2,I2,ry,a,v,ex,g,q2⟩:=z_;subst ex;obtain rfl:u=Value.ref a:=rx;refine zEm hu I2 g ry λw' s3 I3 rw'=>thn (hv pins s3 σ H2 _ I3 q2) λw2 s4 z_=>?_;obtain⟨y2,H3,I4,ry2,q3⟩:=z_;refine thn (hop pins s4 σ H3 v y2 w' w2 _ I4 rw' ry2 q3) λw3 s5 z_=>?_;obtain⟨z,H4,I5,rz,H5,g5,q4⟩:=z_;exact zEl hu I5 g5 ry rz λs6 I6=>⟨σ,H5,I6,q4⟩
end
theorem zIz{P:Program}{w:World}{H:Hp}(h:Heap)(hb:sysModules<h.objs.size):ObjOk P w H (h.push {cls:=.type "dict",data:=.dict #[]}) h.objs.size (.dK []):=
 ⟨pW _,rW.mpr (Ne.symm (nR hb)),[], .nil,Heap.DictOf.new h⟩
def zBv:TE:=λ_ H Q=>∀p,H p=none->Q (.ref p) (upd H p (.dK []))
section
variable{X:Cx}{pos:Pos}
theorem zIx:PE X (.Dict [] [] pos) zBv:=λpins s σ H Q I h=>
 wpAny_Dict_empty ⟨.ref s.heap.objs.size,_,I.laid (a:=s.heap.objs.size) (o:=.dK []) (t':=s.toks) (λ_ _ q=>mI _ q) (mK _) (zIz s.heap I.big),rfl,h _ (I.hok.fresh (mK _))⟩
end
def gQ:List (TE×TE)->St->Hp->(List (V×V)->Hp->Prop)->Prop
 | [],_,H,Q=>Q [] H
 |(tk,tv)::r,σ,H,Q=>tk σ H λx H1=>tv σ H1 λy H2=>gQ r σ H2 λps H3=>Q ((x,y)::ps) H3
abbrev VV:List (V×V)->List (Value×Value)->Prop:=Paired λp q=>RelV p.1 q.1/\RelV p.2 q.2
def PPs(X:Cx)(pos:Pos)(keys:List (Option Expr))(values:List Expr)(trs:List (TE×TE)):Prop:=
 ∀(pins:List (Addr×Obj))(s:Shared)(σ:St)(H:Hp)(Q:List (V×V)->Hp->Prop),Inv X pins σ H s->gQ trs σ H Q->
  wpAny (model X.prog X.w) X.A (evalPairs (pairTrees keys values X.env pos)) (λvs s'=>∃ps H',Inv X pins σ H' s'/\VV ps vs/\Q ps H') X.xe s
theorem zVf{X:Cx}{pos:Pos}:PPs X pos [] [] []:=λpins s σ H Q I h=>pairTrees_nil_walk ⟨[],H,I, .nil,h⟩
theorem jR{X:Cx}{pos:Pos}{k v:Expr}{ks:List (Option Expr)}{vs:List Expr}{tk tv:TE}{trs:List (TE×TE)}(hk:PE X k tk)(hv:PE X v tv)(hr:PPs X pos ks vs trs):
  PPs X pos (some k::ks) (v::vs) ((tk,tv)::trs):=λpins s σ H Q I h=>
 pairTrees_cons_walk (thn (hk pins s σ H _ I h) λu s1 ⟨x,H1,I1,rx,q1⟩=>thn (hv pins s1 σ H1 _ I1 q1) λw2 s2 ⟨y,H2,I2,ry,q2⟩=>
  thn (hr pins s2 σ H2 _ I2 q2) λws s3 ⟨ps,H3,I3,rel,q3⟩=>⟨(x,y)::ps,H3,I3, .cons ⟨rx,ry⟩ rel,q3⟩)
def gI(kvs more:List (Key×V)):List (Key×V):=more.foldl (λacc kv=>vT acc kv.1 kv.2) kvs
theorem KV.merge:∀{more:List (Key×V)}{rs:List (Key×Value)}{kvs:List (Key×V)}{vs:List (Key×Value)},KV more rs->KV kvs vs->KV (gI kvs more) (merged vs rs):=by
 intro more rs kvs vs r;unfold KV at r
 induction r generalizing kvs vs with
 | nil=>intro q;exact q
 | @cons p q ps qs h t ih=>
  intro r0;have e:KV (vT kvs p.1 p.2) (stored vs q.1 q.2):=by
   have:=r0.put p.1 h.2;rw[<-h.1];exact this
  exact ih e
theorem kU:∀(more kvs:List (Key×V)),(gI kvs more).length<=kvs.length+more.length
 | [],kvs=>by show kvs.length<=kvs.length+0;lia
 | p::r,kvs=>by
  have h1:=kU r (vT kvs p.1 p.2);have h2:=jZ kvs p.1 p.2;show(gI (vT kvs p.1 p.2) r).length<=_;rw[mE];lia
theorem zCq{P:Program}{w:World}:∀{kvs:List (Key×V)}{ws:List (Value×Value)},VV (kvs.map λkv=>(kV kv.1,kv.2)) ws->∃rs,Carries (yR P w) ws rs/\KV kvs rs
 | [],_,r=>by rw[pV] at r;cases r;exact⟨[],nJ, .nil⟩
 | p::kvs,_,r=>by
  rw[nD] at r
  cases r with
  | @cons a b as bs h t=>
   obtain⟨rs,c,q⟩:=zCq (P:=P) (w:=w) t;obtain⟨b1,b2⟩:=b;exact⟨(p.1,b2)::rs,⟨zCk h.1,rfl,c⟩, .cons ⟨rfl,h.2⟩ q⟩
def zGt(trs:List (TE×TE)):TE:=λσ H Q=>∀p,H p=none->gQ trs σ (upd H p (.dK [])) λps H2=>H2 p=some (.dK [])/\∃kvs:List (Key×V),ps=kvs.map (λkv=>(kV kv.1,kv.2))/\kvs.length<=15/\Q (.ref p) (upd H2 p (.dK (gI [] kvs)))
theorem zVl{X:Cx}{pos:Pos}{keys:List (Option Expr)}{values:List Expr}{trs:List (TE×TE)}(h:PPs X pos keys values trs)(hall:keys.all (·.isSome)=true)(hl:keys.length=values.length)(h0:keys≠ [])
  (h15:keys.length<=15):PE X (.Dict keys values pos) (zGt trs):=by
 intro pins s σ H Q I q;have hn:=I.hok.fresh (mK s.heap.objs.size);have I1:=I.laid (a:=s.heap.objs.size) (o:=.dK []) (h':=s.heap.push {cls:=.type "dict",data:=.dict #[]}) (t':=s.toks) (λ_ _ q=>mI _ q) (mK _) (zIz s.heap I.big);refine wpAny_Dict_walk (knd:=yR X.prog X.w) hall hl h0 h15 (thn (h pins _ σ _ _ I1 (q _ hn)) λws s2 z_=>?_);obtain⟨ps,H2,I2,rel,e,kvs,ep,lk,q2⟩:=z_;subst ep;obtain⟨rs,c,rk⟩:=zCq (P:=X.prog) (w:=X.w) rel;obtain⟨z,hd,vs0,r0,dd⟩:=zWy I2.hok e;cases r0;refine⟨rs,c,dd,λh' dd' hs=>⟨.ref s.heap.objs.size,_, ?_,rfl,q2⟩⟩;have hz:(gI [] kvs).length<=sizeLine:=by
  have h1:=kU kvs [];rw[nL] at h1;rw[mJ];lia
 have he:∃q,h'.get? s.heap.objs.size=some q:=let ⟨q,_,_,hq,_⟩:=dd';⟨q,hq⟩;exact zGc I2 (by rw[e];exact nJ) hs he (zPa hz hd (rk.merge .nil) dd')
structure M1(X:Cx)(o:Expr)(m:Str)(apos:Pos)(e:Expr)(cpos:Pos):Prop where
 base:attributeBase o m X.env (eval o X.env)=eval o X.env
 few:((backTo cpos (starEach [e] X.env)).all (λx=>!x.1)&& (backToKw cpos (keywordEach [] X.env)).all (λx=>x.1.isSome)
  && decide (([e]:List Expr).length+([]:List Keyword).length+(if([]:List Keyword).isEmpty then 0 else 1)<30))=true
 line:(apos.endLine==cpos.line)=true
 trees:backTo cpos (starEach [e] X.env)= [(false,eval e X.env)]
structure M2(X:Cx)(o:Expr)(m:Str)(apos:Pos)(e f:Expr)(cpos:Pos):Prop where
 base:attributeBase o m X.env (eval o X.env)=eval o X.env
 few:((backTo cpos (starEach [e,f] X.env)).all (λx=>!x.1)&& (backToKw cpos (keywordEach [] X.env)).all (λx=>x.1.isSome)
  && decide (([e,f]:List Expr).length+([]:List Keyword).length+(if([]:List Keyword).isEmpty then 0 else 1)<30))=true
 line:(apos.endLine==cpos.line)=true
 trees:backTo cpos (starEach [e,f] X.env)= [(false,eval e X.env),(false,eval f X.env)]
section
variable{X:Cx}{pins:List (Addr×Obj)}{σ:St}{H:Hp}{s:Shared}{a:Addr}{y d:V}{u r:Value}{o:Option V}{A:Around}{E:Value->Shared->Prop}
end
section
variable{X:Cx}{o e f:Expr}{apos cpos:Pos}{td ty tx:TE}
end
section
variable{X:Cx}{pins:List (Addr×Obj)}{σ:St}{H:Hp}{s:Shared}{a:Addr}{kvs:List (Key×V)}{A:Around}{E:Value->Shared->Prop}
end
section
variable{X:Cx}{pins:List (Addr×Obj)}{σ:St}{H:Hp}{s:Shared}{a:Addr}{y:V}{u:Value}{A:Around}{E:Value->Shared->Prop}
end
end L2
namespace Att
open PySem PySem.W PySem.Calls PyProof.Rows
theorem zAt{P:Params}{h:Heap}:∀(ns:List Int)(vs:List Value),WellAll P h vs (ns.map WData.int)->IntsAre vs ns:=by
 intro ns
 induction ns with
 | nil=>
  intro vs w;rw[List.map_nil] at w;cases w;exact .nil
 | cons n ns ih=>
  intro vs w;rw[List.map_cons] at w
  cases w with
  | cons a b=>
   cases a;exact .cons _ _ (ih _ b)
theorem zNw{l:OpenLaw}{n:Nat}(hn:l.most=some n){P:Params}{h:Heap}{args:List WData}{vals:List Value}
  (hpre:l.row.toRowW.claim.pre args=true) (hwl:WellAll P h vals args):
  ∃a vs ns,vals= [Value.ref a]/\args= [WData.list (ns.map WData.int)]/\h.get? a=some {cls:=.type "list",data:=.seq vs.toArray}/\IntsAre vs ns/\ns.length<=n:=by
 have hsh:WShape.hasAll [] args [.list .int]=true:=(pre_splitW hpre).1;have hc:l.pre.holds [] {args:=args}=true:=(pre_splitW hpre).2;obtain⟨d,r,rfl,h1,h2⟩:=hasAllW_cons hsh;obtain rfl:=hasAllW_nil h2;obtain⟨xs,rfl,h3⟩:=hasW_list h1;obtain⟨ns,rfl⟩:=items_int h3;have hlen:ns.length<=n:=by
  unfold OpenLaw.pre at hc;have h4:(WTm.not (.lt (.lit (.int (n:Int))) (.len (.arg 0)))).holds [] {args:=[.list (ns.map .int)]}=true:=by
   have h4:=(holds_andW hc).1;rw[hn] at h4;exact h4
  have h5:=condW_of h4 (w_not (w_lt w_lit (w_len_list (w_arg rfl))));rw[List.length_map] at h5;refine Nat.le_of_not_lt λq=>?_;have q':(n:Int)<((ns.length:Nat):Int):=by lia
  first
   |(rw[decide_eq_true q'] at h5;exact absurd h5 (by decide))
   |(simp at h5;lia)
 cases hwl with
 | cons w1 w2=>
  cases w2
  cases w1 with
  | list ho hall=>exact⟨_,_,ns,rfl,rfl,ho,zAt ns _ hall,hlen⟩
theorem zOn(l:OpenLaw)(args:List WData):l.row.toRowW.claim.post args (.bool true) args=true:=
 postW_of (r:=l.row.toRowW) (X:=(true==true))
  (show WShape.has [] (.bool true) .bool=true by first | rfl | decide | simp[WShape.has,WShape.arms,WShape.armsAll])
  (show(WTm.eq .res (.lit (.bool true))).value [] {args:=args,res:=some (.bool true),after:=args}=some (.bool (true==true)) from w_eq_bool (w_res rfl) w_lit) rfl
theorem attach_call{l:OpenLaw}{n:Nat}{q:Program}{loose:List Str}{XP:(Str->Option Value)->Heap->Prop}{YP:World->Heap->Prop}{d:DefRec}
  (hn:l.most=some n) (hdf:d.params.defaults= [])
  (call:∀(w:World)(s₀ s₁:Shared)(mg mb:Str->Option Value)(fa:Addr)(o:Obj)(pm cd doc:Value)(a:Addr)(vs:List Value)(ns:List Int),
   Ground q loose [] XP w s₀ mg mb s₁.heap->YP w s₁.heap->
   s₁.heap.get? fa=some o->o.data= .func (docDef d.name d.params d.body d.scope pm cd doc)->s₁.heap.CodeRec cd d.name->mg d.name=some (.ref fa)->
   s₁.heap.get? a=some {cls:=.type "list",data:=.seq vs.toArray}->IntsAre vs ns->ns.length<=n->s₁.gens= #[]->
   codeAny (model l.prog w) callerA (.call (.ref fa) ⟨[.ref a],[]⟩) (λr s'=>r= .ok (.ret (.bool true))/\OldK s₁.heap s'.heap/\s'.os=s₁.os/\AllBare s'.gens) s₁):
  WalkO q loose XP YP l.row.toRowW d [] (λf vs=>PySem.call f vs):=by
 intro w s₀ s₁ mg mb G Y fa o pm cd doc dV kV ho hd hcd hD hmg hg args vals as hpre hlay hrd hwl hlo;obtain rfl:dV= .none:=Dflts.none hD hdf;obtain rfl:kV= .none:=Dflts.noKw hD;obtain⟨a,vs,ns,rfl,rfl,hobj,hints,hlen⟩:=zNw hn hpre hwl;refine enter_call (codeAny_mono (call w s₀ s₁ mg mb fa o pm cd doc a vs ns G Y ho (fd_plain hd) hcd hmg hobj hints hlen hg) λr s' hq=>?_);obtain⟨rfl,h2,h3,h4⟩:=hq;exact⟨.inl ⟨.bool true, .bool true,[],rfl,λ_=>rfl, .bool true,zOn l _,λ_=>⟨List.Pairwise.nil,λ_ hm=>(nomatch hm)⟩⟩,h2,h3,h4⟩
section
variable{prog:Program}{w:World}{A:Around}{E:Value->Shared->Prop}{s:Shared}{K:Frag}
end
end Att
namespace L2
open PySem PySem.Spec PyProof.Rows
theorem zEr:∀{vs:List Value}{ns:List Int},IntsAre vs ns->Vals (ns.map V.int) vs
 | _,_, .nil=>.nil
 | _,_, .cons n t h=>.cons ⟨t,rfl⟩ (zEr h)
def zYn(H:Hp):Prop:=∀b,H b=none\/∃o xs,H b=some (.frz o (.lst xs))
theorem zPv{P:Program}{w:World}{K:W.Frag}{mg mb:Str->Option Value}{CX:CXT}{k:Nat}{fa a:Addr}{fd:FuncData}{x:Str}{sp:Sp}{s₁:Shared}{vs:List Value}{ns:List Int}
  (KX:K.In s₁.heap) (hns:s₁.heap.Ns mainGlobals mg) (hb:s₁.heap.Ns builtinsNs mb) (hbb:∀x:Str,x≠ "__name__"->mb x=bootBuiltins x) (hlim:s₁.heap.NoLimit) (hg:s₁.gens= #[])
  (ha:s₁.heap.get? a=some {cls:=.type "list",data:=.seq vs.toArray}) (hi:IntsAre vs ns) (hl:ns.length<=sizeLine) (hr:Room k callerA)
  (F:∀base:Heap,K.In base->base.Ns mainGlobals mg->FnOk P w K mg base CX k fa fd [x] sp) (hbind:∀(s:Shared)(u:Value),BindsTo s fd ⟨[u],[]⟩ [(x,u)])
  (hsp:∀H:Hp,zYn H->SqL K H a (ns.map V.int)->sp [.ref a] H (λv _=>v= .bl true) λ_ _ _=>False)
  (hCX:∀H e s',CX [] H s₁ (λ_ _ _=>False) e s'->False):
  codeAny (model P w) callerA (.call (.ref fa) ⟨[.ref a],[]⟩) (λr s'=>r= .ok (.ret (.bool true))/\OldK s₁.heap s'.heap/\s'.os=s₁.os/\AllBare s'.gens) s₁:=by
 have rv:=zEr hi;have lenV:=hi.length
 -- from an abstract heap in which nothing but the script may be tracked
 have core:∀H:Hp,zYn H->SqL K H a (ns.map V.int)->HOk P w H s₁.heap->(∀b,H b≠none->b=a)->(H a≠none->K.lookup a=none)->
   codeAny (model P w) callerA (.call (.ref fa) ⟨[.ref a],[]⟩) (λr s'=>r= .ok (.ret (.bool true))/\OldK s₁.heap s'.heap/\s'.os=s₁.os/\AllBare s'.gens) s₁:=by
  intro H hO hS hok hA hK;have base_of:∀{b:Addr}{o:Obj},s₁.heap.get? b=some o->H b=none->(zFy s₁.heap H).get? b=some o:=λe n=>zQl e n;have noA:∀{b:Addr}{o:Obj}{es:Array DictEntry}{ep:Nat},s₁.heap.get? b=some o->o.data= .dict es ep->H b=none:=λ{b o es ep} e d=>by
   cases q:H b with
   | none=>rfl
   | some u=>
    have e':b=a:=hA b (by rw[q];simp);subst e';rw[ha] at e;cases e;have d':Data.seq vs.toArray _=Data.dict es ep:=d;cases d'
  have nsK:∀{b:Addr}{m:Str->Option Value},s₁.heap.Ns b m->(zFy s₁.heap H).Ns b m:=λ{b m} ⟨o,es,ep,e,d,r⟩=>⟨o,es,ep,base_of e (noA e d),d,r⟩;have hKb:K.In (zFy s₁.heap H):=λb o e=>base_of (KX b o e) (by
   cases q:H b with
   | none=>rfl
   | some u=>
    have e':b=a:=hA b (by rw[q];simp);subst e';rw[hK (by rw[q];simp)] at e;cases e)
  have hM:Mod K mg (zFy s₁.heap H):=⟨hKb,nsK hns,⟨mb,nsK hb,hbb⟩,let ⟨mc,h1,h2⟩:=hlim;⟨mc,nsK h1,h2⟩⟩;have e0:Env0 P w K mg (zFy s₁.heap H) callerA [] s₁ H:=⟨rfl,hM,λb o e=>zVq e,Nat.le_of_eq (zNs _ _),trivial,λb hb=>absurd (show b∈([]:List Addr) from hb) (by simp),hok, .of_eq hg⟩;refine rQ ((F _ hKb (nsK hns)).run callerA [] s₁ H ⟨[.ref a],[]⟩ [.ref a] [.ref a] _ _ hr e0 (hbind s₁ (.ref a)) (.cons rfl .nil) (hsp H hO hS)) λr s' h=>?_
  cases r with
  | error e=>exact(hCX H e s' h).elim
  | ok fl=>
   cases fl with
   | next=>exact False.elim h
   | brk=>exact False.elim h
   | cont=>exact False.elim h
   | ret u=>
    obtain⟨v,H',os,bare,un,hok',r',q⟩:=h;have q':v= .bl true:=q;subst q';obtain rfl:u=Value.bool true:=r';refine⟨rfl,OldK.of_keep λb o e=>?_,os,bare⟩
    cases q:H b with
    | none=>exact un.keep b o e q (by intro z;exact absurd (show b∈([]:List Addr) from z) (by simp)) (by simp)
    | some u=>
     rcases hO b with z |⟨ob,xs,z⟩
     ·rw[q] at z;cases z
     ·have z2:=un.frzs b ob _ z
      obtain⟨e1,_⟩:=hok b _ z;obtain⟨e2,_⟩:=hok' b _ z2;rw[e] at e1;cases e1;exact e2
 cases hk:K.lookup a with
 | some o=>
  -- the script is one of the module's own objects
  have e:=KX a o hk;rw[ha] at e;cases e;refine core (λ_=>none) (λ_=>.inl rfl) (.inr ⟨_,vs.toArray,_,hk,rfl,rfl,rfl,by rw[nE,lenV];exact hl,by simpa using rv⟩) (λb u z=>by have z':(none:Option HO)=some u:=z;cases z') (λb z=>absurd rfl z) λz=>absurd rfl z
 | none=>
  refine core (λb=>if b=a then some (.frz {cls:=.type "list",data:=.seq vs.toArray} (.lst (ns.map V.int))) else none) (λb=>?_) (.inl (.inr ⟨{cls:=.type "list",data:=.seq vs.toArray},mL rfl⟩)) (λb u z=>?_) (λb z=>?_) λ_=>hk
  ·by_cases hb:b=a
   ·exact .inr ⟨_,_,mL hb⟩
   ·exact .inl (mG hb)
  ·by_cases hb:b=a
   ·have z':=(mL hb).symm.trans z
    cases z';subst hb;exact⟨ha,by rw[nA];exact hl,vs,_,rv,ha⟩
   ·have z':=(mG hb).symm.trans z
    cases z'
  ·by_cases hb:b=a
   ·exact hb
   ·exact absurd (mG hb) z
abbrev KOf{K:W.Frag}{h:Heap}(_:K.In h):W.Frag:=K
theorem zLr{l:W.OpenLaw}{n k:Nat}{q:Program}{loose:List Str}{XP:(Str->Option Value)->Heap->Prop}{YP:World->Heap->Prop}{d:DefRec}{K:Params->W.Frag}{CX:World->CXT}{sp:World->Sp}{x:Str}
  (hn:l.most=some n) (hn2:n<=sizeLine) (hdf:d.params.defaults= []) (hr:Room k callerA)
  (hY:∀(w:World)(h:Heap),YP w h->(K w.params).In h)
  (F:∀(w:World)(mg:Str->Option Value)(fa:Addr)(h:Heap),(K w.params).In h->h.Ns mainGlobals mg->mg d.name=some (.ref fa)->
   ∃fd:FuncData,(∀(s:Shared)(u:Value),BindsTo s fd ⟨[u],[]⟩ [(x,u)])/\
    ∀base:Heap,(K w.params).In base->base.Ns mainGlobals mg->FnOk l.prog w (K w.params) mg base (CX w) k fa fd [x] (sp w))
  (hsp:∀(w:World)(H:Hp)(a:Addr)(ns:List Int),ns.length<=n->zYn H->SqL (K w.params) H a (ns.map V.int)->sp w [.ref a] H (λv _=>v= .bl true) λ_ _ _=>False)
  (hCX:∀(w:World)(H:Hp)(s:Shared)(e:Value)(s':Shared),CX w [] H s (λ_ _ _=>False) e s'->False):
  W.WalkO q loose XP YP l.row.toRowW d [] (λf vs=>PySem.call f vs):=by
 refine Att.attach_call hn hdf λw s₀ s₁ mg mb fa o pm cd doc a vs ns G Y ho hd hcd hmg hobj hints hlen hg=>?_;have KX:=hY w _ Y;obtain⟨fd,hb,hF⟩:=F w mg fa _ KX G.T.g hmg;exact zPv KX G.T.g G.T.b G.T.builtins G.T.nolimit hg hobj hints (nN hlen hn2) hr hF hb (λH hO hS=>hsp w H a ns hlen hO hS) λH e s'=>hCX w H s₁ e s'
end L2
/- THE LAST THEOREM (shape;LID,My.*are yours):
   My.Adr:a structure of the addresses that your layer names (classes,functions);My.Txt K t:a structure (Prop) of the equations over K;
   My.txt_mk:{K} {implicit addresses ..} (e1:nsIn K mainGlobals "law" =some (some (.ref f))) (e2:K.lookup f=some ⟨oc,od, .func (fnOf "law" "law" params body scope dV kV doc pm an cdv ct),sl⟩) (e3:codeIn K cdv "law" =true) .. :∃t,My.Txt K t
set_option maxRecDepth 100000 in
set_option maxHeartbeats 0 in
theorem PySem.Challenge.cw_LID_holds : PySem.Challenge.rw_LID.Holds := by
  w_on;o_law;k_head;(case hw=>w_witness2)
  k_fill
  refine L2.zLr (l:=PySem.Challenge.rw_LID) (n:=63) (k:=40) (x:="script") (CX:=λw=>..) (sp:=λ_=>My.sp_law) rfl (by decide) rfl ⟨rfl,by decide,by decide⟩ (λw h Y=>PySem.W.kIn_of Y) ?F ?S ?C
  case F=>
    intro w mg fa h KX G hmg;have T:∃t,My.Txt (L2.KOf KX) t:=by
      dsimp only[L2.KOf]                          -- K must stand as «<heap const>w.params» for k_is;refine' My.txt_mk ?e1 ?e2 ?e3 ..
      (case e1=>PySem.W.k_is)                    -- in the order:a name ->its address ->its object ->its parts
      (case e2=>PySem.W.k_is)
      ..
    obtain⟨t,T⟩:=T;have e0:=hmg.symm.trans (PySem.W.mg_of KX G T.law);cases e0                                       -- fa is the law's own address;exact⟨_,λs u=>.of_eq rfl,λbase kb nb=>My.law_fn T kb nb⟩     -- if «.of_eq rfl» comes too early:refine' ⟨_, ?b,λbase kb nb=>My.law_fn T kb nb⟩;exact λs u=>.of_eq rfl
  case S=>exact λw H a ns hl hO hS=>..
  case C=>exact ..
(the tactic k_is has no namespace:write k_is)-/
namespace L2
open PySem PySem.Spec PyProof.Rows
def yZ(s:Stmt):Arguments:=match s with
 | .FunctionDef _ a _ _ _ _ _ _ _ _=>a
 | _=>{posonlyargs:=[],args:=[],vararg:=none,kwonlyargs:=[],kw_defaults:=[],kwarg:=none,defaults:=[]}
def yU(s:Stmt):List Stmt:=match s with
 | .FunctionDef _ _ b _ _ _ _ _ _ _=>b
 | _=>[]
def zO(s:Stmt):Scope:=match s with
 | .FunctionDef _ _ _ _ _ _ sc _ _ _=>sc
 | _=>{kind:=.function,names:=[],isGenerator:=false,isCoroutine:=false}
abbrev CX0:CXT:=λ_ _ _ _ _ _=>False
abbrev E0:XK:=λ_ _ _=>False
theorem zQi{X:Cx}:gN CX0 X E0:=λ_ _ _ _ _ _ _ h=>h.elim
structure Fun(K:W.Frag)(x qual:Str)(st:Stmt)(f:Addr)(fd:FuncData):Prop where
 ex:∃(oc:Value)(od:Option Addr)(kV doc pm:Value)(an:Option Addr)(cdv ct:Value)(osl:Array (Option Value)),
  fd=W.fnOf x qual (yZ st) (yU st) (zO st) .none kV doc pm an cdv ct/\K.lookup f=some ⟨oc,od, .func fd,osl⟩/\W.codeIn K cdv qual=true
 kp:W.keepIn K (.ref f)=true
section
variable{P:Program}{w:World}{K:W.Frag}{mg:Str->Option Value}{base:Heap}
theorem Fun.ok{x qual:Str}{st:Stmt}{f:Addr}{fd:FuncData}{N ps:List Str}{k:Nat}{sp:Sp}(F:Fun K x qual st f fd)(S:zV N ps (zO st))(len:∀vs H Q E,sp vs H Q E->vs.length=ps.length)
  (hbody:∀(cdv:Value)(A:Around)(outer:List Env)(s:Shared)(H:Hp)(vs:List V)(Q:VK)(E:XK),Room k (A.deeper (envOfC qual (zO st) s.heap.objs.size f cdv))->sp vs H Q E->
   ∃t,PSs (zCs CX0 P w K mg base N qual (zO st) f cdv A outer s H E).nox (yU st) t/\t {nx:=λ_ H'=>Q .non H',rt:=Q} (qF N vs) H):FnOk P w K mg base CX0 (k+1) f fd ps sp:=by
 obtain⟨oc,od,kV,doc,pm,an,cdv,ct,osl,rfl,lk,hcd⟩:=F.ex;refine zSj lk hcd S len λA outer s H vs Q E hr hsp=>?_;obtain⟨t,h,q⟩:=hbody cdv A outer s H vs Q E hr hsp;exact⟨t,h.nox,q⟩
theorem Fun.binds{x qual:Str}{st:Stmt}{f:Addr}{fd:FuncData}{ps:List Str}(F:Fun K x qual st f fd)
  (h:∀(kV doc pm:Value)(an:Option Addr)(cdv ct:Value)(us:List Value),us.length=ps.length->bindArgs (W.fnOf x qual (yZ st) (yU st) (zO st) .none kV doc pm an cdv ct) ⟨us,[]⟩=pure (ps.zip us)):Binds K fd ps []:=by
 obtain⟨oc,od,kV,doc,pm,an,cdv,ct,osl,rfl,lk,hcd⟩:=F.ex;exact .all (h kV doc pm an cdv ct)
theorem qI{x qual:Str}{st:Stmt}{f:Addr}{oc:Value}{od an:Option Addr}{osl:Array (Option Value)}{kV doc pm cdv ct:Value}(l:K.lookup f=some ⟨oc,od, .func (W.fnOf x qual (yZ st) (yU st) (zO st) .none kV doc pm an cdv ct),osl⟩)
  (c:W.codeIn K cdv qual=true) (k:W.keepIn K (.ref f)=true):Fun K x qual st f (W.fnOf x qual (yZ st) (yU st) (zO st) .none kV doc pm an cdv ct):=⟨⟨oc,od,kV,doc,pm,an,cdv,ct,osl,rfl,l,c⟩,k⟩
end
theorem uI{A:Around}{k:Nat}(hr:Room k A):A.units+1<cLine:=Nat.lt_of_le_of_lt (Nat.add_le_add_left (by decide:1<=64) _) hr.units
section
variable{X:Cx}
theorem pv(i:Nat){x:Str}{pos:Pos}(hN:X.N[i]? =some x:=by rfl)(hv:Vis X.env.scope x:=by first | exact pR rfl | exact Or.inr (pR rfl)| exact Or.inr (Or.inr rfl))(hd:(x==("__debug__" :Str))=false:=by decide)
  (hcd:(x==("__classdict__" :Str))=false:=by decide):PE X (.Name x pos) (zJt i):=zQs hN hv hd hcd
theorem gL{A B:Prop}(h:B):if false=true then A else B:=by
 rw[mG mO];exact h
theorem zDl{A B:Prop}(h:A):if true=true then A else B:=by
 rw[mL rfl];exact h
def Same(H H':Hp):Prop:=∀b o,H b=some o->H' b=some o
theorem Same.refl(H:Hp):Same H H:=λ_ _ h=>h
theorem Same.trans{H H1 H2:Hp}(a:Same H H1)(b:Same H1 H2):Same H H2:=λc o h=>b c o (a c o h)
theorem Same.seq{K:W.Frag}{H H':Hp}{a:Addr}{xs:List V}(e:Same H H')(h:SqL K H a xs):SqL K H' a xs:=by
 rcases h with(h |⟨o,h⟩)| h
 ·exact .inl (.inl (e _ _ h))
 ·exact .inl (.inr ⟨o,e _ _ h⟩)
 ·exact .inr h
end
section
variable{κ:Type} [DecidableEq κ]
end
theorem cut1{a b:TS}{D:uN}{σ:St}{H:Hp}(h:∀R:TS,R=b->zJz a R D σ H):zJz a b D σ H:=h b rfl
abbrev ts(x:Str):List Nat:=x.cps.toList
abbrev tx(l:List Nat):Str:=⟨l.toArray⟩
theorem yK(l:List Nat):ts (tx l)=l:=rfl
theorem qP(x:Str):tx (ts x)=x:=by cases x;simp[tx,ts]
theorem zGi(x:Str):x.length=(ts x).length:=by simp[Str.length,ts]
theorem zU(l:List Nat):(tx l).length=l.length:=by simp[Str.length,tx]
theorem kD{x y:Str}(h:ts x=ts y):x=y:=by rw[<-qP x,<-qP y,h]
theorem wZ(a b:List Nat):tx a++tx b=tx (a++b):=by
 apply kD;show(a.toArray++b.toArray).toList=a++b;simp
theorem zDo(xs:Array Nat):∀(k:Nat)(acc:Array Nat),((List.replicate k xs).foldl (· ++ ·) acc).toList=acc.toList++(List.replicate k xs.toList).flatten
 | 0,acc=>by simp
 | k+1,acc=>by
  rw[pA,bT,zDo xs k (acc++xs)];simp[pA]
theorem zQa(x:Str)(n:Int):Txt.mul x n=tx (List.replicate n.toNat (ts x)).flatten:=by
 apply kD;rw[yK];unfold Txt.mul
 by_cases h1:n<1
 ·rw[mL h1]
  have e:n.toNat=0:=by lia
  rw[e];rfl
 ·rw[mG h1]
  by_cases h2:(n==1 || x.length==0)=true
  ·rw[mL h2]
   rcases(bU _ _).mp h2 with h3 | h3
   ·have e:n=1:=by simpa using h3
    subst e;simp
   ·have e:x.length=0:=by simpa using h3
    rw[zGi] at e;have e2:ts x= []:=pB e;show ts x=_;rw[e2];simp
  ·rw[mG h2]
   show((List.replicate n.toNat x.cps).foldl (· ++ ·) #[]).toList=_;rw[zDo];simp
section
variable{X:Cx}
def zIq:R2:=λx y H Q=>∃z n,x= .str z/\y= .int n/\z.length<=1000/\-1000<=n/\n<=1000/\Q (.str (tx (List.replicate n.toNat (ts z)).flatten)) H
theorem kX:OpR X (binaryOp .Mult) zIq:=by
 intro pins s σ H x y v u Q I rx ry h;obtain⟨z,n,rfl,rfl,hz,h0,h1,q⟩:=h;obtain⟨t,rfl⟩:=rx;obtain⟨t',rfl⟩:=ry;refine SB.mul ⟨by rw[mM (by lia),mM (by lia)];rfl,λa _ b=>?_,λa _=>?_⟩ λt' k=>⟨.str (Txt.mul z n),H,I.tok _,⟨_,rfl⟩,by rw[zQa];exact q⟩
 ·have h2:(9223372036854775:Int)<=(2 ^ 63 - 1:Int)/ n:=Int.le_ediv_of_mul_le (by lia) (by lia)
  lia
 ·unfold PySem.Builtin.Str.tooLong
  have e:z.length*n.toNat<=1000*1000:=Nat.mul_le_mul hz (by lia);exact mM (by rw[mJ];lia)
theorem zJs{ys:List Str}:∀{us:List Value},Vals (ys.map V.str) us->StrsAre us ys:=by
 induction ys with
 | nil=>intro us r;rw[pV] at r;cases r;exact .nil
 | cons n ns ih=>
  intro us r;rw[nD] at r
  cases r with
  | cons r1 r2=>
   obtain⟨t,e⟩:=r1;subst e;exact .cons n t (ih r2)
theorem zHo(a b n:Nat):PySem.Builtin.Str.strSliceIndices (some (a:Int)) (some (b:Int)) 1 n=PySem.Builtin.Str.strSliceIndices (some ((min a n:Nat):Int)) (some ((min b n:Nat):Int)) 1 n:=by
 have h1:¬((a:Int)<0):=by lia
 have h2:¬((b:Int)<0):=by lia
 have h3:¬(((min a n:Nat):Int)<0):=by lia
 have h4:¬(((min b n:Nat):Int)<0):=by lia
 have e1:max (0:Int) (min (a:Int) (n:Int))=max (0:Int) (min ((min a n:Nat):Int) (n:Int)):=by lia
 have e2:max (0:Int) (min (b:Int) (n:Int))=max (0:Int) (min ((min b n:Nat):Int) (n:Int)):=by lia
 unfold PySem.Builtin.Str.strSliceIndices;simp only[h1,h2,h3,h4,sW,show((1:Int)>0)=True from by simp,tO];rw[e1,e2]
theorem zPg{a b n:Nat}(h:b<a)(hb:a<=n):PySem.Builtin.Str.strSliceIndices (some (a:Int)) (some (b:Int)) 1 n= []:=by
 have h1:¬((a:Int)<0):=by lia
 have h2:¬((b:Int)<0):=by lia
 have e1:max (0:Int) (min (a:Int) (n:Int))=a:=by lia
 have e2:max (0:Int) (min (b:Int) (n:Int))=b:=by lia
 have h3:¬((a:Int)<(b:Int)):=by lia
 simp only[PySem.Builtin.Str.strSliceIndices,PySem.sliceRange,h1,h2,sW,e1,e2,show((1:Int)>0)=True from by simp,tO,h3]
 rfl
theorem zWk{α:Type}(l:List α)(a b:Nat):(l.drop (min a l.length)).take (min b l.length - min a l.length)=(l.take b).drop a:=by
 rw[sP]
 by_cases ha:a<=l.length
 ·rw[bV ha]
  by_cases hb:b<=l.length
  ·rw[bV hb]
  ·rw[bI (by lia),rJ (by rw[nG];lia),rJ (by rw[nG];lia)]
 ·have e1:min a l.length=l.length:=bI (by lia)
  rw[e1,bB (mK _),bB (as:=l) (i:=a) (by lia),cS,cS]
theorem xL(x:Str)(a b:Nat):Txt.slice x (some (a:Int)) (some (b:Int))=tx (((ts x).take b).drop a):=by
 have hl:x.length=(ts x).length:=zGi x
 by_cases h:min a x.length<=min b x.length
 ·have e:=StrLaws.sliceText_nat x h (Nat.min_le_right _ _)
  have e2:Txt.slice x (some (a:Int)) (some (b:Int))=StrLaws.sliceText x (some ((min a x.length:Nat):Int)) (some ((min b x.length:Nat):Int)):=by
   unfold Txt.slice StrLaws.sliceText;rw[zHo a b]
  rw[e2,e,hl,zWk]
 ·have h1:min b x.length=b:=by lia
  have h2:b<a:=by lia
  have e:PySem.Builtin.Str.strSliceIndices (some (a:Int)) (some (b:Int)) 1 x.length= []:=by
   rw[zHo a b,h1];exact zPg (by lia) (Nat.min_le_right _ _)
  unfold Txt.slice;rw[e,mG (by simp;lia)];apply kD;rw[yK,bB (by rw[nY];lia)]
  rfl
theorem zBn(x:Str)(j:Nat):Txt.slice x none (some (j:Int))=tx ((ts x).take j):=by
 have e:Txt.slice x none (some (j:Int))=Txt.slice x (some ((0:Nat):Int)) (some (j:Int)):=by
  unfold Txt.slice;rw[StrLaws.sliceIdx_none_lo];rfl
 rw[e,xL,sA]
theorem zBk(x:Str)(i:Nat):Txt.slice x (some (i:Int)) none=tx ((ts x).drop i):=by
 have e:Txt.slice x (some (i:Int)) none=Txt.slice x (some (i:Int)) (some (x.length:Int)):=by
  unfold Txt.slice;rw[StrLaws.sliceIdx_none_hi]
 rw[e,xL,rJ (by rw[<-zGi];exact mK _)]
def rSlS:V->Option Int->Option Int->Hp->VK->Prop:=λx lo hi H Q=>∃z,x= .str z/\z.length<=sizeLine/\Q (.str (Txt.slice z lo hi)) H
theorem wO:SlR X rSlS:=by
 intro pins s σ H x v vl vu lo hi sl Q I rx hs pl pu h;obtain⟨z,rfl,hz,q⟩:=h;obtain⟨t,rfl⟩:=rx;refine⟨"str",_,F.slot_str_getitem.lookup,tD _ _ _, ?_⟩;have fin:∀t' k,EP X pins σ Q (.str (Txt.slice z lo hi) t') {s with toks:=k}:=λt' k=>⟨.str (Txt.slice z lo hi),H,I.tok _,⟨_,rfl⟩,q⟩;obtain⟨o,ho,hc,hd⟩:=hs
 cases pl with
 | none=>
  cases pu with
  | none=>exact sJ (l:=none) (u:=none) (st:=none) ⟨o,ho,hc,hd⟩ rfl (bW ⟨nN (aS z _ _) hz,fin⟩)
  | int j uj=>exact sJ (l:=none) (u:=some (j,uj)) (st:=none) ⟨o,ho,hc,hd⟩ rfl (bW ⟨nN (aS z _ _) hz,fin⟩)
 | int i ui=>
  cases pu with
  | none=>exact sJ (l:=some (i,ui)) (u:=none) (st:=none) ⟨o,ho,hc,hd⟩ rfl (bW ⟨nN (aS z _ _) hz,fin⟩)
  | int j uj=>exact sJ (l:=some (i,ui)) (u:=some (j,uj)) (st:=none) ⟨o,ho,hc,hd⟩ rfl (bW ⟨nN (aS z _ _) hz,fin⟩)
def zSy(neg:Bool):R2:=λx y H Q=>∃c j,x= .str (tx [c])/\y= .str j/\Q (.bl (if neg then !decide (c∈ts j) else decide (c∈ts j))) H
theorem wS:OpR X (compareOp .In) (zSy false):=by
 intro pins s σ H x y v u Q I rx ry h;obtain⟨c,j,rfl,rfl,q⟩:=h;refine zOh pins s σ H _ _ v u Q I rx ry ⟨_,_,rfl,rfl, ?_⟩;have e:=StrLaws.found_one j c;rw[show(tx [c]:Str)=⟨#[c]⟩ from rfl,e];exact q
def Its(x:Str):It:=⟨λi _=>i<(ts x).length,λi H y H'=>H'=H/\∃c,(ts x)[i]? =some c/\y= .str (tx [c]),λi _=>(ts x).length<=i⟩
theorem zSk{P:Program}{w:World}{K:W.Frag}{tg:Expr}(x:Str)(t:Tok)(it:Addr)(ty:String)(hty:ty= "str_ascii_iterator"\/ty= "str_iterator"):zHz true P w K tg (Its x) [it] it (λi h=>h.IsStrIter it ty x t i) where
 mem:=by simp
 obj:=λi h st b hb=>by
  have e:b=it:=by simpa using hb
  subst e;obtain⟨o,e,c,d⟩:=st;exact⟨o,e,λv z=>by rw[d] at z;cases z⟩
 keep:=λi h h' st k=>by
  obtain⟨o,e,c,d⟩:=st;exact⟨o,k it (by simp) o e,c,d⟩
 item:=by
  intro X hP hw hK hc i pins s σ H E I hf st hg;subst hP hw hK;obtain⟨f0,f1,f2,f3,f4,f5⟩:=hf it (by simp);have hi:i<(ts x).length:=hg;have hx:x.cps[i]? =some (ts x)[i]:=by
   rw[<-aB];simp[hi]
  have fin:∀h',h'.IsStrIter it ty x t (i+1)->Heap.SameBut it s.heap h'->∃u,some (Value.str ⟨#[(ts x)[i]]⟩ s.toks)=some u/\
    wpAny (model X.prog X.w) X.A (letOwnedTupleGo tg (.ref it) u) (λ_ s2=>∃x' H',Inv X pins σ H' s2/\RelV x' u/\(Its x).yld i H x' H'/\s2.heap.IsStrIter it ty x t (i+1)/\∀b∈ [it],H' b=none) E {s with heap:=h',toks:=s.toks+1}:=λh' st' sb=>by
   have I1:Inv X pins σ H {s with heap:=h',toks:=s.toks+1}:=I.turned (t':=s.toks+1) (λb o hb e=>(sb.2 b hb).trans e) f0 f1 f3 f4 f5;obtain⟨o,e,c,d⟩:=id st';refine⟨_,rfl,zMu (s:={s with heap:=h',toks:=s.toks+1}) e c d ?_ ⟨.str (tx [(ts x)[i]]),H,I1,⟨_,rfl⟩,⟨rfl,_,by simp[hi],rfl⟩,st',λb hb=>(hf b hb).1⟩⟩;rcases hty with z | z<;>(rw[z];decide)
  rcases hty with z | z
  ·subst z;exact wpAny_pyNext_ascii_item st hx λh' st' sb=>fin h' st' sb
  ·subst z;exact wpAny_pyNext_wide_item st hx λh' st' sb=>fin h' st' sb
 done:=by
  intro X hP hw hK hc i pins s σ H E I hf st hg;subst hP hw hK;obtain⟨f0,f1,f2,f3,f4,f5⟩:=hf it (by simp);have hi:(ts x).length<=i:=hg;have hx:x.cps[i]? =none:=by
   rw[<-aB];exact List.getElem?_eq_none hi
  rcases hty with z | z
  ·subst z;exact zHb (I.hn hc) st hx λh' eb=>⟨rfl,I.turned (t':=s.toks) (λb o hb e=>eb b o hb e) f0 f1 f3 f4 f5⟩
  ·subst z;exact zJy (I.hn hc) st hx λh' eb=>⟨rfl,I.turned (t':=s.toks) (λb o hb e=>eb b o hb e) f0 f1 f3 f4 f5⟩
 self:=λ_ _ _ _ _ st h=>by
  rcases hty with z | z
  ·subst z;exact wpAny_pyIter_striter_ascii st h
  ·subst z;exact wpAny_pyIter_striter_wide st h
def zTa(tl:TE):TI:=λσ H R=>tl σ H λx H1=>∃z,x= .str z/\R (Its z) H1
theorem zCb{tg l:Expr}{tl:TE}(hl:PE X l tl)(hcl:X.cool=true:=by rfl):PI X tg l (zTa tl):=by
 intro pins s σ H R I h;refine thn (hl pins s σ H _ I h) λv s1 z_=>?_;obtain⟨x,H1,I1,r1,q1⟩:=z_;obtain⟨z,rfl,q⟩:=q1;obtain⟨t,rfl⟩:=r1;have fin:∀ty,(ty= "str_ascii_iterator"\/ty= "str_iterator")->PIE X pins σ tg R (.ref s1.heap.objs.size) {s1 with heap:=s1.heap.push {cls:=.type ty,data:=.fields #[.str z t, .int 0 0]}}:=λty hty=>by
  refine⟨s1.heap.objs.size,[s1.heap.objs.size],_,_,H1,rfl,I1.kept (t':=s1.toks) λb o e=>mI _ e,⟨true,hcl,zSk z t _ ty hty⟩,⟨_,nI _ rfl,rfl,rfl⟩,λb hb=>?_,q⟩;have e:b=s1.heap.objs.size:=by simpa using hb
  subst e;exact I1.fpOk (mK _) (I1.hok.fresh (mK _))
 cases ha:z.cps.all (· <128) with
 | true=>exact wpAny_pyIter_ascii ha (fin _ (.inl rfl))
 | false=>exact wpAny_pyIter_wide ha (fin _ (.inr rfl))
theorem zJf{bs:List Bool}:∀{us:List Value},Vals (bs.map V.bl) us->PyProof.Rows.LSm.BoolsAre us bs:=by
 induction bs with
 | nil=>intro us r;rw[pV] at r;cases r;exact .nil
 | cons n ns ih=>
  intro us r;rw[nD] at r
  cases r with
  | cons r1 r2=>
   cases (show _=Value.bool n from r1);exact .cons n (ih r2)
theorem zVo{A:Around}{h:Heap}(hn:Hn A h):∃x:Option Addr,(∀v,A.handled=some v->∃a,x=some a/\v= .ref a)/\∀a∈x.toList,a<h.objs.size:=by
 cases e:A.handled with
 | none=>exact⟨none,λv z=>(nomatch z),λa ha=>by simp at ha⟩
 | some v=>
  obtain⟨x,o,C,vs,rfl,a1,a2,a3⟩:=hn v e;refine⟨some x,λv z=>⟨x,rfl,(nU z).symm⟩,λa ha=>?_⟩;have ha:a=x:=by simpa using ha
  subst ha;exact mW a1
theorem wB(hc:X.cool=true):xY X (.builtin "all") (λxs H Q=>∃(p:Addr)(bs:List Bool),xs= [.ref p]/\SqL X.K H p (bs.map V.bl)/\Q (.bl (bs.all id)) H):=by
 intro pins s σ H xs us Q I r h;obtain⟨p,bs,rfl,hq,q⟩:=h;obtain⟨u,rfl,rx⟩:=jL r;cases rx;obtain⟨its,rv,pl,hz⟩:=I.list hq;have hl:=pl.isList;have hb:=zJf rv;have hlt:p<s.heap.objs.size:=by obtain⟨_,e,_⟩:=hl;exact mW e
 refine call_all_walk (wpAny_pyIter_list hl ?_);obtain⟨x,hx,_⟩:=zVo (I.hn hc);refine⟨s.heap.objs.size,[s.heap.objs.size,p]++x.toList,[s.heap.objs.size],its.toArray.size,_,_,λi=>(bs[i]?).getD true,rfl,zFg (A:=X.A.in1) hx _ p (nR hlt) its.toArray,
  ⟨⟨_,nI _ rfl,rfl,rfl⟩,hl.push _,(I.hn hc).keeps λb o e=>mI _ e⟩,λi v s' Q' E' hP hQ=>?_,λh' tk hk=>?_⟩
 ·obtain⟨b,e,rfl⟩:=hb.get i v (by simpa using hP)
  simp only[e,Option.getD_some] at hQ;exact rM hQ
 ·have e:((List.range its.toArray.size).all λi=>(bs[i]?).getD true)=bs.all id:=by
   rw[nE,hb.length];exact PyProof.Rows.LSm.range_all bs
  rw[e];exact⟨.bl _,H,I.kept (PyProof.Rows.LSm.kept_iter hk),rfl,q⟩
def zAr:List V->List V->Bool
 | [],[]=>true
 | x::xs,y::ys=>eqV x y && zAr xs ys
 | _,_=>false
theorem zDd:∀(xs ys:List V),xs.length=ys.length->(List.range xs.length).all (λj=>match xs[j]?,ys[j]? with | some a,some b=>eqV a b | _,_=>true)=zAr xs ys
 | [],[],_=>rfl
 | x::xs,y::ys,h=>by
  have ih:=zDd xs ys (by simpa using h);rw[mE,List.range_succ_eq_map,cR,aT];show(eqV x y && _)=(eqV x y && zAr xs ys);rw[<-ih]
  congr 1
theorem zIo:∀{xs ys:List V},xs.length≠ys.length->zAr xs ys=false
 | [],[],h=>absurd rfl h
 | [],_::_,_=>rfl
 | _::_,[],_=>rfl
 | x::xs,y::ys,h=>by
  have ih:=zIo (xs:=xs) (ys:=ys) (by simpa using h);show(eqV x y && zAr xs ys)=false;rw[ih,aX]
def rEqL(K:W.Frag)(neg:Bool):R2:=λx y H Q=>∃a b xs ys,x= .ref a/\y= .ref b/\SqL K H a xs/\SqL K H b ys/\xs.all wK=true/\ys.all wK=true/\Q (.bl (if neg then !zAr xs ys else zAr xs ys)) H
theorem Vals.some_at{xs:List V}{us:List Value}(r:Vals xs us){j:Nat}(h:j<us.length):∃x,xs[j]? =some x/\RelV x us[j]:=by
 have hl:=r.length;obtain⟨x,e⟩:∃x,xs[j]? =some x:=⟨xs[j],by simp[hl,h]⟩;obtain⟨u,hu,ru⟩:=r.get e;have e2:us[j]? =some us[j]:=by simp[h]
 rw[e2] at hu;cases hu;exact⟨x,e,ru⟩
theorem zRw{A:Around}{s:Shared}{xs ys:List V}{us ws:List Value}(r:Vals xs us)(q:Vals ys ws)(fx:xs.all wK=true)(fy:ys.all wK=true):
  ∀j(h1:j<us.toArray.size)(h2:j<ws.toArray.size),SeqAt.EqAt A s us.toArray[j] ws.toArray[j] ((λj=>match xs[j]?,ys[j]? with | some a,some b=>eqV a b | _,_=>true) j):=λj h1 h2=>by
 obtain⟨x,e1,r1⟩:=r.some_at (j:=j) (by simpa using h1);obtain⟨y,e2,r2⟩:=q.some_at (j:=j) (by simpa using h2);have f1:wK x=true:=pX.mp fx x (nW e1);have f2:wK y=true:=pX.mp fy y (nW e2);have z:=zRr (A:=A) (s:=s) r1 r2 f1 f2;simp only[e1,e2]
 simpa using z
theorem zLj(hu:X.A.units<cLine):OpR X (compareOp .NotEq) (rEqL X.K true):=by
 intro pins s σ H x y v u Q I rx ry h;obtain⟨a,b,xs,ys,rfl,rfl,ha,hb,fx,fy,q⟩:=h;cases rx;cases ry;obtain⟨its,r1,pl1,_⟩:=I.list ha;obtain⟨its2,r2,pl2,_⟩:=I.list hb;have l1:=r1.length;have l2:=r2.length
 by_cases e:xs.length=ys.length
 ·refine SeqAt.RcNeAt.lists pl1.isList pl2.isList (by simp only[nE];lia) hu (zRw r1 r2 fx fy) X.prog X.w X.xe _ ⟨.bl _,H,I,rfl, ?_⟩
  rw[nE,<-l1,zDd xs ys e];exact q
 ·refine SeqAt.RcNeAt.lists_lengths pl1.isList pl2.isList (by simp only[nE];simpa [<-l1,<-l2] using e) hu X.prog X.w X.xe _ ⟨.bl _,H,I,rfl, ?_⟩
  have z:=zIo e
  simpa [z] using q
def tyS(H:Hp):V->Option String
 | .non=>some "NoneType"
 | .bl _=>some "bool"
 | .int _=>some "int"
 | .str _=>some "str"
 | .ref a=>match H a with
  | some (.lst _)=>some "list"
  | some (.tup _)=>some "tuple"
  | some (.dK _)=>some "dict"
  | _=>none
 | _=>none
def wI(t T:String):Bool:=t==T ||(t== "bool" && T== "int")
theorem zXt{K:W.Frag}{H:Hp}{x:V}{t:String}(h:tyS H x=some t):uX K H x (.type t):=by
 cases x with
 | non=>cases h;exact .non
 | bl b=>cases h;exact .bl b
 | int i=>cases h;exact .int i
 | str z=>cases h;exact .str z
 | ref a=>
  have h':(match H a with | some (.lst _)=>some "list" | some (.tup _)=>some "tuple" | some (.dK _)=>some "dict" | _=>none)=some t:=h
  cases e:H a with
  | none=>rw[e] at h';cases h'
  | some o=>
   rw[e] at h'
   cases o with
   | lst xs=>cases h';exact .lst e
   | tup xs=>cases h';exact .tup e
   | dK kvs=>cases h';exact .dK e
   | _=>cases h'
 | byt b=>cases h
 | flt b=>cases h
 | ty n=>cases h
def tyL:List String:=["NoneType","bool","int","str","list","tuple","dict"]
def kitB(t T:String):Option Bool:=if(Value.type t==Value.type T)=true then some true else if W.kitMeta T=true then(fastBuiltinMro t).map (·.contains (.type T)) else none
theorem zUo:(tyL.all λt=>tyL.all λT=>kitB t T==some (wI t T))=true:=by decide+kernel
theorem zQc{K:W.Frag}{t T:String}(h1:t∈tyL)(h2:T∈tyL):W.kitOne K (.type t) (.type T)=some (wI t T):=by
 have a:=pX.mp (pX.mp zUo t h1) T h2;have b:kitB t T=some (wI t T):=by simpa using a
 exact b
theorem zFf{H:Hp}{x:V}{t:String}(h:tyS H x=some t):t∈tyL:=by
 cases x<;>first |(cases h;simp[tyL];done)|(cases h;done)| skip
 rename_i a;have h':(match H a with | some (.lst _)=>some "list" | some (.tup _)=>some "tuple" | some (.dK _)=>some "dict" | _=>none)=some t:=h
 split at h'<;>first |(cases h';simp[tyL];done)|(cases h';done)
theorem zCl{T:String}(hT:T∈tyL):xY X (.builtin "isinstance") (λxs H Q=>∃x t,xs= [x, .ty T]/\tyS H x=some t/\Q (.bl (wI t T)) H):=by
 intro pins s σ H xs us Q I r h;obtain⟨x,t,rfl,ht,q⟩:=h;obtain⟨u,w',rfl,ru,rw'⟩:=zDr r;cases (show w'=Value.type T from rw');exact zOd I ru (zXt ht) (zQc (zFf ht) hT) λtk=>⟨.bl _,H,I.tok _,rfl,q⟩
end
theorem yH:bootBuiltins "len" =some (.builtin "len"):=by decide+kernel
theorem zX:bootBuiltins "isinstance" =some (.builtin "isinstance"):=by decide+kernel
theorem qY:bootBuiltins "all" =some (.builtin "all"):=by decide+kernel
theorem zPq:bootBuiltins "abs" =some (.builtin "abs"):=by decide+kernel
theorem zXy:bootBuiltins "ord" =some (.builtin "ord"):=by decide+kernel
theorem zRu:bootBuiltins "min" =some (.builtin "min"):=by decide+kernel
theorem zZc:bootBuiltins "max" =some (.builtin "max"):=by decide+kernel
theorem zEv:bootBuiltins "sorted" =some (.builtin "sorted"):=by decide+kernel
theorem xH:bootBuiltins "int" =some (.type "int"):=by decide+kernel
theorem gP:bootBuiltins "str" =some (.type "str"):=by decide+kernel
theorem zEz:bootBuiltins "bool" =some (.type "bool"):=by decide+kernel
theorem kH:bootBuiltins "list" =some (.type "list"):=by decide+kernel
theorem zAz:bootBuiltins "dict" =some (.type "dict"):=by decide+kernel
structure Bl(mg:Str->Option Value):Prop where
 len:mg "len" =none
 range:mg "range" =none
 isinstance:mg "isinstance" =none
 all:mg "all" =none
 sum:mg "sum" =none
 int:mg "int" =none
 str:mg "str" =none
 bool:mg "bool" =none
 list:mg "list" =none
 dict:mg "dict" =none
 tuple:mg "tuple" =none
structure Dn(P:Program)(w:World)(K:W.Frag)(mg:Str->Option Value)(base:Heap)(k:Nat)(x:Str)(ps:List Str)(sp:Sp):Prop where
 ex:∃(f:Addr)(fd:FuncData),FnOk P w K mg base CX0 k f fd ps sp/\Binds K fd ps []/\W.keepIn K (.ref f)=true/\mg x=some (.ref f)
section
variable{X:Cx}{k j:Nat}{x:Str}{ps:List Str}{sp:Sp}{e:Expr}{es:List Expr}{t:TA}{p pos:Pos}
theorem pe_cd(D:Dn X.prog X.w X.K X.mg X.base k x ps sp)(hr:Room j X.A)(hj:k<=j)(hg:Gl X x)(ha:PA X (e::es) t)(hdb:(x==("__debug__" :Str))=false:=by decide)
  (he:starEach (e::es) X.env=(false,eval e X.env)::starEach es X.env:=by rfl) (hpl:(backTo pos (starEach es X.env)).any (·.1)=false:=by rfl):PE X (.Call (.Name x p) (e::es) [] pos) (kT sp [] E0 t):=by
 obtain⟨f,fd,h1,h2,h3,h4⟩:=D.ex;exact zLv h1 (hr.mono hj) hg h4 h3 h2 .nil zQi ha hdb he hpl
end
theorem zKa{α β:Type}{l:List α}{f:α->β->Sem (ForInStep β)}(g:β->α->β)(h:∀x∈l,∀c,f x c=pure (.yield (g c x))):∀b:β,forIn l b f=pure (l.foldl g b):=by
 induction l with
 | nil=>intro b;rfl
 | cons a r ih=>
  intro b;rw[List.forIn_cons,h a mH];show forIn r (g b a) f=_;rw[ih (λx hx=>h x (mR _ hx)) (g b a)]
  rfl
def xT(env:Env)(cs:List (Str×Addr))(x:Str×NameKind):List (Str×Addr):=
 if(x.2==NameKind.free)=true then(match env.cells.lookup x.1 with | some a=>(x.1,a)::cs | none=>cs) else cs
def clo(env:Env)(names:List (Str×NameKind)):List (Str×Addr):=names.foldl (xT env) []
theorem jY{scope:Scope}{env:Env}(h:∀x∈scope.names,x.2= .free->∃c,env.cells.lookup x.1=some c):closureFor scope env=pure (clo env scope.names):=by
 simp only[closureFor];rw[zKa (xT env) (λx hx c=>by
  obtain⟨n,k⟩:=x
  by_cases hk:k= .free
  ·subst hk
   obtain⟨a,e⟩:=h _ hx rfl;have e':env.cells.lookup n=some a:=e;simp[xT,cellOf,e']
  ·have e:(k==NameKind.free)=false:=by simpa using hk
   simp[xT,e])]
 rfl
theorem zLe{env:Env}:∀(names:List (Str×NameKind))(cs:List (Str×Addr)),(∀p∈cs,env.cells.lookup p.1=some p.2)->∀p∈names.foldl (xT env) cs,env.cells.lookup p.1=some p.2
 | [],_,h=>h
 | x::r,cs,h=>by
  refine zLe r (xT env cs x) λp hp=>?_;unfold xT at hp;split at hp
  ·split at hp
   ·rename_i a e
    rcases mF.mp hp with z | z
    ·rw[z];exact e
    ·exact h p z
   ·exact h p hp
  ·exact h p hp
theorem zGx{env:Env}{p:Str×Addr}:∀(names:List (Str×NameKind))(cs:List (Str×Addr)),p∈cs->p∈names.foldl (xT env) cs
 | [],_,h=>h
 | x::r,cs,h=>by
  refine zGx r (xT env cs x) ?_;unfold xT;split
  ·split
   ·exact mR _ h
   ·exact h
  ·exact h
theorem zMb{env:Env}{n:Str}{c:Addr}(e:env.cells.lookup n=some c):∀(names:List (Str×NameKind))(cs:List (Str×Addr)),(n,NameKind.free)∈names->(n,c)∈names.foldl (xT env) cs
 | [],_,h=>nomatch h
 | x::r,cs,h=>by
  rcases mF.mp h with z | z
  ·subst z
   refine zGx r _ ?_;unfold xT;rw[mL (by rfl)];show(n,c)∈(match env.cells.lookup n with | some a=>(n,a)::cs | none=>cs)
   rw[e];exact mH
  ·exact zMb e r _ z
theorem vS{α:Type}{n:Str}{c:α}:∀{l:List (Str×α)},(n,c)∈l->∃c',l.lookup n=some c'
 | [],h=>nomatch h
 |(m,d)::r,h=>by
  by_cases e:n=m
  ·subst e;exact⟨d,by simp[nZ]⟩
  ·rcases mF.mp h with z | z
   ·cases z;exact absurd rfl e
   ·obtain⟨c',q⟩:=vS z
    have e2:(n==m)=false:=by simpa using e
    exact⟨c',by rw[nZ,e2];exact q⟩
theorem zRy{env:Env}{names:List (Str×NameKind)}{n:Str}{c:Addr}(h:(clo env names).lookup n=some c):env.cells.lookup n=some c:=
 zLe names [] (λ_ z=>nomatch z) (n,c) (rP h)
theorem zCi{env:Env}{names:List (Str×NameKind)}{n:Str}{c:Addr}(e:env.cells.lookup n=some c)(h:(n,NameKind.free)∈names):(clo env names).lookup n=some c:=by
 obtain⟨c',q⟩:=vS (zMb e names [] h);have q':(clo env names).lookup n=some c':=q;have z:=zRy q';rw[e] at z;rw[q',<-z]
inductive FreeOk (X:Cx) (scope:Scope):List (Str×Nat)->Prop where
 | nil:FreeOk X scope []
 | cons {x:Str} {i:Nat} {r:List (Str×Nat)} (h1:X.N[i]? =some x) (h2:X.env.kindOf x=some .cell) (h3:scope.names.lookup x=some .free) (h:FreeOk X scope r):FreeOk X scope ((x,i)::r)
theorem FreeOk.mem{X:Cx}{scope:Scope}:∀{F:List (Str×Nat)},FreeOk X scope F->∀p∈F,X.N[p.2]? =some p.1/\X.env.kindOf p.1=some .cell/\scope.names.lookup p.1=some .free
 | _, .nil,_,h=>nomatch h
 | _, .cons h1 h2 h3 h,p,hp=>by
  rcases mF.mp hp with z | z
  ·subst z;exact⟨h1,h2,h3⟩
  ·exact h.mem p z
structure CompSc(X:Cx)(scope:Scope)(own:List Str)(F:List (Str×Nat)):Prop where
 kind:scope.kind= .function
 nocell:(scope.names.all λy=>!(y.2==NameKind.cell))=true
 loc:(scope.names.all λy=>!(y.2==NameKind.local)||(scope.names.lookup y.1==some NameKind.local))=true
 fr:(scope.names.all λy=>!(y.2==NameKind.free)||(X.env.scope.names.lookup y.1==some NameKind.cell))=true
 free:FreeOk X scope F
def qR(own:List Str)(F:List (Str×Nat)):List Str:=own++F.map (·.1)
def kP(own:List Str)(F:List (Str×Nat))(σ:St):St:=own.map (λ_=>Option.none)++F.map (λp=>(σ[p.2]?).join)
def xJ(X:Cx)(own:List Str)(F:List (Str×Nat))(scope:Scope)(C:Addr)(s₃:Shared)(H₃:Hp)(ex:List Addr):Cx where
 prog:=X.prog
 w:=X.w
 K:=X.K
 mg:=X.mg
 base:=X.base
 A:=X.A
 N:=qR own F
 s₀:=s₃
 H₀:=H₃
 env:=compEnvC scope (clo X.env scope.names) C X.env
 outer:=X.stack
 stack:=X.stack
 ex:=ex
 fn:=λ_=>false
 calm:=X.calm
 cool:=X.cool
 pn:=[]
 xe:=λ_ _=>False
theorem CompSc.nc{X:Cx}{scope:Scope}{own:List Str}{F:List (Str×Nat)}(S:CompSc X scope own F):∀y∈scope.names,y.2≠ .cell:=λy hy e=>by
 have q:=pX.mp S.nocell y hy;rw[e] at q;exact absurd q (by decide)
theorem CompSc.lc{X:Cx}{scope:Scope}{own:List Str}{F:List (Str×Nat)}(S:CompSc X scope own F):∀y∈scope.names,y.2= .local->scope.names.lookup y.1=some .local:=λy hy e=>by
 have q:=pX.mp S.loc y hy;rw[e] at q
 simpa using q
theorem CompSc.fc{X:Cx}{scope:Scope}{own:List Str}{F:List (Str×Nat)}(S:CompSc X scope own F):∀y∈scope.names,y.2= .free->X.env.kindOf y.1=some .cell:=λy hy e=>by
 have q:=pX.mp S.fr y hy;rw[e] at q;have q':X.env.scope.names.lookup y.1=some NameKind.cell:=by simpa using q
 exact q'
theorem zFj{scope:Scope}{env:Env}(hc:∀y∈scope.names,y.2≠ .cell){x:Str}(h:(relabel scope env).names.lookup x=some .cell\/(relabel scope env).names.lookup x=some .free):(x,NameKind.free)∈scope.names:=by
 have go:∀k,(relabel scope env).names.lookup x=some k->k= .cell\/k= .free->(x,NameKind.free)∈scope.names:=λk e hk=>by
  have m:=rP e;unfold relabel at m;obtain⟨⟨n,k0⟩,hm,e2⟩:=sU.mp m
  by_cases hf:k0= .free
  ·subst hf
   dsimp only at e2;split at e2<;>(cases e2;exact hm)
  ·have e3:(k0==NameKind.free)=false:=by simpa using hf
   simp only[e3,aA,sS,sW] at e2;cases e2;rcases hk with z | z
   ·exact absurd z (hc _ hm)
   ·exact absurd z hf
 rcases h with h | h
 ·exact go _ h (.inl rfl)
 ·exact go _ h (.inr rfl)
theorem vC{env:Env}(hf:env.scope.kind= .function):∀{names:List (Str×NameKind)}{x:Str},names.lookup x=some .free->env.kindOf x=some .cell->
  (names.map fun(n,k)=>if(k==NameKind.free && env.scope.kind== .function && env.kindOf n==some .cell) then(n,NameKind.cell) else(n,k)).lookup x=some .cell
 | [],_,h,_=>by simp at h
 |(n,k)::r,x,h,hx=>by
  have ih:=@vC env hf r x;rw[nD]
  by_cases e:x=n
  ·subst e
   have hk:k= .free:=by simpa [nZ] using h
   subst hk;have c:(NameKind.free==NameKind.free && env.scope.kind== .function && env.kindOf x==some .cell)=true:=by rw[hf,hx];rfl
   show List.lookup x ((if(NameKind.free==NameKind.free && env.scope.kind== .function && env.kindOf x==some .cell)=true then(x,NameKind.cell) else(x,NameKind.free))::_)=_;rw[mL c];simp[nZ]
  ·have e2:(x==n)=false:=by simpa using e
   have h':r.lookup x=some .free:=by rw[nZ,e2] at h;exact h
   have q:=ih h' hx;dsimp only;split
   ·rw[nZ,e2];exact q
   ·rw[nZ,e2];exact q
section
variable{X:Cx}{pins:List (Addr×Obj)}{σ:St}{H:Hp}{s:Shared}
theorem Inv.freeCells{scope:Scope}{own:List Str}{F:List (Str×Nat)}(I:Inv X pins σ H s)(S:CompSc X scope own F):∀x∈scope.names,x.2= .free->∃c,X.env.cells.lookup x.1=some c:=λx hx e=>
 I.ok.has x.1 (.inl (S.fc x hx e))
theorem Inv.notStk(I:Inv X pins σ H s){b:Addr}(h1:b≠X.env.locals)(h2:b∉X.fs):b∉frs X.stack:=λz=>(mF.mp (I.stkSub b z)).elim h1 h2
theorem zKf{scope:Scope}{own:List Str}{F:List (Str×Nat)}{fp:List Addr}{h1:Heap}{tk:Nat}(I:Inv X pins σ H s)(S:CompSc X scope own F)(hf:∀b∈fp,zDj X pins H b)(hlt:∀b∈fp,b<s.heap.objs.size){s3:Shared}
  (e3:s3={s with heap:=s.heap.push {cls:=.type "list",data:=.seq ([]:List Value).toArray}})
  (hns:h1.Ns s3.heap.objs.size (λ_=>none)) (hk:∀b o,s3.heap.get? b=some o->h1.get? b=some o):
  Inv (xJ X own F scope s3.heap.objs.size s3 H (s.heap.objs.size::fp)) [] (kP own F σ) H {s3 with heap:=h1,toks:=tk}:=by
 have sz3:s3.heap.objs.size=s.heap.objs.size+1:=by rw[e3];exact tE ..
 have k3:∀b o,s.heap.get? b=some o->s3.heap.get? b=some o:=λb o e=>by rw[e3];exact mI _ e
 have I3:Inv X pins σ H s3:=by rw[e3];exact I.kept (t':=s.toks) λb o e=>mI _ e
 have lkup:∀x c,(clo X.env scope.names).lookup x=some c->X.env.cells.lookup x=some c:=λx c e=>zRy e;have base_lt:∀b o,X.base.get? b=some o->b<X.s₀.heap.objs.size:=λb o e=>mX (mW e) I.ok.bsz;have kf:X.env.scope.kind= .function:=I.ok.kind;refine⟨⟨I.ok.mod,S.kind,I.ok.glob,I.ok.blt,mK _,λx y c h1 h2=>I.ok.inj x y c (lkup x c h1) (lkup y c h2),λx hx=>?_,λx c hx _=>(nomatch hx),⟨I.ok.hd.1,λz v e=>?hnd⟩,I.ok.frames, .inl rfl,λb hb=>?_,λb o e=>?_, ?_,λb o e hb=>?_,λb hb=>?_,I3.stack,λb hb=>I.stkFree b hb⟩,
  rfl,I3.bare,Un.kept hk,⟨_,hns,λi x v e1 e2 e3'=>?_⟩,λx c e=>?_, ?_,λx c e=>I.freeC x c (lkup x c e),λp hp=>absurd (show p∈([]:List (Addr×Obj)) from hp) (by simp),I3.hok.kept hk, ?_⟩
 case hnd=>
  obtain⟨x,o,C,vs,a,h1,h2,h3,h4,h5⟩:=I.hnAt z v e;refine⟨x,o,C,vs,a,k3 x o h1,h2,h3,h4, ?_⟩;rcases h5 with⟨h5,h6,h7⟩| h5
  ·obtain⟨x',o',C',vs',a',g1,g2,g3,g4,g5⟩:=I.ok.hd.2 z v e
   rw[a] at a';cases a';have lx:x<X.s₀.heap.objs.size:=mW g1;refine .inl ⟨h5,I.notStk (nR (mX lx I.ok.above)) h6,λhb=>?_⟩;rcases mF.mp hb with q | q
   ·exact absurd (mW h1) (by rw[q];exact rF _)
   ·rcases(hf x q).2.2.2.1 with q | q
    ·exact h7 q
    ·exact absurd lx (Nat.not_lt.mpr q)
  ·exact .inr h5
 ·have hm:=zFj S.nc hx
  obtain⟨c,e⟩:=I.freeCells S _ hm rfl;exact⟨c,zCi e hm⟩
 ·rcases mF.mp hb with z | z
  ·subst z
   refine⟨λq=>?_,λx c e q=>?_⟩
   ·have q':s.heap.objs.size=s3.heap.objs.size:=q
    lia
   ·obtain⟨v,u⟩:=I.cell x c (lkup x c e)
    exact absurd u.lt (by rw[q];exact rF _)
  ·refine⟨λq=>?_,λx c e=>(hf b z).2.2.2.2.1 x c (lkup x c e)⟩
   exact nR (mX (hlt b z) (show s.heap.objs.size<=s3.heap.objs.size by lia)) q
 ·obtain⟨a1,a2⟩:=I.bs b o e
  exact⟨k3 b o a1,a2⟩
 ·exact nN (nN I.ok.bsz I.sz) (by show s.heap.objs.size<=s3.heap.objs.size;lia)
 ·have l1:=base_lt b o e
  rcases mF.mp hb with z | z
  ·exact absurd (mX l1 I.sz) (by rw[z];exact rF _)
  ·rcases(hf b z).2.2.2.1 with q | q
   ·exact I.ok.noex b o e q
   ·exact absurd l1 (Nat.not_lt.mpr q)
 ·rcases mF.mp hb with z | z
  ·subst z
   exact I.notStk (aP I.lt) (I.nofs (mK _))
  ·exact I.notStk (hf b z).2.1 (hf b z).2.2.1
 ·-- a name that is seen
  have hi:own.length<=i:=by
   by_cases z:i<own.length
   ·rw[kP,nQ (by simpa using z),pM] at e2
    cases q:own[i]? with
    | none=>rw[q] at e2;cases e2
    | some y=>rw[q] at e2;cases e2
   ·lia
  rw[kP,nO (by simpa using hi),pM] at e2;have e1':(own++F.map (·.1))[i]? =some x:=e1;rw[nO hi,pM] at e1';simp only[nA] at e2
  cases q:F[i - own.length]? with
  | none=>rw[q] at e2;cases e2
  | some p=>
   rw[q] at e1' e2;simp only[Option.map_some,Option.some.injEq] at e1' e2;obtain⟨f1,f2,f3⟩:=S.free.mem p (nW q);subst e1';obtain⟨m,hn,hl⟩:=I.loc;have e4:σ[p.2]? =some (some v):=by
    cases r:σ[p.2]? with
    | none=>rw[r] at e2;cases e2
    | some o=>rw[r] at e2;exact congrArg some e2
   obtain⟨u,ru,l⟩:=hl p.2 p.1 v f1 e4 (.inr (.inl f2));refine⟨u,ru, .inr ⟨.inl (vC kf f3 f2), ?_⟩⟩;rcases l with⟨l,_⟩|⟨_,c,ec,z⟩
   ·rw[f2] at l;cases l
   ·refine⟨c,zCi ec (rP f3), ?_⟩
    obtain⟨oc,ho,hd⟩:=z;exact⟨oc,hk _ _ (k3 _ _ ho),hd⟩
 ·obtain⟨v,oc,ho,hd⟩:=I.cell x c (lkup x c e)
  exact⟨v,oc,hk _ _ (k3 _ _ ho),hd⟩
 ·exact I.hok.fresh (by show s.heap.objs.size<=s3.heap.objs.size;lia)
 ·show(kP own F σ).length=(qR own F).length
  simp[kP,qR]
theorem zNm{scope:Scope}{own:List Str}{F:List (Str×Nat)}{fp:List Addr}{s3 s4:Shared}{σ':St}{H':Hp}{ys:List V}{its:List Value}{n:Nat}(I:Inv X pins σ H s)(hf:∀b∈fp,zDj X pins H b)
  (e3:s3={s with heap:=s.heap.push {cls:=.type "list",data:=.seq ([]:List Value).toArray}})
  (J:Inv (xJ X own F scope s3.heap.objs.size s3 H (s.heap.objs.size::fp)) [] σ' H' s4) (hz:ys.length<=sizeLine) (hv:Vals ys its)
  (ha:s4.heap.get? s.heap.objs.size=some {cls:=.type "list",data:=.seq its.toArray n}) (hn:H' s.heap.objs.size=none):Inv X pins σ (upd H' s.heap.objs.size (.lst ys)) s4:=by
 have sz3:s3.heap.objs.size=s.heap.objs.size+1:=by rw[e3];exact tE ..
 have k3:∀b o,s.heap.get? b=some o->s3.heap.get? b=some o:=λb o e=>by rw[e3];exact mI _ e
 have U:Un (frs X.stack) (s.heap.objs.size::fp) H H' s3.heap s4.heap:=J.base;have ne:∀b o,s.heap.get? b=some o->b≠s.heap.objs.size:=λb o e=>nR (mW e);have nx:∀b o,s.heap.get? b=some o->b∉fp->b∉s.heap.objs.size::fp:=λb o e h z=>(mF.mp z).elim (ne b o e) h;have os4:s4.os=s.os:=by
  have q:s4.os=s3.os:=J.os;rw[q,e3]
 refine I.call' (ch:=fp) os4 ⟨λb o e z hb hx=>U.keep b o (k3 b o e) z hb (nx b o e hx),λb o e z hb hx=>U.slot b o (k3 b o e) z hb (nx b o e hx),λb o e z hx=>?_,λb o e hx=>U.there b o (k3 b o e) (nx b o e hx),λb xs e=>?_,λb o u e=>?_,λb ps e=>?_⟩ (λb u e=>?_) J.bare λb hb=>?_
 ·rw[zN (ne b o e)]
  exact U.free b o (k3 b o e) z (nx b o e hx)
 ·have q:=U.tups b xs e
  rw[zN (yJ q hn)];exact q
 ·have q:=U.frzs b o u e
  rw[zN (yJ q hn)];exact q
 ·obtain⟨more,q⟩:=U.tbls b ps e
  exact⟨more,by rw[zN (yJ q hn)];exact q⟩
 ·by_cases hb:b=s.heap.objs.size
  ·subst hb
   rw[zF] at e;cases e;exact⟨hz,its,n,hv,ha⟩
  ·rw[zN hb] at e
   exact(J.hok b u e).stay (λ_ _ _ q=>q) (λc q=>by rw[zN (yJ q hn)];exact q) λc xs q=>by rw[zN (yJ q hn)];exact q
 ·obtain⟨_,f1,_,f3,f4,f5⟩:=hf b hb
  exact⟨f3,f1,f4,f5⟩
theorem zBp{H':Hp}{s4:Shared}{C:Addr}{h':Heap}{σ4:St}(I:Inv X pins σ H s)(hC:s.heap.objs.size<=C)(I4:Inv X pins σ4 H' s4)(hn:H' C=none)(hs:Heap.SameBut C s4.heap h'):Inv X pins σ4 H' {s4 with heap:=h'}:=by
 have q:=I4.turned (it:=C) (t':=s4.toks) (h':=h') (λb o hb e=>(hs.2 b hb).trans e) hn (aP (mX I.lt hC)) (.inr (nN I.sz hC)) (λx c e z=>?_) (λp hp z=>?_)
 ·exact q
 ·obtain⟨v,u⟩:=I.cell x c e
  exact absurd (mX u.lt (by rw[z];exact hC)) (rF _)
 ·exact absurd (mX (mW (I.pin p hp).1) (by rw[z];exact hC)) (rF _)
end
def PTs(X:Cx)(ifs:List Expr)(t:TT):Prop:=
 ∀(pins:List (Addr×Obj))(s:Shared)(σ:St)(H:Hp)(Q:Bool->Hp->Prop),Inv X pins σ H s->t σ H Q->
  wpAny (model X.prog X.w) X.A (forIn ifs true λc r=>if r=true then do let ok <-isTrue c X.env (eval c X.env);pure (ForInStep.yield ok) else pure (ForInStep.yield r)) (TP X pins σ Q) X.xe s
def zEb:TT:=λ_ H Q=>Q true H
theorem wR{X:Cx}:PTs X [] zEb:=λ_ _ _ H _ I h=>wpAny_tests_nil ⟨H,I,h⟩
theorem zJd{prog:Program}{w:World}{A:Around}{R:Result->Shared->Prop}{s:Shared}{elt target iter:Expr}{ifs:List Expr}{scope:Scope}{pos:Pos}{it acc:Value}{env:Env}(I:Nat->Shared->Prop)
  (turn:∀n s,I n s->wpAny (model prog w) A (pyNext it) (λr s₁=>match r with
   | none=>R (.ok .next) s₁
   | some v=>wpAny (model prog w) A (letOwnedTupleGo target it v) (λ_ s₂=>wpAny (model prog w) A (assign target env v) (λ_ s₃=>
     wpAny (model prog w) A (forIn ifs true λc r=>if r=true then do let ok <-isTrue c env (eval c env);pure (ForInStep.yield ok) else pure (ForInStep.yield r)) (λok s₄=>
      if ok=true then wpAny (model prog w) A (eval elt env) (λx s₅=>
       wpAny (model prog w) A (call (.builtin "list.append") [acc,x]) (λ_ s₆=>∃m,m<n/\I m s₆) (λ_ _=>False) s₅) (λ_ _=>False) s₄
      else∃m,m<n/\I m s₄) (λ_ _=>False) s₃) (λ_ _=>False) s₂) (λ_ _=>False) s₁) (λ_ _=>False) s)
  (n:Nat) (h:I n s):codeAny (model prog w) A (.compLoop (.ListComp elt [⟨target,iter,ifs,0⟩] scope pos) 0 it acc env) R s:=by
 refine codeAny_loop rfl I (λn s hI=>?_) n h;show wpAny _ A ((compTurn (.ListComp elt [⟨target,iter,ifs,0⟩] scope pos) 0 it acc env).onRaise (λx=>do noteFrame x env;theTreesLotGoes x)) _ _ s;refine wpAny_noted ?_;rw[compTurn_list];refine mD (sX (mD (pU (turn n s hI) (λr s₁ h₁=>?_) λ_ _ f=>f.elim)))
 cases r with
 | none=>exact mQ h₁
 | some v=>
  refine mD (pU h₁ (λ_ s₂ h₂=>mD (pU h₂ (λ_ s₃ h₃=>mD (pU h₃ (λok s₄ h₄=>?_) λ_ _ f=>f.elim)) λ_ _ f=>f.elim)) λ_ _ f=>f.elim)
  cases ok with
  | false=>exact mQ ⟨rfl,h₄⟩
  | true=>exact mD (mD (pU h₄ (λx s₅ h₅=>mD (pU h₅ (λ_ s₆ h₆=>mQ (mQ ⟨rfl,h₆⟩)) λ_ _ f=>f.elim)) λ_ _ f=>f.elim))
def Weak(σ σ':St):Prop:=σ'.length=σ.length/\∀(i:Nat) v,σ'[i]? =some (some v)->σ[i]? =some (some v)
theorem zRp{σ:St}{i:Nat}{v:Option V}(h:σ[i]? =some none):Weak (σ.set i v) σ:=by
 refine⟨by simp,λj u e=>?_⟩
 by_cases hj:i=j
 ·subst hj;rw[h] at e;cases e
 ·rw[bQ hj];exact e
def qM(own:List Str)(F:List (Str×Nat))(g:TG)(tt:TT)(te:TE)(σ:St)(Q:VK)(J:It)(H1:Hp):Prop:=∃W:Nat->Nat->List V->Hp->Prop,(∃m,W 0 m [] H1)/\∀i m ys H',W i m ys H'->ys.length<=i->
 (J.stop i H'/\i<=sizeLine/\∀p,H' p=none->Q (.ref p) (upd H' p (.lst ys)))\/
 (J.go i H'/\i<sizeLine/\∃N:List V->Hp->Prop,(∀ys' H'',N ys' H''->∃m',m'<m/\W (i+1) m' ys' H'')/\
  ∀x H2,J.yld i H' x H2->g x (kP own F σ) H2 λσ3 H3=>Weak σ3 (kP own F σ)/\tt σ3 H3 λb H4=>if b=true then te σ3 H4 λy H5=>N (ys++ [y]) H5 else N ys H4)
def kN(own:List Str)(F:List (Str×Nat))(wi:TI)(g:TG)(tt:TT)(te:TE):TE:=λσ H Q=>wi σ H λJ H1=>qM own F g tt te σ Q J H1
section
variable{X:Cx}{scope:Scope}{own:List Str}{F:List (Str×Nat)}{elt tg iter:Expr}{ifs:List Expr}{pos:Pos}{wi:TI}{g:TG}{tt:TT}{te:TE}
abbrev yS(s:Shared):Shared:={s with heap:=s.heap.push {cls:=.type "list",data:=.seq ([]:List Value).toArray}}
theorem zHp{pins:List (Addr×Obj)}{σ:St}{H:Hp}{s:Shared}{Q:VK}{RR:Addr->Result->Shared->Prop}{it:Addr}{fp:List Addr}{tn:Nat->Heap->Prop}{J:It}(S:CompSc X scope own F){fl:Bool}(hfl:X.heat fl=true)
  (hg:∀C s₃ H₃ ex,PG (xJ X own F scope C s₃ H₃ ex) tg g) (ht:∀C s₃ H₃ ex,PTs (xJ X own F scope C s₃ H₃ ex) ifs tt) (he:∀C s₃ H₃ ex,PE (xJ X own F scope C s₃ H₃ ex) elt te)
  (I:Inv X pins σ H s) (T:zHz fl X.prog X.w X.K tg J fp it tn) (st:tn 0 s.heap) (hf:∀b∈fp,zDj X pins H b)
  (h:qM own F g tt te σ Q J H)
  (hR:∀C s4 H4,s.heap.objs.size<=C->C≠s.heap.objs.size->Inv X pins σ H4 s4->Q (.ref s.heap.objs.size) H4->H4 C=none->(∃m,s4.heap.Ns C m)->RR C (.ok .next) s4):
  wpAny (model X.prog X.w) X.A (newList []) (λacc s₃=>wpAny (model X.prog X.w) X.A (newFunctionEnv scope X.env.globals (clo X.env scope.names) [] X.env.qual none .none (some X.env)) (λcenv s₄=>
   codeAny (model X.prog X.w) X.A (.compStart (.ListComp elt [⟨tg,iter,ifs,0⟩] scope pos) 0 (.ref it) acc {cenv with scope:=relabel scope X.env}) (λr s'=>acc= .ref s.heap.objs.size/\RR cenv.locals r s') s₄) X.xe s₃) X.xe s:=by
 obtain⟨W,⟨m0,w0⟩,turn⟩:=h;have hlt:∀b∈fp,b<s.heap.objs.size:=λb hb=>by
  obtain⟨o,e,_⟩:=T.obj _ _ st b hb;exact mW e
 refine aY (wpAny_newFunctionEnv S.nc (by intro y hy;simp at hy) (λh₁ hns₁ hsb₁=>?_) S.kind);dsimp only at hns₁ hsb₁⊢;have e3':yS s={s with heap:=s.heap.push {cls:=.type "list",data:=.seq ([]:List Value).toArray}}:=rfl;have sz3:(yS s).heap.objs.size=s.heap.objs.size+1:=tE ..;have k3:∀b o,(yS s).heap.get? b=some o->h₁.get? b=some o:=λb o e=>hsb₁.extBut b o (nR (mW e)) (mI _ e);have k2:∀b o,s.heap.get? b=some o->(yS s).heap.get? b=some o:=λb o e=>mI _ e;have hns:h₁.Ns (yS s).heap.objs.size (λ_=>none):=by simpa using hns₁
 have I0:Inv (xJ X own F scope (yS s).heap.objs.size (yS s) H (s.heap.objs.size::fp)) [] (kP own F σ) H {yS s with heap:=h₁,toks:=(yS s).toks+([]:List (Str×Value)).length}:=zKf I S hf hlt e3' hns k3;have acc0:h₁.get? s.heap.objs.size=some {cls:=.type "list",data:=.seq ([]:List Value).toArray 0}:=k3 _ _ (nI _ rfl);have ht0:tn 0 h₁:=T.keep _ _ _ st λb _ o e=>k3 b o (k2 b o e);have loop:codeAny (model X.prog X.w) X.A (.compLoop (.ListComp elt [⟨tg,iter,ifs,0⟩] scope pos) 0 (.ref it) (.ref s.heap.objs.size) (compEnvC scope (clo X.env scope.names) (yS s).heap.objs.size X.env)) (RR (yS s).heap.objs.size) {yS s with heap:=h₁,toks:=(yS s).toks+([]:List (Str×Value)).length}:=by
  refine zJd (λn s'=>∃i ys H' its k,Inv (xJ X own F scope (yS s).heap.objs.size (yS s) H (s.heap.objs.size::fp)) [] (kP own F σ) H' s'/\tn i s'.heap/\(∀b∈fp,H' b=none)/\H' s.heap.objs.size=none/\
   Vals ys its/\s'.heap.get? s.heap.objs.size=some {cls:=.type "list",data:=.seq its.toArray k}/\ys.length<=i/\W i n ys H') ?_ m0 ⟨0,[],H,[],0,I0,ht0,λb hb=>(hf b hb).1,I.hok.fresh (mK _), .nil,acc0,mK _,w0⟩
  rintro n s5 ⟨i,ys,H5,its,k,I5,t5,fr5,ha5,v5,o5,l5,w5⟩;have pn5:Inv (xJ X own F scope (yS s).heap.objs.size (yS s) H (s.heap.objs.size::fp)) [(s.heap.objs.size,{cls:=.type "list",data:=.seq its.toArray k})] (kP own F σ) H5 s5:=I5.pins_of λp hp=>by
   have z:p=(s.heap.objs.size,{cls:=.type "list",data:=.seq its.toArray k}):=by simpa using hp
   subst z;obtain⟨x1,x2⟩:=I0.ok.exf s.heap.objs.size mH;exact⟨o5,ha5,x1,I0.ok.exfs _ mH,λv z=>by cases z⟩
  have fp5:∀{H':Hp},(∀b∈fp,H' b=none)->∀b∈fp,zDj (xJ X own F scope (yS s).heap.objs.size (yS s) H (s.heap.objs.size::fp)) [(s.heap.objs.size,{cls:=.type "list",data:=.seq its.toArray k})] H' b:=λ{H'} hn b hb=>by
   obtain⟨x1,x2⟩:=I0.ok.exf b (mR _ hb);refine⟨hn b hb,x1,I0.ok.exfs b (mR _ hb), .inl (mR _ hb),x2,λp hp=>?_⟩;have z:p=(s.heap.objs.size,{cls:=.type "list",data:=.seq its.toArray k}):=by
    have hp':p∈([]:List (Addr×Obj))++ [(s.heap.objs.size,{cls:=.type "list",data:=.seq its.toArray k})]:=hp
    simpa using hp'
   subst z;exact aP (hlt b hb)
  rcases turn i n ys H5 w5 l5 with⟨stop,hz,q⟩|⟨go,hz,N,hN,step⟩
  ·refine thn (T.done (xJ X own F scope (yS s).heap.objs.size (yS s) H (s.heap.objs.size::fp)) rfl rfl rfl (by cases fl<;>exact hfl) i _ s5 _ H5 (λ_ _=>False) pn5 (fp5 fr5) t5 stop) λr s6 ⟨hr,I6⟩=>?_
   subst hr;obtain⟨a6,b6,_⟩:=I6.pin (s.heap.objs.size,{cls:=.type "list",data:=.seq its.toArray k}) (nV _ (mS.mpr rfl));have J6:=I6.pins_of (pins':=[]) (λp hp=>nomatch hp);have I7:=zNm I hf e3' J6 (nN l5 hz) v5 a6 b6;have hC:H5 (yS s).heap.objs.size=none:=J6.free;refine hR _ s6 _ (show s.heap.objs.size<=(yS s).heap.objs.size by lia) (λz=>by have z':(yS s).heap.objs.size=s.heap.objs.size:=z;lia) I7 (q _ b6) (by rw[zN (λz=>by have z':(yS s).heap.objs.size=s.heap.objs.size:=z;lia)];exact hC) ?_;obtain⟨m,hn,_⟩:=J6.loc;exact⟨m,hn⟩
  ·refine thn (T.item (xJ X own F scope (yS s).heap.objs.size (yS s) H (s.heap.objs.size::fp)) rfl rfl rfl (by cases fl<;>exact hfl) i _ s5 _ H5 (λ_ _=>False) pn5 (fp5 fr5) t5 go) λr s6 z_=>?_;obtain⟨u,hr,h6⟩:=z_
   subst hr;refine thn h6 λ_ s7 z_=>?_;obtain⟨x,H7,I7,r7,y7,t7,fr7⟩:=z_;have J7:=I7.pinned (fp5 fr7) (T.obj _ _ t7);refine thn (hg _ _ _ _ _ s7 _ H7 x u _ J7 r7 (step x H7 y7)) λ_ s8 z_=>?_;obtain⟨σ8,H8,I8,wk,q8⟩:=z_;refine thn (ht _ _ _ _ _ s8 σ8 H8 _ I8 q8) λok s9 z_=>?_;obtain⟨H9,I9,q9⟩:=z_;have keep:∀{σ':St}{H':Hp}{s':Shared},Inv (xJ X own F scope (yS s).heap.objs.size (yS s) H (s.heap.objs.size::fp)) ([(s.heap.objs.size,{cls:=.type "list",data:=.seq its.toArray k})]++zDe fp s7.heap) σ' H' s'->
     tn (i+1) s'.heap/\(∀b∈fp,H' b=none)/\H' s.heap.objs.size=none/\s'.heap.get? s.heap.objs.size=some {cls:=.type "list",data:=.seq its.toArray k}:=λ{σ' H' s'} J=>by
    have pa:=J.pin (s.heap.objs.size,{cls:=.type "list",data:=.seq its.toArray k}) (nV _ (sH _ (mS.mpr rfl)));refine⟨T.keep _ _ _ t7 λb hb o e=>(J.pin (b,o) (nV _ (nV _ (jF hb e)))).1,λb hb=>?_,pa.2.1,pa.1⟩;obtain⟨o,e,d⟩:=T.obj _ _ t7 b hb;exact(J.pin (b,o) (nV _ (nV _ (jF hb e)))).2.1
   cases ok with
   | false=>
    rw[mG mO] at q9⊢;obtain⟨m',hm,w9⟩:=hN _ _ q9;obtain⟨a1,a2,a3,a4⟩:=keep I9;exact⟨m',hm,i+1,ys,H9,its,k,(I9.pins_of (pins':=[]) (λp hp=>nomatch hp)).weak wk.1 wk.2,a1,a2,a3,v5,a4,aZ l5,w9⟩
   | true=>
    rw[mL rfl] at q9⊢;refine thn (he _ _ _ _ _ s9 σ8 H9 _ I9 q9) λu' s10 z_=>?_;obtain⟨y,H10,I10,r10,q10⟩:=z_;obtain⟨m',hm,w10⟩:=hN _ _ q10;obtain⟨a1,a2,a3,a4⟩:=keep I10;have hl:=v5.length;refine tR pH ⟨_,a4,rfl⟩ PySem.F.entry_list_append (PySem.F.args_list_append_2 _ _) (PySem.list_append s.heap.objs.size its.toArray k u' (by rw[nE];lia)) ⟨a4, ?_⟩;have q:=PySem.IsL.update a4 (λxs:Array Value=>xs.push u');have eq:its.toArray.push u'=(its++ [u']).toArray:=by simp
    rw[eq] at q;obtain⟨x1,x2⟩:=I0.ok.exf s.heap.objs.size mH;have I11:=(I10.pins_of (pins':=[]) (λp hp=>nomatch hp)).turned (it:=s.heap.objs.size) (t':=s10.toks) (h':=s10.heap.update s.heap.objs.size (Obj.mapSeq (λxs:Array Value=>xs.push u'))) (λb o hb e=>(mZ s10.heap _ (Ne.symm hb)).trans e) a3 x1 (.inl mH) x2 (λp hp=>absurd (show p∈([]:List (Addr×Obj)) from hp) (by simp));refine⟨m',hm,i+1,ys++ [y],H10,its++ [u'],_,I11.weak wk.1 wk.2, ?_,a2,a3,v5.append (.cons r10 .nil),q,by rw[mC,sB];lia,w10⟩;exact T.keep _ _ _ a1 λb hb o e=>(mZ s10.heap _ (aP (hlt b hb))).trans e
 have loop':=rQ loop (R':=λr s'=>Value.ref s.heap.objs.size= .ref s.heap.objs.size/\RR (yS s).heap.objs.size r s') λr s' z=>⟨rfl,z⟩;exact codeAny_compStart_list loop' (T.self X.A 0 _ _ _ ht0 loop')
theorem vF(S:CompSc X scope own F)(hc:X.cool=true)(hi:PI X tg iter wi)
  (hg:∀C s₃ H₃ ex,PG (xJ X own F scope C s₃ H₃ ex) tg g) (ht:∀C s₃ H₃ ex,PTs (xJ X own F scope C s₃ H₃ ex) ifs tt) (he:∀C s₃ H₃ ex,PE (xJ X own F scope C s₃ H₃ ex) elt te)
  (hs:∀x,foldedSetIterable iter X.env x=pure x:=by intro _;rfl):PE X (.ListComp elt [⟨tg,iter,ifs,0⟩] scope pos) (kN own F wi g tt te):=by
 intro pins s σ H Q I h;rw[eval_ListComp];refine wpAny_comprehension_free (use:=none) rfl hs (jY (I.freeCells S)) S.kind S.lc ?_;refine thn (hi pins s σ H _ I h) λv s1 h1=>thn h1 λitv s2 ⟨it,fp,tn,J,H2,e,I2,⟨fl,hfl,T⟩,st2,f2,q2⟩=>?_;subst e;refine thn (zHp (Q:=Q) (RR:=λC r s'=>compPost (model X.prog X.w) X.A X.xe none (EP X pins σ Q) (.ref s2.heap.objs.size) C r s') S hfl hg ht he I2 T st2 f2 q2 λC s4 H4 c1 c2 I4 q4 n4 hm=>?_) λacc s3 h3=>thn h3 λcenv s4 h4=>rQ h4 λr s' ⟨ea,hr⟩=>?_
 ·obtain⟨m,hn⟩:=hm
  exact⟨m,hn,λh' hs'=>⟨.ref s2.heap.objs.size,H4,zBp I2 c1 I4 n4 hs',rfl,q4⟩⟩
 ·rw[ea];exact hr
theorem zVp{i:Nat}{x:Str}{pos' spos:Pos}(hN:X.N.Nodup)(hi':X.N[i]? =some x)(hx:Loc X.env.scope x)(S:CompSc X scope own F)(hc:X.cool=true)(hi:PI X tg iter wi)
  (hg:∀C s₃ H₃ ex,PG (xJ X own F scope C s₃ H₃ ex) tg g) (ht:∀C s₃ H₃ ex,PTs (xJ X own F scope C s₃ H₃ ex) ifs tt) (he:∀C s₃ H₃ ex,PE (xJ X own F scope C s₃ H₃ ex) elt te)
  (hsw:swapsWith (.ListComp elt [⟨tg,iter,ifs,0⟩] scope pos) (some (.Name x pos')) spos.line X.env=pure true:=by rfl)
  (hs:∀x,foldedSetIterable iter X.env x=pure x:=by intro _;rfl) (hf:X.fn x=true\/X.env.scope.names.lookup x=some .local:=by first | exact .inl rfl | exact .inr rfl | assumption):
  PS X (.Assign [.Name x pos'] (.ListComp elt [⟨tg,iter,ifs,0⟩] scope pos) spos) (zId (kN own F wi g tt te) (vX i)):=by
 intro pins s σ H D I h;rw[exec_Assign_Name_used x pos' _ _ hsw];refine mD (sX (mD ?_));refine mD ?_;refine pU (Q:=λ_ s'=>SP X pins D .next s') ?_ (λ_ s' q=>mQ (mQ q)) λ_ _ z=>z;refine wpAny_comprehension_free (use:=some (assign (.Name x pos') X.env)) rfl hs (jY (I.freeCells S)) S.kind S.lc ?_;refine thn (hi pins s σ H _ I h) λv s1 h1=>thn h1 λitv s2 ⟨it,fp,tn,J,H2,e,I2,⟨fl,hfl,T⟩,st2,f2,q2⟩=>?_;subst e;refine thn (zHp (Q:=λx H1=>vX i x σ H1 D.nx) (RR:=λC r s'=>compPost (model X.prog X.w) X.A X.xe (some (assign (.Name x pos') X.env)) (λ_ s'=>SP X pins D .next s') (.ref s2.heap.objs.size) C r s') S hfl hg ht he I2 T st2 f2 q2 λC s4 H4 c1 c2 I4 q4 n4 hm=>?_) λacc s3 h3=>thn h3 λcenv s4 h4=>rQ h4 λr s' ⟨ea,hr⟩=>?_
 ·obtain⟨m,hn⟩:=hm
  refine wpAny_assign_Name (zDq I4 hN hi' hx (v:=.ref s2.heap.objs.size) rfl (λs5 I5 z_=>?_) hf);obtain⟨a,sb,ha⟩:=z_;have aC:a≠C:=by
   rcases ha with z | z
   ·rw[z];exact nR (mX I2.lt c1)
   ·obtain⟨v,u⟩:=I2.cell _ _ z
    exact nR (mX u.lt c1)
  exact⟨m,hn.sameBut sb (Ne.symm aC),λh' hs'=>⟨_,H4,zBp I2 c1 I5 n4 hs',q4⟩⟩
 ·rw[ea];exact hr
end
inductive T where
 | non | bl (b:Bool)| int (i:Int)| str (x:List Nat)| lst (ts:List T)| dic (ks:List (List Nat)) (ts:List T)| tup (ts:List T)
mutual
def Rep(H:Hp):V->T->Prop
 | v, .non=>v= .non
 | v, .bl b=>v= .bl b
 | v, .int i=>v= .int i
 | v, .str x=>v= .str (tx x)
 | v, .lst ts=>∃a vs,v= .ref a/\H a=some (.lst vs)/\Reps H vs ts
 | v, .dic ks ts=>∃a ps,v= .ref a/\H a=some (.dK ps)/\ps.map (·.1)=ks.map (λk=>(Sum.inr (tx k):Key))/\Reps H (ps.map (·.2)) ts
 | v, .tup ts=>∃a vs,v= .ref a/\H a=some (.tup vs)/\Reps H vs ts
def Reps(H:Hp):List V->List T->Prop
 | vs,[]=>vs= []
 | vs,t::ts=>∃v r,vs=v::r/\Rep H v t/\Reps H r ts
end
mutual
theorem Rep.same{H H':Hp}(e:Same H H'):∀(v:V)(t:T),Rep H v t->Rep H' v t
 | _, .non,h=>h
 | _, .bl _,h=>h
 | _, .int _,h=>h
 | _, .str _,h=>h
 | _, .lst ts,⟨a,vs,h1,h2,h3⟩=>⟨a,vs,h1,e _ _ h2,Reps.same e vs ts h3⟩
 | _, .dic ks ts,⟨a,ps,h1,h2,h3,h4⟩=>⟨a,ps,h1,e _ _ h2,h3,Reps.same e _ ts h4⟩
 | _, .tup ts,⟨a,vs,h1,h2,h3⟩=>⟨a,vs,h1,e _ _ h2,Reps.same e vs ts h3⟩
theorem Reps.same{H H':Hp}(e:Same H H'):∀(vs:List V)(ts:List T),Reps H vs ts->Reps H' vs ts
 | _,[],h=>h
 | _,t::ts,⟨v,r,h1,h2,h3⟩=>⟨v,r,h1,Rep.same e v t h2,Reps.same e r ts h3⟩
end
theorem Reps.snoc{H:Hp}{v:V}{t:T}(h:Rep H v t):∀{vs:List V}{ts:List T},Reps H vs ts->Reps H (vs++ [v]) (ts++ [t])
 | _,[],e=>by
  have e':_= []:=e;subst e';exact⟨v,[],rfl,h,rfl⟩
 | _,t'::ts,⟨v',r,h1,h2,h3⟩=>by
  subst h1;exact⟨v',r++ [v],rfl,h2,Reps.snoc h h3⟩
theorem Reps.length{H:Hp}:∀{vs:List V}{ts:List T},Reps H vs ts->vs.length=ts.length
 | _,[],e=>by
  have e':_= []:=e;subst e';rfl
 | _,t'::ts,⟨v',r,h1,h2,h3⟩=>by
  subst h1;simp[Reps.length h3]
theorem Reps.get{H:Hp}:∀{vs:List V}{ts:List T}{i:Nat}{v:V},Reps H vs ts->vs[i]? =some v->∃t,ts[i]? =some t/\Rep H v t
 | _,[],i,v,e,h=>by
  have e':_= []:=e;subst e';simp at h
 | _,t'::ts,0,v,⟨v',r,h1,h2,h3⟩,h=>by
  subst h1;simp at h;subst h;exact⟨t',rfl,h2⟩
 | _,t'::ts,i+1,v,⟨v',r,h1,h2,h3⟩,h=>by
  subst h1;obtain⟨t,e,q⟩:=Reps.get (i:=i) (v:=v) h3 (by simpa using h);exact⟨t,by simpa using e,q⟩
noncomputable def tyT:T->String
 | .non=>"NoneType"
 | .bl _=>"bool"
 | .int _=>"int"
 | .str _=>"str"
 | .lst _=>"list"
 | .dic _ _=>"dict"
 | .tup _=>"tuple"
theorem Rep.ty{H:Hp}{v:V}:∀{t:T},Rep H v t->tyS H v=some (tyT t)
 | .non,h=>by cases (show v= .non from h);rfl
 | .bl b,h=>by cases (show v= .bl b from h);rfl
 | .int i,h=>by cases (show v= .int i from h);rfl
 | .str x,h=>by cases (show v= .str (tx x) from h);rfl
 | .lst ts,h=>by obtain⟨a,vs,e,h2,_⟩:=h;subst e;show(match H a with | some (.lst _)=>some "list" | some (.tup _)=>some "tuple" | some (.dK _)=>some "dict" | _=>none)=_;rw[h2];rfl
 | .dic ks ts,h=>by obtain⟨a,vs,e,h2,_⟩:=h;subst e;show(match H a with | some (.lst _)=>some "list" | some (.tup _)=>some "tuple" | some (.dK _)=>some "dict" | _=>none)=_;rw[h2];rfl
 | .tup ts,h=>by obtain⟨a,vs,e,h2,_⟩:=h;subst e;show(match H a with | some (.lst _)=>some "list" | some (.tup _)=>some "tuple" | some (.dK _)=>some "dict" | _=>none)=_;rw[h2];rfl
noncomputable def vB:List Nat:=(List.range 26).map (· +97)
noncomputable def xD:List Nat:=(List.range 10).map (· +48)
noncomputable def vE:List Nat:=((List.range 95).map (· +32)).filter (· !=37)
theorem zH{H:Hp}{p:Addr}(h:H p=none)(o:HO):Same H (upd H p o):=λb u q=>by rw[zN (yJ q h)];exact q
section
variable{K:W.Frag}{H:Hp}{Q:VK}{a b:Addr}{xs ys:List V}
theorem zSe{neg:Bool}(h1:SqL K H a xs)(h2:SqL K H b ys)(f1:xs.all wK=true)(f2:ys.all wK=true)(q:Q (.bl (if neg then !zAr xs ys else zAr xs ys)) H):rEqL K neg (.ref a) (.ref b) H Q:=
 ⟨a,b,xs,ys,rfl,rfl,h1,h2,f1,f2,q⟩
theorem zZ{i:Int}{v:V}(h1:SqL K H a xs)(h2:atI xs i=some v)(q:Q v H):zDi K (.ref a) (.int i) H Q:=⟨a,xs,i,v,rfl,rfl,h1,h2,q⟩
theorem yD{i:Int}{v:V}(h1:SqT K H a xs)(h2:atI xs i=some v)(q:Q v H):zNb K (.ref a) (.int i) H Q:=⟨a,xs,i,v,rfl,rfl,h1,h2,q⟩
theorem xU{z:Str}{i:Int}{c:Nat}(h1:z.length<=sizeLine)(h2:atI (ts z) i=some c)(q:Q (.str (tx [c])) H):rIxS (.str z) (.int i) H Q:=⟨z,i,c,rfl,rfl,h1,h2,q⟩
end
theorem wD{α:Type}{xs:List α}{i:Int}(h0:0<=i)(h1:i<xs.length):∃v,atI xs i=some v/\v∈xs:=by
 obtain⟨j,rfl⟩:=tL h0;have hj:j<xs.length:=by lia
 exact⟨xs[j],yF (by simp[hj]),cW hj⟩
theorem zTc{α:Type}{xs:List α}{i:Int}{d:α}(h0:0<=i)(h1:i<xs.length):atI xs i=some (xs.getD i.toNat d):=by
 obtain⟨j,rfl⟩:=tL h0;have hj:j<xs.length:=by lia
 refine yF ?_;simp[List.getD,hj]
theorem zGh{x:Str}{F:List (Str×Nat)}{J:It}{n:Nat}{tt:TT}{te:TE}{σ:St}{Q:VK}{H1:Hp}(Pv:Nat->List V->Hp->Prop)(hn:n<=sizeLine)(h0:Pv 0 [] H1)(hgo:∀i ys H,i<n->Pv i ys H->J.go i H)
  (hst:∀ys H,Pv n ys H->J.stop n H)
  (hs:∀i ys H y H2,i<n->ys.length<=i->Pv i ys H->J.yld i H y H2->tt (some y::F.map (λp=>(σ[p.2]?).join)) H2 λb H3=>if b=true then te (some y::F.map (λp=>(σ[p.2]?).join)) H3 λz H4=>Pv (i+1) (ys++ [z]) H4 else Pv (i+1) ys H3)
  (hd:∀ys H,ys.length<=n->Pv n ys H->∀p,H p=none->Q (.ref p) (upd H p (.lst ys))):qM [x] F (vX 0) tt te σ Q J H1:=by
 refine⟨λi m ys H=>m=n - i/\i<=n/\Pv i ys H,⟨n,by simp,pW _,h0⟩, ?_⟩;rintro i m ys H ⟨rfl,hi,p⟩ hl
 by_cases hlt:i<n
 ·refine .inr ⟨hgo i ys H hlt p,by lia,Pv (i+1),λys' H'' q=>⟨n - (i+1),by lia,rfl,hlt,q⟩,λy H2 hy=>?_⟩
  exact⟨zRp (i:=0) rfl,hs i ys H y H2 hlt hl p hy⟩
 ·have e:i=n:=by lia
  subst e;exact .inl ⟨hst ys H p,hn,hd ys H hl p⟩
theorem zIl{x:Str}{F:List (Str×Nat)}{lo:Int}{n:Nat}{te:TE}{σ:St}{Q:VK}{H1:Hp}(Pv:Nat->List V->Hp->Prop)(hn:n<=sizeLine)(h0:Pv 0 [] H1)
  (hs:∀(i:Nat) ys H,i<n->ys.length<=i->Pv i ys H->te (some (.int (lo+i))::F.map (λp=>(σ[p.2]?).join)) H λz H4=>Pv (i+1) (ys++ [z]) H4)
  (hd:∀ys H,ys.length<=n->Pv n ys H->∀p,H p=none->Q (.ref p) (upd H p (.lst ys))):qM [x] F (vX 0) zEb te σ Q (Itr lo n) H1:=
 zGh Pv hn h0 (λi _ _ h _=>h) (λ_ _ _=>mK _) (λi ys H y H2 h1 h2 h3 h4=>by
  obtain⟨rfl,rfl⟩:=h4;exact hs i ys _ h1 h2 h3) hd
theorem zBe{x:Str}{F:List (Str×Nat)}{w:Str}{tt:TT}{te:TE}{σ:St}{Q:VK}{H1:Hp}(Pv:Nat->List V->Hp->Prop)(hn:(ts w).length<=sizeLine)(h0:Pv 0 [] H1)
  (hs:∀i c ys H,(ts w)[i]? =some c->ys.length<=i->Pv i ys H->tt (some (.str (tx [c]))::F.map (λp=>(σ[p.2]?).join)) H λb H3=>if b=true then te (some (.str (tx [c]))::F.map (λp=>(σ[p.2]?).join)) H3 λz H4=>Pv (i+1) (ys++ [z]) H4 else Pv (i+1) ys H3)
  (hd:∀ys H,ys.length<=(ts w).length->Pv (ts w).length ys H->∀p,H p=none->Q (.ref p) (upd H p (.lst ys))):qM [x] F (vX 0) tt te σ Q (Its w) H1:=
 zGh Pv hn h0 (λi _ _ h _=>h) (λ_ _ _=>mK _) (λi ys H y H2 h1 h2 h3 h4=>by
  obtain⟨rfl,c,hc,rfl⟩:=h4;exact hs i c ys _ hc h2 h3) hd
section
variable{X:Cx}{x:Str}{pos:Pos}
theorem kQ{z:Str}(hg:Gl X x)(h:∃t,X.mg x=some (.str z t))(hd:(x==("__debug__" :Str))=false:=by decide):PE X (.Name x pos) (tC (.str z)):=by
 obtain⟨t,h⟩:=h;exact jK hg h ⟨t,rfl⟩ hd
theorem qN{z:Int}(hg:Gl X x)(h:∃t,X.mg x=some (.int z t))(hd:(x==("__debug__" :Str))=false:=by decide):PE X (.Name x pos) (tC (.int z)):=by
 obtain⟨t,h⟩:=h;exact jK hg h ⟨t,rfl⟩ hd
end
theorem zQh{CX:CXT}{P:Program}{w:World}{K:W.Frag}{mg:Str->Option Value}{base:Heap}{N:List Str}{qual:Str}{scope:Scope}{f:Addr}{cd:Value}{A:Around}{outer:List Env}{s:Shared}{H:Hp}{E:XK}:(zCs CX P w K mg base N qual scope f cd A outer s H E).K=K:=rfl
theorem zWz{X:Cx}:X.nox.K=X.K:=rfl
theorem zIw{X:Cx}{own:List Str}{F:List (Str×Nat)}{scope:Scope}{C:Addr}{s₃:Shared}{H₃:Hp}{ex:List Addr}:(xJ X own F scope C s₃ H₃ ex).K=X.K:=rfl
theorem zOc(ns:List Int):(ns.map V.int).all wK=true:=by
 rw[aT];exact pX.mpr λ_ _=>rfl
theorem zEg(ns:List Str):(ns.map V.str).all wK=true:=by
 rw[aT];exact pX.mpr λ_ _=>rfl
theorem zRm(xs:List V):zAr xs []=xs.isEmpty:=by cases xs<;>rfl
end L2
namespace L2
theorem zIm:Int.natAbs 10=10:=rfl
end L2
namespace L2
open PySem PySem.Spec PyProof.Rows
def zXk(g:TG)(tb:TS)(D:uN)(σ:St)(J:It)(H1:Hp):Prop:=∃W:Nat->Nat->St->Hp->Prop,(∃m,W 0 m σ H1)/\∀i m σ H,W i m σ H->
 (J.stop i H/\D.nx σ H)\/(J.go i H/\∃N:St->Hp->Prop,(∀σ' H',N σ' H'->∃m',m'<m/\W (i+1) m' σ' H')/\∀x H',J.yld i H x H'->g x σ H' λσ2 H2=>tb {D with nx:=N,ct:=N,bk:=D.nx} σ2 H2)
theorem zMg(wi:TI)(g:TG)(tb:TS)(D:uN)(σ:St)(H:Hp):tFor wi g tb D σ H=wi σ H λJ H1=>zXk g tb D σ J H1:=rfl
theorem qU{lo:Int}{n:Nat}{g:TG}{tb:TS}{D:uN}{σ:St}{H:Hp}(Pv:Nat->St->Hp->Prop)(h0:Pv 0 σ H)
  (hs:∀i σ H,i<n->Pv i σ H->g (.int (lo+i)) σ H λσ2 H2=>tb {D with nx:=Pv (i+1),ct:=Pv (i+1),bk:=D.nx} σ2 H2) (hd:∀σ H,Pv n σ H->D.nx σ H):zXk g tb D σ (Itr lo n) H:=zOj Pv h0 hs hd
theorem zNr{K:W.Frag}{a:Addr}{xs:List V}{g:TG}{tb:TS}{D:uN}{σ:St}{H:Hp}(Pv:Nat->St->Hp->Prop)(h0:Pv 0 σ H)(hl:∀i σ H,i<=xs.length->Pv i σ H->SqL K H a xs)
  (hs:∀i x σ H,xs[i]? =some x->Pv i σ H->g x σ H λσ2 H2=>tb {D with nx:=Pv (i+1),ct:=Pv (i+1),bk:=D.nx} σ2 H2) (hd:∀σ H,Pv xs.length σ H->D.nx σ H):zXk g tb D σ (Itl K a) H:=zQo Pv h0 hl hs hd
section
variable{X:Cx}
theorem yX:xY X (.type "int") (λxs H Q=>∃k,xs= [.bl k]/\Q (.int (if k then 1 else 0)) H):=λpins s σ H xs us Q I r h=>zNy pins s σ H xs us Q I r (.inr h)
theorem yI:xY X (.builtin "len") (λxs H Q=>∃p,xs= [.ref p]/\∃ys,SqL X.K H p ys/\Q (.int ys.length) H):=λpins s σ H xs us Q I r ⟨p,e,ys,h,q⟩=>zGo pins s σ H xs us Q I r ⟨p,ys,e, .inl h,q⟩
end
abbrev nK(k:List Nat):Key:=Sum.inr (tx k)
theorem zKm{a b:List Nat}(h:nK a=nK b):a=b:=by
 have e:tx a=tx b:=Sum.inr.inj h;rw[<-yK a,e,yK]
theorem qH(c k:Nat):(List.replicate k [c]).flatten=List.replicate k c:=by
 induction k with
 | zero=>rfl
 | succ k ih=>rw[pA,tX,ih,pA];rfl
theorem zRd{c:Nat}(h:c∈vB):c∈vB++xD:=sH _ h
end L2
namespace L2
end L2
namespace L2
open PySem PySem.Spec PyProof.Rows
theorem zQp:39∈vE:=by decide
theorem HOk.sim{P:Program}{w:World}{H H':Hp}{h:Heap}(ok:HOk P w H h)(ho:∀b a,H b=some (.own a)->H' b=some (.own a))(ht:∀b xs,H b=some (.tup xs)->H' b=some (.tup xs))
  (hs:∀b u,H' b=some u->H b=some u\/(∃o,H b=some (.frz o u))\/∃o u',u= .frz o u'/\H b=some u'/\h.get? b=some o):HOk P w H' h:=λb u e=>by
 rcases hs b u e with q |⟨o,q⟩|⟨o,u',rfl,q,g⟩
 ·exact(ok b u q).stay (λ_ _ _ z=>z) (λc z=>ho c b z) λc xs z=>ht c xs z
 ·obtain⟨_,z⟩:=(show ObjOk P w H h b (.frz o u) from ok b _ q)
  exact z.stay (λ_ _ _ z=>z) (λc z=>ho c b z) λc xs z=>ht c xs z
 ·exact⟨g,(ok b u' q).stay (λ_ _ _ z=>z) (λc z=>ho c b z) λc xs z=>ht c xs z⟩
section
variable{X:Cx}{pins:List (Addr×Obj)}{σ σ':St}{H H':Hp}{s s':Shared}
theorem Inv.sim(I:Inv X pins σ H s)(hn:∀b,H b=none->H' b=none)(ho:∀b a,H b=some (.own a)->H' b=some (.own a))(ht:∀b xs,H b=some (.tup xs)->H' b=some (.tup xs))
  (hb:∀b ps,H b=some (.tbl ps)->H' b=some (.tbl ps)) (hf:∀b o u,X.H₀ b=some (.frz o u)->H' b=some (.frz o u))
  (hs:∀b u,H' b=some u->H b=some u\/(∃o,H b=some (.frz o u))\/∃o u',u= .frz o u'/\H b=some u'/\s.heap.get? b=some o):Inv X pins σ H' s:=
 ⟨I.ok,I.os,I.bare,⟨I.base.keep,I.base.slot,λb o e n hx=>hn b (I.base.free b o e n hx),I.base.there,λb xs e=>ht b xs (I.base.tups b xs e),hf,λb ps e=>by
  obtain⟨m,q⟩:=I.base.tbls b ps e;exact⟨m,hb b _ q⟩⟩,I.loc,I.cell,hn _ I.free,λx c e=>hn _ (I.freeC x c e),λp hp=>by
  obtain⟨a,b,c,d,e⟩:=I.pin p hp;exact⟨a,hn _ b,c,d,e⟩,I.hok.sim ho ht hs,I.len⟩
theorem Inv.freeze{d:Addr}{kvs:List (Key×V)}{o:Obj}(I:Inv X pins σ H s)(h:H d=some (.dK kvs))(hg:s.heap.get? d=some o):Inv X pins σ (upd H d (.frz o (.dK kvs))) s:=by
 have ne:∀b u,H b=u->u≠some (.dK kvs)->b≠d:=λb u e n z=>by subst z;exact n (e.symm.trans h)
 refine I.sim (λb e=>by rw[zN (ne b _ e (by intro z;cases z))];exact e) (λb a e=>by rw[zN (ne b _ e (by intro z;cases z))];exact e) (λb a e=>by rw[zN (ne b _ e (by intro z;cases z))];exact e)
  (λb a e=>by rw[zN (ne b _ e (by intro z;cases z))];exact e) (λb o' u e=>?_) λb u e=>?_
 ·have e':=I.base.frzs b o' u e
  rw[zN (ne b _ e' (by intro z;cases z))];exact e'
 ·by_cases hb:b=d
  ·subst hb
   rw[zF] at e;cases e;exact .inr (.inr ⟨o,_,rfl,h,hg⟩)
  ·rw[zN hb] at e;exact .inl e
def thaw(H H':Hp):Hp:=λb=>match H b with
 | some (.frz _ _)=>H' b
 | _=>match H' b with
  | some (.frz _ u)=>some u
  | y=>y
theorem zHn{b:Addr}{o:Obj}{u:HO}(h:H b=some (.frz o u)):thaw H H' b=H' b:=by unfold thaw;rw[h]
theorem zNg{b:Addr}(h:H' b=none):thaw H H' b=none:=by unfold thaw;rw[h];split<;>rfl
theorem uL{b:Addr}{u:HO}(h:H' b=some u)(n:∀o v,u≠ .frz o v):thaw H H' b=some u:=by
 unfold thaw;rw[h];split
 ·rfl
 ·cases u<;>first | rfl | exact absurd rfl (n _ _)
theorem zUu{b:Addr}{o:Obj}{u:HO}(h:H' b=some (.frz o u))(n:∀o v,H b≠some (.frz o v)):thaw H H' b=some u:=by
 unfold thaw;rw[h]
 cases e:H b with
 | none=>rfl
 | some v=>cases v<;>first | rfl | exact absurd e (n _ _)
theorem zQd{b:Addr}{u:HO}(h:thaw H H' b=some u):H' b=some u\/∃o,H' b=some (.frz o u):=by
 unfold thaw at h;split at h
 ·exact .inl h
 ·split at h
  ·rename_i o v e
   cases h;exact .inr ⟨_,e⟩
  ·exact .inl h
theorem Inv.thaw(I:Inv X pins σ H s)(J:Inv X pins σ' H' s'):Inv X pins σ' (thaw H H') s':=
 J.sim (λb e=>zNg e) (λb a e=>uL e (by intro o v z;cases z)) (λb a e=>uL e (by intro o v z;cases z)) (λb a e=>uL e (by intro o v z;cases z))
  (λb o u e=>by rw[zHn (I.base.frzs b o u e)];exact J.base.frzs b o u e) λb u e=>(zQd e).imp id .inl
theorem zOx{H H':Hp}(h:∀b u,H b=some u->H' b=some u\/((∃o,H' b=some (.frz o u))/\∀o v,u≠ .frz o v)):Same H (L2.thaw H H'):=λb u e=>by
 rcases h b u e with q |⟨⟨o,q⟩,n⟩
 ·cases u with
  | frz o v=>rw[zHn e];exact q
  | _=>exact uL q (by intro o v z;cases z)
 ·refine zUu q λo' v z=>?_
  rw[e] at z;cases z;exact n _ _ rfl
def zHt(t:TE):TE:=λσ H Q=>t σ H λv H'=>Q v (thaw H H')
theorem zGl{e:Expr}{t:TE}(h:PE X e t):PE X e (zHt t):=by
 intro pins s σ H Q I q;refine thn (h pins s σ H _ I q) λu s1 z_=>?_;obtain⟨v,H1,I1,r,q1⟩:=z_;exact ⟨v,_,I.thaw I1,r,q1⟩
end
theorem KV.get{κ:Type}:∀{kvs:List (κ×V)}{vs:List (κ×Value)}{i:Nat}{kv:κ×V},KV kvs vs->kvs[i]? =some kv->∃q,vs[i]? =some q/\kv.1=q.1/\RelV kv.2 q.2
 | _,_,_,_, .nil,e=>by simp at e
 | _,_,0,_, .cons r _,e=>by simp at e;subst e;exact⟨_,rfl,r⟩
 | _,_,i+1,x, .cons _ t,e=>by
  obtain⟨u,h1,h2⟩:=KV.get (i:=i) (kv:=x) t (by simpa using e);exact⟨u,by simpa using h1,h2⟩
theorem zMj{P:Program}{w:World}{k:Key}{u:Value}(h:(yR P w).is k u=true):RelV (kV k) u:=by
 rcases xA (show zBg k u=true from h) with⟨i,t,rfl,rfl⟩|⟨x,t,rfl,rfl⟩
 ·exact⟨t,rfl⟩
 ·exact⟨t,rfl⟩
theorem zDt{P:Program}{w:World}{H:Hp}{h:Heap}{d:Addr}{o:Obj}{kvs:List (Key×V)}{es:Array DictEntry}{ep:Nat}(ok:HOk P w H h)(e:H d=some (.frz o (.dK kvs)))(he:o.data= .dict es ep):
  ∃vs,KV kvs vs/\h.DictAt (yR P w) d vs ep/\(d==sysModules)=false/\kvs.length<=sizeLine:=by
 obtain⟨g,z,hd,vs,rel,o',es',ep',ho,c,hdat,r⟩:=(show ObjOk P w H h d (.frz o (.dK kvs)) from ok d _ e);rw[g] at ho;cases ho;rw[he] at hdat;cases hdat;exact⟨vs,rel,⟨o,es,g,c,he,r⟩,hd,z⟩
def Itd(d:Addr)(o:Obj)(kvs:List (Key×V)):It:=
 ⟨λi H=>i<kvs.length/\H d=some (.frz o (.dK kvs)),λi H y H'=>H'=H/\∃kv,kvs[i]? =some kv/\y=kV kv.1,λi H=>kvs.length<=i/\H d=some (.frz o (.dK kvs))⟩
theorem zNn{P:Program}{w:World}{K:W.Frag}{tg:Expr}(d it:Addr)(o:Obj)(kvs:List (Key×V)):Turn P w K tg (Itd d o kvs) [it] it (λi h=>∃es ep,o.data= .dict es ep/\h.IsKeyIter it d i kvs.length ep) where
 mem:=by simp
 obj:=λi h st b hb=>by
  obtain⟨es,ep,_,ob,e,c,dd⟩:=st;have e':b=it:=by simpa using hb
  subst e';exact⟨ob,e,λv z=>by rw[dd] at z;cases z⟩
 keep:=λi h h' st k=>by
  obtain⟨es,ep,a,st⟩:=st;exact⟨es,ep,a,st.at λob e=>k it (by simp) ob e⟩
 item:=by
  intro X hP hw hK hc i pins s σ H E I hf st hg;subst hP hw hK;obtain⟨es,ep,hes,st⟩:=st;obtain⟨hi,hg⟩:=hg;obtain⟨vs,rel,hm,_,_⟩:=zDt I.hok hg hes;obtain⟨f0,f1,f2,f3,f4,f5⟩:=hf it (by simp);have hl:=rel.length;obtain⟨kv,hkv⟩:∃kv,kvs[i]? =some kv:=⟨kvs[i],by simp[hi]⟩;obtain⟨q,hq,hq1,hq2⟩:=KV.get rel hkv;rw[hl] at st;refine wpAny_pyNext_dict_item (k:=q.1) (v:=q.2) st hm hq λkey h' hk st' sb=>?_;have I1:Inv X pins σ H {s with heap:=h'}:=I.turned (t':=s.toks) (λb o hb e=>(sb.2 b hb).trans e) f0 f1 f3 f4 f5;obtain⟨ob,e,c,dd⟩:=id st';exact⟨key,rfl,zMu (s:={s with heap:=h'}) e c dd (by decide) ⟨kV kv.1,H,I1,by rw[hq1];exact zMj hk,⟨rfl,kv,hkv,rfl⟩,⟨es,ep,hes,by rw[hl];exact st'⟩,λb hb=>(hf b hb).1⟩⟩
 done:=by
  intro X hP hw hK hc i pins s σ H E I hf st hg;subst hP hw hK;obtain⟨es,ep,hes,st⟩:=st;obtain⟨hi,hg⟩:=hg;obtain⟨vs,rel,hm,_,_⟩:=zDt I.hok hg hes;obtain⟨f0,f1,f2,f3,f4,f5⟩:=hf it (by simp);have hl:=rel.length;rw[hl] at st;exact wpAny_pyNext_dict_end (I.ok.hd.1 hc) st hm (by simp;lia) λh' eb=>⟨rfl,I.turned (t':=s.toks) (λb o hb e=>eb b o hb e) f0 f1 f3 f4 f5⟩
 self:=λ_ _ _ _ _ st h=>by
  obtain⟨es,ep,_,st⟩:=st;exact wpAny_pyIter_keyiter st h
def zIr(tl:TE):TI:=λσ H R=>tl σ H λx H1=>∃d kvs,x= .ref d/\((H1 d=some (.dK kvs)/\∀o,R (Itd d o kvs) (upd H1 d (.frz o (.dK kvs))))\/∃o,H1 d=some (.frz o (.dK kvs))/\R (Itd d o kvs) H1)
section
variable{X:Cx}
theorem zGk{tg l:Expr}{tl:TE}(hl:PE X l tl)(hcl:X.calm=true:=by rfl):PI X tg l (zIr tl):=by
 intro pins s σ H R I h;refine thn (hl pins s σ H _ I h) λv s1 z_=>?_;obtain⟨x,H1,I1,r1,q1⟩:=z_;obtain⟨d,kvs,rfl,q⟩:=q1;cases r1;have fin:∀o H2,Inv X pins σ H2 s1->H2 d=some (.frz o (.dK kvs))->R (Itd d o kvs) H2->wpAny (model X.prog X.w) X.A (pyIter (.ref d)) (PIE X pins σ tg R) X.xe s1:=λo H2 I2 e q=>by
  obtain⟨g,z,hd,vs,rel,o',es,ep,ho,c,hdat,r⟩:=(show ObjOk X.prog X.w H2 s1.heap d (.frz o (.dK kvs)) from I2.hok d _ e);rw[g] at ho;cases ho;have hm:s1.heap.DictAt (yR X.prog X.w) d vs ep:=⟨o,es,g,c,hdat,r⟩;refine wpAny_pyIter_dict hd hm ?_;refine⟨s1.heap.objs.size,[s1.heap.objs.size],_,_,H2,rfl,I2.kept (t':=s1.toks) λb o e=>mI _ e,⟨false,hcl,zNn d _ o kvs⟩,⟨es,ep,hdat,_,nI _ rfl,rfl,by rw[rel.length];rfl⟩,λb hb=>?_,q⟩;have e:b=s1.heap.objs.size:=by simpa using hb
  subst e;exact I2.fpOk (mK _) (I2.hok.fresh (mK _))
 rcases q with⟨e,q⟩|⟨o,e,q⟩
 ·obtain⟨z,hd,vs,rel,o,es,ep,ho,_⟩:=(show ObjOk X.prog X.w H1 s1.heap d (.dK kvs) from I1.hok d _ e)
  exact fin o _ (I1.freeze e ho) zF (q o)
 ·exact fin o _ I1 e q
theorem zOe{x:Str}{F:List (Str×Nat)}{d:Addr}{o:Obj}{kvs:List (Key×V)}{tt:TT}{te:TE}{σ:St}{Q:VK}{H1:Hp}(Pv:Nat->List V->Hp->Prop)(hn:kvs.length<=sizeLine)(h0:Pv 0 [] H1)(hz:∀i ys H,Pv i ys H->H d=some (.frz o (.dK kvs)))
  (hs:∀i kv ys H,kvs[i]? =some kv->ys.length<=i->Pv i ys H->tt (some (kV kv.1)::F.map (λp=>(σ[p.2]?).join)) H λb H3=>if b=true then te (some (kV kv.1)::F.map (λp=>(σ[p.2]?).join)) H3 λz H4=>Pv (i+1) (ys++ [z]) H4 else Pv (i+1) ys H3)
  (hd:∀ys H,ys.length<=kvs.length->Pv kvs.length ys H->∀p,H p=none->Q (.ref p) (upd H p (.lst ys))):qM [x] F (vX 0) tt te σ Q (Itd d o kvs) H1:=
 zGh Pv hn h0 (λi ys H h p=>⟨h,hz i ys H p⟩) (λys H p=>⟨mK _,hz _ ys H p⟩) (λi ys H y H2 h1 h2 h3 h4=>by
  obtain⟨rfl,kv,hkv,rfl⟩:=h4;exact hs i kv ys _ hkv h2 h3) hd
noncomputable def valsO(p d:Addr):HO:=.ext λh=>h.IsValuesView p d
def zLg:V->List V->Hp->VK->Prop:=λx vs H Q=>∃d kvs,x= .ref d/\vs= []/\Rd H d (.dK kvs)/\∀p,H p=none->Q (.ref p) (upd H p (valsO p d))
end
section
variable{prog:Program}{w:World}{A:Around}{E:Value->Shared->Prop}
end
section
variable{X:Cx}
end
structure Bl2(mg:Str->Option Value):Prop extends Bl mg where
 max:mg "max" =none
 min:mg "min" =none
 sorted:mg "sorted" =none
noncomputable def mxI(b z:Int):Int:=if z>b then z else b
noncomputable def mxD(k:Int):List Int->Int
 | []=>k
 | b::r=>r.foldl mxI b
section
variable{prog:Program}{w:World}{A:Around}
end
section
variable{X:Cx}
def zIu(K:W.Frag):V->V->Hp->VK->Prop:=λx y H Q=>∃(p:Addr)(ns:List Int)(k:Int),x= .ref p/\y= .int k/\SqL K H p (ns.map V.int)/\Q (.int (mxD k ns)) H
variable{e d:Expr}{te td:TE}{p kp pos:Pos}
def zKy(K:W.Frag)(te td:TE):TE:=λσ H Q=>te σ H λx H1=>td σ H1 λy H2=>zIu K x y H2 Q
end
end L2
namespace L2
open PySem PySem.Spec PyProof.Rows
mutual
noncomputable def T.dep:T->Nat
 | .lst ts=>T.deps ts+1
 | .dic _ ts=>T.deps ts+1
 | .tup ts=>T.deps ts+1
 | .non=>0
 | .bl _=>0
 | .int _=>0
 | .str _=>0
noncomputable def T.deps:List T->Nat
 | []=>0
 | t::ts=>max (T.dep t) (T.deps ts)
end
mutual
def T.pure:T->Prop
 | .tup _=>False
 | .lst ts=>T.pures ts
 | .dic ks ts=>ks.Nodup/\T.pures ts
 | .non=>True
 | .bl _=>True
 | .int _=>True
 | .str _=>True
def T.pures:List T->Prop
 | []=>True
 | t::ts=>T.pure t/\T.pures ts
end
theorem T.deps_le{t:T}:∀{ts:List T},t∈ts->T.dep t<=T.deps ts
 | [],h=>nomatch h
 | u::ts,h=>by
  show T.dep t<=max (T.dep u) (T.deps ts);rcases mF.mp h with e | e
  ·subst e;exact Nat.le_max_left _ _
  ·exact nN (T.deps_le e) (Nat.le_max_right _ _)
section
variable{P:Program}{w:World}
open AutoSeq1 (wpAny_loadPart')
open MeetsSeq MeetsSeq2 MeetsSeq3 SeqRoads2 SeqAt
end
section
variable{X:Cx}{pins:List (Addr×Obj)}{σ:St}{H:Hp}{s:Shared}
theorem zIk{ks:List (List Nat)}(h:ks.Nodup):(ks.map nK).Nodup:=by
 induction ks with
 | nil=>exact List.nodup_nil
 | cons k r ih=>
  rw[pE] at h;rw[nD,pE];refine⟨λhm=>?_,ih h.2⟩;obtain⟨k',hk,e⟩:=sU.mp hm;exact h.1 (zKm e▸hk)
def rEq0(K:W.Frag)(neg:Bool):R2:=λx y H Q=>∃a b xs,x= .ref a/\y= .ref b/\SqL K H a xs/\SqL K H b []/\Q (.bl (if neg then !xs.isEmpty else xs.isEmpty)) H
theorem zVy(hu:X.A.units<cLine):OpR X (compareOp .Eq) (rEq0 X.K false):=by
 intro pins s σ H x y v u Q I rx ry h;obtain⟨a,b,xs,rfl,rfl,ha,hb,q⟩:=h;cases rx;cases ry;obtain⟨us,r1,pl1,_⟩:=I.list ha;obtain⟨vs,r2,pl2,_⟩:=I.list hb;cases r2
 cases xs with
 | nil=>
  cases r1;exact SeqAt.eq_listAt (e:=λ_=>true) pl1.isList pl2.isList rfl hu (λj h1=>absurd h1 (by simp)) ⟨.bl true,H,I,rfl,q⟩
 | cons x xs=>
  have n1:=r1.length;exact SeqAt.eq_list_lengthsAt pl1.isList pl2.isList (by simp[<-n1]) hu ⟨.bl false,H,I,rfl,q⟩
end
end L2
namespace L2
open PySem PySem.Spec PyProof.Rows
mutual
noncomputable def T.sz:T->Nat
 | .lst ts=>T.szs ts+1
 | .dic _ ts=>T.szs ts+1
 | .tup ts=>T.szs ts+1
 | .non=>1
 | .bl _=>1
 | .int _=>1
 | .str _=>1
noncomputable def T.szs:List T->Nat
 | []=>0
 | t::ts=>T.sz t+T.szs ts
end
mutual
def Occ(H:Hp)(d:Addr):V->T->Prop
 | v, .lst ts=>v= .ref d\/∃a vs,v= .ref a/\H a=some (.lst vs)/\Occs H d vs ts
 | v, .dic _ ts=>v= .ref d\/∃a ps,v= .ref a/\H a=some (.dK ps)/\Occs H d (ps.map (·.2)) ts
 | v, .tup ts=>v= .ref d\/∃a vs,v= .ref a/\H a=some (.tup vs)/\Occs H d vs ts
 | _, .non=>False
 | _, .bl _=>False
 | _, .int _=>False
 | _, .str _=>False
def Occs(H:Hp)(d:Addr):List V->List T->Prop
 | v::vs,t::ts=>Occ H d v t\/Occs H d vs ts
 | _,_=>False
end
mutual
theorem Rep.away{H:Hp}{d:Addr}{o:HO}:∀(x:V)(t:T),Rep H x t->¬Occ H d x t->Rep (upd H d o) x t
 | _, .non,h,_=>h
 | _, .bl _,h,_=>h
 | _, .int _,h,_=>h
 | _, .str _,h,_=>h
 | x, .lst ts,⟨a,vs,e,ha,hs⟩,n=>by
  have ne:a≠d:=λz=>n (.inl (by rw[e,z]));exact⟨a,vs,e,by rw[zN ne];exact ha,Reps.away vs ts hs λz=>n (.inr ⟨a,vs,e,ha,z⟩)⟩
 | x, .dic ks ts,⟨a,ps,e,ha,hk,hs⟩,n=>by
  have ne:a≠d:=λz=>n (.inl (by rw[e,z]));exact⟨a,ps,e,by rw[zN ne];exact ha,hk,Reps.away _ ts hs λz=>n (.inr ⟨a,ps,e,ha,z⟩)⟩
 | x, .tup ts,⟨a,vs,e,ha,hs⟩,n=>by
  have ne:a≠d:=λz=>n (.inl (by rw[e,z]));exact⟨a,vs,e,by rw[zN ne];exact ha,Reps.away vs ts hs λz=>n (.inr ⟨a,vs,e,ha,z⟩)⟩
theorem Reps.away{H:Hp}{d:Addr}{o:HO}:∀(xs:List V)(ts:List T),Reps H xs ts->¬Occs H d xs ts->Reps (upd H d o) xs ts
 | _,[],h,_=>h
 | _,t::ts,⟨x,xr,e,h1,h2⟩,n=>by
  subst e;exact⟨x,xr,rfl,Rep.away x t h1 λz=>n (.inl z),Reps.away xr ts h2 λz=>n (.inr z)⟩
end
mutual
theorem Occ.sub{H:Hp}{d:Addr}:∀(x:V)(t:T),Rep H x t->Occ H d x t->∃t',Rep H (.ref d) t'/\T.sz t'<=T.sz t
 | _, .non,_,h=>h.elim
 | _, .bl _,_,h=>h.elim
 | _, .int _,_,h=>h.elim
 | _, .str _,_,h=>h.elim
 | x, .lst ts,hr,h=>by
  rcases h with e |⟨a,vs,e,ha,h⟩
  ·exact⟨.lst ts,e▸hr,mK _⟩
  ·obtain⟨a',vs',e',ha',hs⟩:=hr
   rw[e] at e';cases e';rw[ha] at ha';cases ha';obtain⟨t',q,l⟩:=Occs.sub vs ts hs h;exact⟨t',q,aZ l⟩
 | x, .dic ks ts,hr,h=>by
  rcases h with e |⟨a,vs,e,ha,h⟩
  ·exact⟨.dic ks ts,e▸hr,mK _⟩
  ·obtain⟨a',vs',e',ha',_,hs⟩:=hr
   rw[e] at e';cases e';rw[ha] at ha';cases ha';obtain⟨t',q,l⟩:=Occs.sub _ ts hs h;exact⟨t',q,aZ l⟩
 | x, .tup ts,hr,h=>by
  rcases h with e |⟨a,vs,e,ha,h⟩
  ·exact⟨.tup ts,e▸hr,mK _⟩
  ·obtain⟨a',vs',e',ha',hs⟩:=hr
   rw[e] at e';cases e';rw[ha] at ha';cases ha';obtain⟨t',q,l⟩:=Occs.sub vs ts hs h;exact⟨t',q,aZ l⟩
theorem Occs.sub{H:Hp}{d:Addr}:∀(xs:List V)(ts:List T),Reps H xs ts->Occs H d xs ts->∃t',Rep H (.ref d) t'/\T.sz t'<=T.szs ts
 | xs,[],_,h=>by cases xs<;>exact h.elim
 | _,t::ts,⟨x,xr,e,h1,h2⟩,h=>by
  subst e;rcases h with h | h
  ·obtain⟨t',q,l⟩:=Occ.sub x t h1 h
   exact⟨t',q,nN l (bJ _ _)⟩
  ·obtain⟨t',q,l⟩:=Occs.sub xr ts h2 h
   exact⟨t',q,nN l (aN _ _)⟩
end
theorem zLb:∀{a b:List (List Nat)},a.map nK=b.map nK->a=b
 | [],[],_=>rfl
 | [],_::_,h=>by simp at h
 | _::_,[],h=>by simp at h
 | x::a,y::b,h=>by
  rw[nD,nD] at h;injection h with h1 h2;rw[zKm h1,zLb h2]
mutual
theorem Rep.one{H:Hp}:∀(t:T)(x:V)(t':T),Rep H x t->Rep H x t'->t=t'
 | .non,x,t',h,h'=>by
  cases (show x= .non from h)
  cases t' with
  | non=>rfl
  | bl b=>cases (show V.non= .bl b from h')
  | int b=>cases (show V.non= .int b from h')
  | str b=>cases (show V.non= .str (tx b) from h')
  | lst ts=>obtain⟨a,vs,e,_⟩:=h';cases e
  | dic ks ts=>obtain⟨a,vs,e,_⟩:=h';cases e
  | tup ts=>obtain⟨a,vs,e,_⟩:=h';cases e
 | .bl c,x,t',h,h'=>by
  cases (show x= .bl c from h)
  cases t' with
  | non=>cases (show V.bl c= .non from h')
  | bl b=>cases (show V.bl c= .bl b from h');rfl
  | int b=>cases (show V.bl c= .int b from h')
  | str b=>cases (show V.bl c= .str (tx b) from h')
  | lst ts=>obtain⟨a,vs,e,_⟩:=h';cases e
  | dic ks ts=>obtain⟨a,vs,e,_⟩:=h';cases e
  | tup ts=>obtain⟨a,vs,e,_⟩:=h';cases e
 | .int c,x,t',h,h'=>by
  cases (show x= .int c from h)
  cases t' with
  | non=>cases (show V.int c= .non from h')
  | bl b=>cases (show V.int c= .bl b from h')
  | int b=>cases (show V.int c= .int b from h');rfl
  | str b=>cases (show V.int c= .str (tx b) from h')
  | lst ts=>obtain⟨a,vs,e,_⟩:=h';cases e
  | dic ks ts=>obtain⟨a,vs,e,_⟩:=h';cases e
  | tup ts=>obtain⟨a,vs,e,_⟩:=h';cases e
 | .str c,x,t',h,h'=>by
  cases (show x= .str (tx c) from h)
  cases t' with
  | non=>cases (show V.str (tx c)= .non from h')
  | bl b=>cases (show V.str (tx c)= .bl b from h')
  | int b=>cases (show V.str (tx c)= .int b from h')
  | str b=>
   have e:V.str (tx c)= .str (tx b):=h';injection e with e;have e2:ts (tx c)=ts (tx b):=by rw[e]
   rw[yK,yK] at e2;rw[e2]
  | lst ts=>obtain⟨a,vs,e,_⟩:=h';cases e
  | dic ks ts=>obtain⟨a,vs,e,_⟩:=h';cases e
  | tup ts=>obtain⟨a,vs,e,_⟩:=h';cases e
 | .lst us,x,t',⟨a,vs,e,ha,hs⟩,h'=>by
  subst e
  cases t' with
  | non=>cases (show V.ref a= .non from h')
  | bl b=>cases (show V.ref a= .bl b from h')
  | int b=>cases (show V.ref a= .int b from h')
  | str b=>cases (show V.ref a= .str (tx b) from h')
  | lst ts=>
   obtain⟨a',vs',e',ha',hs'⟩:=h';cases e';rw[ha] at ha';cases ha';rw[Reps.one us vs ts hs hs']
  | dic ks ts=>obtain⟨a',vs',e',ha',_⟩:=h';cases e';rw[ha] at ha';cases ha'
  | tup ts=>obtain⟨a',vs',e',ha',_⟩:=h';cases e';rw[ha] at ha';cases ha'
 | .dic js us,x,t',⟨a,vs,e,ha,hk,hs⟩,h'=>by
  subst e
  cases t' with
  | non=>cases (show V.ref a= .non from h')
  | bl b=>cases (show V.ref a= .bl b from h')
  | int b=>cases (show V.ref a= .int b from h')
  | str b=>cases (show V.ref a= .str (tx b) from h')
  | lst ts=>obtain⟨a',vs',e',ha',_⟩:=h';cases e';rw[ha] at ha';cases ha'
  | dic ks ts=>
   obtain⟨a',vs',e',ha',hk',hs'⟩:=h';cases e';rw[ha] at ha';cases ha';rw[Reps.one us _ ts hs hs',zLb (hk.symm.trans hk')]
  | tup ts=>obtain⟨a',vs',e',ha',_⟩:=h';cases e';rw[ha] at ha';cases ha'
 | .tup us,x,t',⟨a,vs,e,ha,hs⟩,h'=>by
  subst e
  cases t' with
  | non=>cases (show V.ref a= .non from h')
  | bl b=>cases (show V.ref a= .bl b from h')
  | int b=>cases (show V.ref a= .int b from h')
  | str b=>cases (show V.ref a= .str (tx b) from h')
  | lst ts=>obtain⟨a',vs',e',ha',_⟩:=h';cases e';rw[ha] at ha';cases ha'
  | dic ks ts=>obtain⟨a',vs',e',ha',_⟩:=h';cases e';rw[ha] at ha';cases ha'
  | tup ts=>
   obtain⟨a',vs',e',ha',hs'⟩:=h';cases e';rw[ha] at ha';cases ha';rw[Reps.one us vs ts hs hs']
theorem Reps.one{H:Hp}:∀(us:List T)(xs:List V)(ts:List T),Reps H xs us->Reps H xs ts->us=ts
 | [],xs,ts,h,h'=>by
  cases (show xs= [] from h)
  cases ts with
  | nil=>rfl
  | cons t ts=>obtain⟨x,r,e,_⟩:=h';cases e
 | u::us,xs,ts,⟨x,r,e,h1,h2⟩,h'=>by
  subst e
  cases ts with
  | nil=>cases (show x::r= [] from h')
  | cons t ts=>
   obtain⟨x',r',e',h1',h2'⟩:=h';cases e';rw[Rep.one u x t h1 h1',Reps.one us r ts h2 h2']
end
theorem zFz:∀{vs:List (Key×V)}{i:Nat}{k:Key}{y:V},(vs.map (·.1)).Nodup->vs[i]? =some (k,y)->xM vs k=some y
 | [],i,k,y,_,h=>by simp at h
 | p::vs,0,k,y,_,h=>by
  simp only[rE,Option.some.injEq] at h;subst h;exact wE rfl
 | p::vs,i+1,k,y,nd,h=>by
  rw[nD,pE] at nd;have h':vs[i]? =some (k,y):=by simpa using h
  have ne:¬p.1=k:=λe=>nd.1 (sU.mpr ⟨(k,y),nW h',e.symm⟩);rw[yN ne];exact zFz nd.2 h'
theorem zYj{H:Hp}{a:Addr}{xs:List (Key×V)}(h:H a=some (.dK xs)):tyS H (.ref a)=some "dict":=by
 show(match H a with | some (.lst _)=>some "list" | some (.tup _)=>some "tuple" | some (.dK _)=>some "dict" | _=>none)=_;rw[h]
theorem Same.put{H H':Hp}{p:Addr}(g:Same H H')(h:H p=none)(o:HO):Same H (upd H' p o):=λb u e=>by
 rw[zN (yJ e h)];exact g b u e
theorem vH{α:Type}{l:List α}{i:Nat}{a:α}(h:l[i]? =some a):l.take (i+1)=l.take i++ [a]:=by rw[List.take_add_one,h];rfl
theorem T.sz_pos:∀t:T,1<=T.sz t
 | .non=>mK _
 | .bl _=>mK _
 | .int _=>mK _
 | .str _=>mK _
 | .lst _=>aN _ _
 | .dic _ _=>aN _ _
 | .tup _=>aN _ _
theorem T.szs_len:∀ts:List T,ts.length<=T.szs ts
 | []=>mK _
 | t::ts=>by
  have a:=T.sz_pos t;have b:=T.szs_len ts;show ts.length+1<=T.sz t+T.szs ts
  lia
theorem T.szs_le{t:T}:∀{ts:List T},t∈ts->T.sz t<=T.szs ts
 | [],h=>nomatch h
 | u::ts,h=>by
  show T.sz t<=T.sz u+T.szs ts;rcases mF.mp h with e | e
  ·subst e;exact bJ _ _
  ·exact nN (T.szs_le e) (aN _ _)
theorem zOp{H H':Hp}{d:Addr}{o:Obj}{ps:List (Key×V)}(hd:H d=some (.dK ps))(g:Same (upd H d (.frz o (.dK ps))) H'):Same H (L2.thaw H H'):=zOx λb u e=>by
 by_cases hb:b=d
 ·subst hb
  rw[hd] at e;cases e;exact .inr ⟨⟨o,g _ _ zF⟩,by intro o v z;cases z⟩
 ·exact .inl (g _ _ (by rw[zN hb];exact e))
noncomputable def T.kids:T->List T
 | .lst us=>us
 | .dic _ us=>us
 | _=>[]
noncomputable def T.next(ts:List T):List T:=(ts.map T.kids).flatten
theorem Reps.append{H:Hp}{ys:List V}{vs:List T}(h':Reps H ys vs):∀{xs:List V}{us:List T},Reps H xs us->Reps H (xs++ys) (us++vs)
 | xs,[],h=>by
  cases (show xs= [] from h);exact h'
 | _,u::us,⟨x,r,e,h1,h2⟩=>by
  subst e;exact⟨x,r++ys,rfl,h1,Reps.append h' h2⟩
theorem T.deps_append:∀(a b:List T),T.deps (a++b)=max (T.deps a) (T.deps b)
 | [],b=>by show T.deps b=max 0 (T.deps b);lia
 | t::a,b=>by
  show max (T.dep t) (T.deps (a++b))=max (max (T.dep t) (T.deps a)) (T.deps b);rw[T.deps_append a b];lia
noncomputable def T.holds(t:T):Bool:=wI (tyT t) "list" || wI (tyT t) "dict"
def zPn(t:TS):TS:=λD σ H=>∃M:St->Hp->Prop,t {D with nx:=M} σ H/\∀σ' H',M σ' H'->D.nx σ' H'
theorem vA{X:Cx}{st:Stmt}{t:TS}(h:PS X st t):PS X st (zPn t):=by
 intro pins s σ H D I ⟨M,q,m⟩;refine thn (h pins s σ H _ I q) λf s1 z=>?_
 cases f with
 | next=>obtain⟨σ',H',J,q⟩:=z;exact⟨σ',H',J,m _ _ q⟩
 | brk=>exact z
 | cont=>exact z
 | ret u=>exact z
section
variable{X:Cx}
theorem zMc{P:Program}{w:World}:∀{vs:List (Key×Value)}{ks:List Str}{us:List Value},vs.map (·.1)=ks.map Sum.inr->us.length=vs.length->(∀(j:Nat)(v:Value),us[j]? =some v->∃k x,vs[j]? =some (k,x)/\(yR P w).is k v=true)->StrsAre us ks
 | [],[],[],_,_,_=>.nil
 | p::vs,k::ks,u::us,e,hl,h=>by
  rw[nD,nD] at e;injection e with e1 e2;obtain⟨k',x,e3,hk⟩:=h 0 u rfl;simp only[rE,Option.some.injEq] at e3;rw[e3] at e1;have e4:k'=Sum.inr k:=e1;rw[e4] at hk;obtain⟨t,et⟩:=(show∃t,u=Value.str k t from zMj hk);subst et;exact .cons k t (zMc e2 (by simpa using hl) λj v hv=>by simpa using h (j+1) v (by simpa using hv))
 | [],_::_,_,e,_,_=>by simp at e
 | _::_,[],_,e,_,_=>by simp at e
 | [],[],_::_,_,hl,_=>by simp at hl
 | _::_,_::_,[],_,hl,_=>by simp at hl
theorem zLk:∀{us:List Value}{ss:List Str},StrsAre us ss->Vals (ss.map V.str) us
 | _,_, .nil=>.nil
 | _,_, .cons x t r=>.cons ⟨t,rfl⟩ (zLk r)
theorem kW(hc:X.calm=true):xY X (.builtin "sorted") (λxs H Q=>∃(p:Addr)(kvs:List (Key×V))(ks:List Str),xs= [.ref p]/\Rd H p (.dK kvs)/\kvs.map (·.1)=ks.map Sum.inr/\ks.length<64/\
  ∀l ss,H l=none->ss.Perm ks->sortedS ss=true->Q (.ref l) (upd H l (.lst (ss.map V.str)))):=by
 intro pins s σ H xs us Q I r h;obtain⟨p,kvs,ks,rfl,hq,hk,h64,q⟩:=h;obtain⟨u,rfl,rx⟩:=jL r;cases rx;obtain⟨z,hd,vs,rel,dd⟩:=zBm I.hok hq;obtain⟨ep,hat⟩:=dd.dictAt;have hl:=rel.length;refine PySem.Calls.call_function_entry kind_sorted plain_sorted entry_sorted (args_sorted1 _) ?_;unfold Builtin.«sorted»;refine mD (m:=checkCount "sorted" 1 1 _) (mQ ?_);refine mD (W.kdu_collect (A:=X.A.in1) (W.kdl_dict (knd:=yR X.prog X.w) (kvs:=vs) (ep:=ep) hd) (show X.A.in1.handled=none from I.ok.hd.1 hc) hat (by lia) λh' tk acc hkp hacc=>?_);have hlen:acc.toList.length=vs.length:=by rw[cC];exact hacc.1
 have hS:StrsAre acc.toList ks:=zMc (P:=X.prog) (w:=X.w) (by rw[<-rel.keys];exact hk) hlen λj v e=>hacc.2 j v (by rw[<-aB];exact e);have hkl:ks.length=vs.length:=by
  have:=congrArg List.length hk;simp only[nA] at this
  lia
 refine mD (wpAny_newList ?_ (by rw[hlen];lia));have hoL:(h'.push (seqObj "list" acc.toList.toArray 0)).get? h'.objs.size=some (seqObj "list" acc.toList.toArray 0):=nI _ rfl;refine mD (pK (aF slot_list_sort ⟨_,hoL,rfl⟩ entry_list_sort (list_sort_treeK strKind_oneLt hoL hS.keysOf (λv₁ v₂ rest e=>keyKind_strs (by rw[<-e];exact hS)) (by lia) λst' a1 a2=>⟨_,rfl, ?_⟩) (args_list_sort _)));refine mQ ⟨_,rfl, ?_⟩;obtain⟨ss',h1,h2,h3⟩:=sorted_out_str hS a1 a2;have I':Inv X pins σ H {s with heap:=h',toks:=tk}:=I.kept (t':=tk) hkp;have hL:h'.objs.size<(h'.push (seqObj "list" acc.toList.toArray 0)).objs.size:=mW hoL;obtain⟨e,he⟩:=sortedHeap_at (out:=(arrOf st').map (·.2)) hoL;have rS:Vals (ss'.map V.str) ((arrOf st').map (·.2)).toList:=zLk h1;have hp:=h2.length_eq;refine⟨.ref h'.objs.size,_,I'.laid (a:=h'.objs.size) (t':=tk) (h':=sortedHeap (h'.push (seqObj "list" acc.toList.toArray 0)) h'.objs.size acc.toList ((arrOf st').map (·.2))) (λb u eb=>?_) (mK _) (o:=.lst (ss'.map V.str)) ?_,rfl,q _ ss' (I'.hok.fresh (mK _)) h2 h3⟩
 ·have lt:b<h'.objs.size:=mW eb
  exact(sortedHeap_old (nR lt) (Nat.lt_trans lt hL)).trans (mI _ eb)
 ·exact⟨by rw[nA];lia,_,e,rS,by rw[Array.toArray_toList];exact he⟩
end
section
variable{X:Cx}
def zXl(K:W.Frag):V->List V->Hp->VK->Prop:=λx vs H Q=>∃(p:Addr)(ss:List Str)(k:Str)(j:Nat),x= .ref p/\vs= [.str k]/\SqL K H p (ss.map V.str)/\ss[j]? =some k/\(∀i,i<j->ss[i]?≠some k)/\j<1000000/\Q (.int j) H
theorem zBy{ss:List Str}{us:List Value}(r:Vals (ss.map V.str) us){j:Nat}(h:j<us.length):∃z t,ss[j]? =some z/\us[j]=Value.str z t:=by
 have hl:=r.length;rw[nA] at hl;obtain⟨u,hu,t,ht⟩:=r.get (i:=j) (x:=.str ss[j]) (by simp[hl,h]);rw[pY h] at hu;exact⟨ss[j],t,by simp[hl,h],(nU hu).trans ht⟩
noncomputable def zJp(k:Str):Value->Bool
 | .str z _=>z==k
 | _=>false
theorem zQk:MtR X "list.index" (zXl X.K):=by
 intro pins s σ H x vs v us Q I rx rv h;obtain⟨p,ss,k,j,rfl,rfl,hq,hj,hno,hsm,q⟩:=h;cases rx;obtain⟨u,rfl,t,rfl⟩:=rv.one;obtain⟨its,r,pl,_⟩:=I.list hq;have hl:=r.length;rw[nA] at hl;have hjl:j<ss.length:=(nF.mp hj).1;obtain⟨⟨cls,dd,data,sl⟩,ho,hc,n,hd⟩:=id pl.isList;simp only at hc hd;subst hc hd;refine tR PySem.F.slot_list_index ⟨_,ho,rfl⟩ PySem.F.entry_list_index (PySem.F.args_list_index_2 _ _) (SeqAt.list_indexAt p its.toArray n dd sl (.str k t) (zJp k) j (by simp;lia) (by lia) ?_ ?_) ⟨ho,λy hy=>?_,⟨.int j,H,I.tok _,⟨_,rfl⟩,q⟩⟩
 ·obtain⟨z,t',e1,e2⟩:=zBy r (j:=j) (by lia)
  rw[hj] at e1;cases e1;show zJp k its[j]=true;rw[e2];exact tI k
 ·intro m hm hlt
  obtain⟨z,t',e1,e2⟩:=zBy r (j:=m) (by simpa using hm);show zJp k its[m]=false;rw[e2];have ne:z≠k:=λe=>hno m hlt (by rw[e1,e]);exact rW.mpr ne
 ·obtain⟨m,hm,e⟩:=Array.mem_iff_getElem.mp hy
  obtain⟨z,t',e1,e2⟩:=zBy r (j:=m) (by simpa using hm);have e3:y=Value.str z t':=by rw[<-e];simpa using e2
  subst e3;exact SeqAt.EqAt.str_str z t' k t
end
noncomputable def leK(a b:List Nat):Bool:=!decide (b<a)
theorem zDy(a b c:List Nat)(h1:leK a b=true)(h2:leK b c=true):leK a c=true:=by
 have x1:a<=b:=by simpa [leK] using h1
 have x2:b<=c:=by simpa [leK] using h2
 have:=List.le_trans x1 x2
 simpa [leK] using this
theorem zOb(a b:List Nat):(leK a b || leK b a)=true:=by
 rcases List.le_total a b with h | h
 ·have:leK a b=true:=by simpa [leK] using h
  rw[this];rfl
 ·have:leK b a=true:=by simpa [leK] using h
  rw[this,aD]
theorem zTg{a b:List Nat}(h1:leK a b=true)(h2:leK b a=true):a=b:=by
 have x1:a<=b:=by simpa [leK] using h1
 have x2:b<=a:=by simpa [leK] using h2
 exact List.le_antisymm x1 x2
noncomputable def zMk(ks:List (List Nat)):List (List Nat):=ks.mergeSort leK
theorem zKw(ks:List (List Nat)):(zMk ks).Perm ks:=List.mergeSort_perm ks leK
theorem zEw(ks:List (List Nat)):(zMk ks).Pairwise (λa b=>leK a b=true):=List.pairwise_mergeSort zDy zOb ks
theorem zDf:∀{a b:List (List Nat)},a.Perm b->a.Pairwise (λa b=>leK a b=true)->b.Pairwise (λa b=>leK a b=true)->a=b
 | [],b,p,_,_=>(List.nil_perm.mp p).symm
 | x::a,[],p,_,_=>absurd p.length_eq (by simp)
 | x::a,y::b,p,h1,h2=>by
  rw[cM] at h1 h2;have hx:x∈y::b:=p.mem_iff.mp mH;have hy:y∈x::a:=p.mem_iff.mpr mH;have e:x=y:=by
   rcases mF.mp hx with z | z
   ·exact z
   ·rcases mF.mp hy with z' | z'
    ·exact z'.symm
    ·exact zTg (h1.1 y z') (h2.1 x z)
  subst e;rw[zDf p.cons_inv h1.2 h2.2]
theorem zAj:∀(p:Str)(l:List Str),risingS p l=true->((p::l).map ts).Pairwise (λa b=>leK a b=true)
 | p,[],_=>List.pairwise_singleton _ _
 | p,x::r,h=>by
  have h':(!ltCps x.cps.toList p.cps.toList && risingS x r)=true:=h;rw[bH] at h';have ih:=zAj x r h'.2;have hpx:leK (ts p) (ts x)=true:=by
   have:=h'.1;rw[ltCps_eq] at this;exact this
  rw[nD,cM];refine⟨λy hy=>?_,ih⟩;rw[nD] at hy ih;rw[cM] at ih;rcases mF.mp hy with z | z
  ·rw[z];exact hpx
  ·exact zDy _ _ _ hpx (ih.1 y z)
theorem zFb{l:List Str}(h:sortedS l=true):(l.map ts).Pairwise (λa b=>leK a b=true):=by
 cases l with
 | nil=>exact List.Pairwise.nil
 | cons p r=>exact zAj p r h
theorem gR{ss:List Str}{ks:List (List Nat)}(hp:ss.Perm (ks.map tx))(hs:sortedS ss=true):ss=(zMk ks).map tx:=by
 have e:ss.map ts=zMk ks:=by
  refine zDf ?_ (zFb hs) (zEw ks);have z:=hp.map ts;rw[cX] at z;have e2:ks.map (ts∘tx)=ks:=by
   conv=>rhs;rw[<-List.map_id ks]
   exact List.map_congr_left λk _=>yK k
  rw[e2] at z;exact z.trans (zKw ks).symm
 have e3:(ss.map ts).map tx=ss:=by
  rw[cX]
  conv=>rhs;rw[<-List.map_id ss]
  exact List.map_congr_left λk _=>qP k
 rw[<-e3,e]
inductive C where
 | non | bl (b:Bool)| int (i:Int)| str (x:List Nat)| row (xs:List C)| rcd (xs:List C)| odd
noncomputable def C.ord:C->Nat
 | .non=>0
 | .bl _=>1
 | .int _=>2
 | .str _=>3
 | .row _=>4
 | .rcd _=>5
 | .odd=>6
noncomputable def uS(k:List Nat):List (List Nat)->List T->T
 | k'::ks,c::cs=>if k'=k then c else uS k ks cs
 | _,_=>.tup []
mutual
def T.few:T->Prop
 | .dic ks ts=>ks.Nodup/\ks.length<64/\ks.length=ts.length/\T.fews ts
 | .lst ts=>ts.length<=100000/\T.fews ts
 | .tup _=>False
 | .non=>True
 | .bl _=>True
 | .int _=>True
 | .str _=>True
def T.fews:List T->Prop
 | []=>True
 | t::ts=>T.few t/\T.fews ts
end
theorem jW{k:List Nat}:∀{ks:List (List Nat)}{ts:List T}{i:Nat}{t:T},ks.Nodup->ks[i]? =some k->ts[i]? =some t->uS k ks ts=t
 | [],_,i,_,_,h,_=>by simp at h
 | k'::ks,[],i,_,_,_,h=>by simp at h
 | k'::ks,u::ts,0,t,nd,h1,h2=>by
  simp only[rE,Option.some.injEq] at h1 h2;subst h1 h2;exact mL rfl
 | k'::ks,u::ts,i+1,t,nd,h1,h2=>by
  rw[pE] at nd;have h1':ks[i]? =some k:=by simpa using h1
  have ne:¬k'=k:=λe=>nd.1 (e▸nW h1');show(if k'=k then u else uS k ks ts)=t;rw[mG ne];exact jW nd.2 h1' (by simpa using h2)
theorem zEt{k:List Nat}:∀{ks:List (List Nat)}{ts:List T},k∈ks->ks.length=ts.length->uS k ks ts∈ts
 | [],_,h,_=>nomatch h
 | k'::ks,[],_,h=>by simp at h
 | k'::ks,u::ts,h,hl=>by
  show(if k'=k then u else uS k ks ts)∈u::ts;split
  ·exact mH
  ·rename_i ne
   rcases mF.mp h with e | e
   ·exact absurd e.symm ne
   ·exact mR _ (zEt e (by simpa using hl))
theorem Rep.at_name{H:Hp}{ps:List (Key×V)}{ks:List (List Nat)}{us:List T}(nk:ks.Nodup)(hk:ps.map (·.1)=ks.map λk=>(Sum.inr (tx k):Key))(hs:Reps H (ps.map (·.2)) us){k:List Nat}(hm:k∈ks):
  ∃v,xM ps (Sum.inr (tx k))=some v/\Rep H v (uS k ks us):=by
 obtain⟨j,hj⟩:=List.mem_iff_getElem?.mp hm;have hp:(ps.map (·.1))[j]? =some (Sum.inr (tx k):Key):=by rw[hk,pM,hj];rfl
 rw[pM] at hp
 cases hpj:ps[j]? with
 | none=>rw[hpj] at hp;cases hp
 | some kv=>
  rw[hpj] at hp;have ek:kv.1=(Sum.inr (tx k):Key):=nU hp;have hpj':ps[j]? =some ((Sum.inr (tx k):Key),kv.2):=by rw[hpj,<-ek]
  obtain⟨t,ht,hr⟩:=hs.get (i:=j) (v:=kv.2) (by rw[pM,hpj];rfl);refine⟨kv.2,zFz (by rw[hk];exact zIk nk) hpj', ?_⟩;rw[jW nk hj ht];exact hr
def LtM(P:Program)(w:World)(A:Around)(s:Shared)(u v:Value)(b:Bool):Prop:=∀(E:Value->Shared->Prop)(Q:Value->Shared->Prop),Q (.bool b) s->wpAny (model P w) A (richCompare .Lt u v) Q E s
def EqB(P:Program)(w:World)(A:Around)(s:Shared)(u v:Value)(b:Bool):Prop:=∀(E:Value->Shared->Prop)(Q:Bool->Shared->Prop),Q b s->wpAny (model P w) A (eqBool u v) Q E s
inductive Zc (P:Program) (w:World) (A:Around) (s:Shared):List Value->List Value->Int->Prop
 | nil:Zc P w A s [] [] 0
 | less {y:Value} {ys:List Value}:Zc P w A s [] (y::ys) (-1)
 | more {x:Value} {xs:List Value}:Zc P w A s (x::xs) [] 1
 | eq {x y:Value} {xs ys:List Value} {c:Int}:EqB P w A s x y true->Zc P w A s xs ys c->Zc P w A s (x::xs) (y::ys) c
 | ne {x y:Value} {xs ys:List Value} {c:Int}:EqB P w A s x y false->LtM P w A s x y (decide (c<0))->c≠0->Zc P w A s (x::xs) (y::ys) c
section
variable{P:Program}{w:World}{A:Around}{s:Shared}{E:Value->Shared->Prop}
end
section
variable{X:Cx}{pins:List (Addr×Obj)}{σ:St}{H:Hp}{s:Shared}
end
noncomputable def rawC:C->T
 | .str x=>.str x
 | _=>.non
mutual
noncomputable def rk:C->T
 | .non=>.tup [.int 0]
 | .bl b=>.tup [.int 1, .bl b]
 | .int i=>.tup [.int 2, .int i]
 | .str x=>.tup [.int 3, .str x]
 | .row cs=>.tup [.int 4, .tup (rks cs)]
 | .rcd cs=>.tup [.int 5, .tup (rkps cs)]
 | .odd=>.non
noncomputable def rks:List C->List T
 | []=>[]
 | c::cs=>rk c::rks cs
noncomputable def rkps:List C->List T
 | []=>[]
 | c::cs=>rkq c::rkps cs
noncomputable def rkq:C->T
 | .row cs=>.tup (rkl cs)
 | .non=>.non
 | .bl _=>.non
 | .int _=>.non
 | .str _=>.non
 | .rcd _=>.non
 | .odd=>.non
noncomputable def rkl:List C->List T
 | []=>[]
 | c::cs=>rawC c::rks cs
end
mutual
def C.ok:C->Prop
 | .odd=>False
 | .row cs=>C.oks cs
 | .rcd cs=>C.okps cs
 | .non=>True
 | .bl _=>True
 | .int _=>True
 | .str _=>True
def C.oks:List C->Prop
 | []=>True
 | c::cs=>C.ok c/\C.oks cs
def C.okps:List C->Prop
 | []=>True
 | c::cs=>C.okq c/\C.okps cs
def C.okq:C->Prop
 | .row cs=>C.okl cs
 | .non=>False
 | .bl _=>False
 | .int _=>False
 | .str _=>False
 | .rcd _=>False
 | .odd=>False
def C.okl:List C->Prop
 | []=>False
 | c::cs=>(∃k,c= .str k)/\cs.length=1/\C.oks cs
end
section
variable{X:Cx}
end
section
variable{X:Cx}{e k:Expr}{te:TE}{tk:TO}{pos p2:Pos}
end
mutual
def T.calm:T->Prop
 | .int i=>-(10 ^ 12)<=i/\i<=10 ^ 12
 | .str x=>x.length<=100
 | .lst ts=>T.calms ts
 | .dic _ ts=>T.calms ts
 | .tup ts=>T.calms ts
 | .non=>True
 | .bl _=>True
def T.calms:List T->Prop
 | []=>True
 | t::ts=>T.calm t/\T.calms ts
end
structure Fit(d z:Nat)(t:T):Prop where
 few:T.few t
 calm:T.calm t
 dep:T.dep t<=d
 sz:T.sz t<=z
section
variable{P:Program}{w:World}
end
section
variable{X:Cx}
end
theorem zIi(t:T):∀(ts:List T),T.szs (ts++ [t])=T.szs ts+T.sz t
 | []=>by show T.sz t+0=0+T.sz t;lia
 | u::ts=>by
  show T.sz u+T.szs (ts++ [t])=T.sz u+T.szs ts+T.sz t;rw[zIi t ts];lia
theorem zUg(xs:List V)(i:Nat):zDk xs none (some (i:Int))=xs.take i:=by
 unfold zDk;rw[HT.sIx_nat];show(xs.drop 0).take (min i xs.length - 0)=_;rw[sA,Nat.sub_zero]
 by_cases h:i<=xs.length
 ·rw[bV h]
 ·rw[bI (by lia),sQ,rJ (by lia)]
theorem zHh(xs:List V)(i:Nat):zDk xs (some (i:Int)) none=xs.drop i:=by
 unfold zDk;rw[HT.sIx_nat];show(xs.drop (min i xs.length)).take (xs.length - min i xs.length)=_
 by_cases h:i<=xs.length
 ·rw[bV h,rJ (by rw[nG];lia)]
 ·rw[bI (by lia),cY,List.drop_of_length_le (by lia),cS]
theorem zPm(xs:List V):zDk xs none (some (-1))=xs.take (xs.length - 1):=by
 unfold zDk;show(xs.drop 0).take ((-1+(xs.length:Int)).toNat - 0)=_;rw[sA,Nat.sub_zero]
 congr 1
 lia
theorem Reps.take{H:Hp}:∀{xs:List V}{us:List T}(i:Nat),Reps H xs us->Reps H (xs.take i) (us.take i)
 | xs,us,0,_=>by rw[List.take_zero,List.take_zero];exact rfl
 | xs,[],i+1,h=>by cases (show xs= [] from h);exact rfl
 | xs,u::us,i+1,⟨x,r,e,h1,h2⟩=>by
  subst e;rw[tJ,tJ];exact⟨x,_,rfl,h1,Reps.take i h2⟩
section
variable{X:Cx}{pins:List (Addr×Obj)}{σ σ':St}{H H':Hp}{s s':Shared}
end
def zAe(H:Hp)(d:Addr):Hp:=λb=>if b=d then none else H b
theorem uC{H:Hp}{d b:Addr}(h:b≠d):zAe H d b=H b:=mG h
theorem zAu{H:Hp}{d:Addr}:zAe H d d=none:=mL rfl
theorem hide_self{H:Hp}{d:Addr}:Same (zAe H d) H:=λb v e=>by
 by_cases h:b=d
 ·subst h;rw[zAu] at e;cases e
 ·rw[uC h] at e;exact e
theorem kF{H H':Hp}{d:Addr}(h:Same H H'):Same (zAe H d) (zAe H' d):=λb v e=>by
 by_cases hb:b=d
 ·subst hb;rw[zAu] at e;cases e
 ·rw[uC hb] at e⊢;exact h b v e
theorem zHd{X:Cx}{K:W.Frag}(h:X.K=K):IxR X (zDi K):=by subst h;exact zY
end L2
namespace L2
open PySem PySem.Spec PyProof.Rows PySem.Builtin PySem.Builtin.Str
section
variable{prog:Program}{w:World}{A:Around}{E:Value->Shared->Prop}{s:Shared}{x y:Str}{t u:Tok}{Q:Value->Shared->Prop}
theorem zOt(hy:(y.length==0)=false)(hx:x.length<=1000000)
  (q:∀(l:List (Str×Tok))(k:Nat),l.map (·.1)=Txt.split x y->Q (.ref s.heap.objs.size) {s with heap:=s.heap.push {cls:=.type "list",data:=.seq (strValues l).toArray},toks:=k}):
  wpAny (model prog w) A (call (.builtin "str.split") [.str x t, .str y u]) Q E s:=by
 have hz:x.length<=sizeLine:=by rw[mJ];lia
 cases c1:(decide (x.length<y.length)|| decide (PySem.Builtin.Str.strKind x<PySem.Builtin.Str.strKind y)) with
 | true=>
  refine tR cZ (tD _ _ _) cT (cN _ _)
   (meets_str_split_cannot_occur x y t u c1) ?_
  exact q [(x,t)] s.toks (by unfold Txt.split;rw[mL c1];rfl)
 | false=>
  have n1:¬((decide (x.length<y.length)|| decide (PySem.Builtin.Str.strKind x<PySem.Builtin.Str.strKind y))=true):=by rw[c1];exact mO
  cases c2:(occurrences x y 0 x.length (x.length+1)).isEmpty with
  | true=>
   refine tR cZ (tD _ _ _) cT (cN _ _)
    (meets_str_split_not_found x y t u c1 hy c2) ?_
   exact q [(x,t)] s.toks (by unfold Txt.split;rw[mG n1,mL c2];rfl)
  | false=>
   have n2:¬((occurrences x y 0 x.length (x.length+1)).isEmpty=true):=by rw[c2];exact mO
   have hn:(partsBetween x (occurrences x y 0 x.length (x.length+1)) y.length).length<=sizeLine:=by
    have:=StrLaws.occ_length_le x y 0 x.length (x.length+1);rw[cD,mJ];lia
   refine tR cZ (tD _ _ _) cT (cN _ _)
    (meets_str_split_sep x y t u c1 hy c2 hz hn) ?_
   have z:=q (numbered s.toks (partsBetween x (occurrences x y 0 x.length (x.length+1)) y.length)) (s.toks+(partsBetween x (occurrences x y 0 x.length (x.length+1)) y.length).length)
    ((numbered_texts _ _).trans (by unfold Txt.split;rw[mG n1,mG n2]))
   rw[<-strsFrom_eq] at z;exact z
end
theorem zPr(x:Str):1<=PySem.Builtin.Str.strKind x:=by
 unfold PySem.Builtin.Str.strKind;split
 ·exact mK _
 ·split<;>decide
theorem zIt(z x:Str):glued z [x]=x:=rfl
theorem zDh(x:Str):Txt.join (Str.ofString "''") (Txt.split x (Str.ofString "'"))=Txt.replace x (Str.ofString "'") (Str.ofString "''"):=by
 have e0:((Str.ofString "'").length==0)=false:=by decide+kernel
 have k1:PySem.Builtin.Str.strKind (Str.ofString "'")=1:=by decide+kernel
 have l1:(Str.ofString "'").length=1:=by decide+kernel
 unfold Txt.join Txt.split Txt.replace
 cases c1:(decide (x.length<(Str.ofString "'").length)|| decide (PySem.Builtin.Str.strKind x<PySem.Builtin.Str.strKind (Str.ofString "'"))) with
 | true=>
  have hx:x=tx []:=by
   have:=zPr x;simp only[bU,sY,k1,l1] at c1;have h0:x.length=0:=by lia
   apply kD;rw[zGi] at h0;exact pB h0
  subst hx;rw[mL rfl,zIt]
  decide+kernel
 | false=>
  rw[mG mO]
  cases c2:(occurrences x (Str.ofString "'") 0 x.length (x.length+1)).isEmpty with
  | true=>rw[mL rfl,aR,mL rfl,zIt]
  | false=>rw[mG mO,e0,aA,bD,mG mO]
theorem zJc(x y z:Str):(Txt.replace x y z).length<=x.length+(x.length+1)*z.length:=by
 unfold Txt.replace;split
 ·lia
 ·have h1:=StrLaws.occ_length_le x y 0 x.length (x.length+1)
  have hy:(glued y (partsBetween x (occurrences x y 0 x.length (x.length+1)) y.length)).length=x.length:=by rw[StrLaws.glued_between_self]
  rw[size_glued,cD,cO] at hy;rw[size_glued,cD,cO];have h2:(occurrences x y 0 x.length (x.length+1)).length*z.length<=(x.length+1)*z.length:=bX _ h1
  lia
section
variable{X:Cx}
def zYr(K:W.Frag):V->List V->Hp->VK->Prop:=λx vs H Q=>∃(g:Str)(p:Addr)(ys:List Str),x= .str g/\vs= [.ref p]/\SqL K H p (ys.map V.str)/\(ys.map (·.length)).sum+ys.length*g.length<=16777216/\Q (.str (Txt.join g ys)) H
theorem zQx:MtR X "str.join" (zYr X.K):=by
 intro pins s σ H x vs v us Q I rx rv h;obtain⟨g,p,ys,rfl,rfl,hq,hz,q⟩:=h;obtain⟨t,rfl⟩:=rx;obtain⟨u,rfl,ru⟩:=rv.one;cases ru;obtain⟨its,r,pl,_⟩:=I.list hq;exact join_list (ys:=ys) pl.isList (by simpa using zJs r) hz λt' k=>⟨.str (Txt.join g ys),H,I.tok _,⟨_,rfl⟩,q⟩
def zYy:V->List V->Hp->VK->Prop:=λx vs H Q=>∃(z y:Str),x= .str z/\vs= [.str y]/\y.length≠0/\z.length<=1000000/\∀l,H l=none->Q (.ref l) (upd H l (.lst ((Txt.split z y).map V.str)))
theorem zDb:∀(l:List (Str×Tok)),Vals ((l.map (·.1)).map V.str) (strValues l)
 | []=>.nil
 | p::l=>.cons ⟨p.2,rfl⟩ (zDb l)
theorem zPf:MtR X "str.split" zYy:=by
 intro pins s σ H x vs v us Q I rx rv h;obtain⟨z,y,rfl,rfl,hy,hz,q⟩:=h;obtain⟨t,rfl⟩:=rx;obtain⟨u,rfl,t',rfl⟩:=rv.one;refine zOt (by simp[hy]) hz λl k e=>?_;have hf:H s.heap.objs.size=none:=I.hok.fresh (mK _);refine⟨.ref s.heap.objs.size,upd H s.heap.objs.size (.lst ((Txt.split z y).map V.str)),I.laid (λb u e=>mI _ e) (mK _) ?_,rfl,q _ hf⟩;refine⟨?_,strValues l,0, ?_,nI _ rfl⟩
 ·have:=split_le z y
  rw[nA,mJ];lia
 ·rw[<-e];exact zDb l
end
structure Bl3(mg:Str->Option Value):Prop extends Bl2 mg where
 abs:mg "abs" =none
end L2
namespace L2
open PySem PySem.Spec PyProof.Rows
noncomputable def wJ(ns:List Int)(k:Int):Int:=
 let m:=if ns= [] then k*7919 else(k*7919+k / ns.length*104729+ns.getD (k % ns.length).toNat 0*48271)% 1000003
 (m*m / 11+13*m)% 1000003
theorem gS(ns:List Int)(k:Int):0<=wJ ns k:=tT _ (by decide)
theorem zCz(ns:List Int)(k:Int):wJ ns k<1000003:=tU _ (by decide)
end L2
namespace L2
open PySem PySem.Spec PyProof.Rows PySem.Builtin PySem.Builtin.Str
theorem zVz(x y:Str):(x++y).length=x.length+y.length:=by
 rw[<-qP x,<-qP y,wZ,zU,zU,zU,mC]
theorem zOr(x y:Str):((Txt.split x y).map (·.length)).sum<=x.length:=by
 unfold Txt.split;split
 ·simp
 ·split
  ·simp
  ·have hy:(glued y (partsBetween x (occurrences x y 0 x.length (x.length+1)) y.length)).length=x.length:=by rw[StrLaws.glued_between_self]
   rw[size_glued] at hy
   lia
end L2
namespace L2
open PySem PySem.Spec PyProof.Rows
section
variable{X:Cx}
end
section
variable{X:Cx}{pins:List (Addr×Obj)}{σ:St}{H:Hp}{s:Shared}{h':Heap}
end
section
variable{X:Cx}
end
abbrev g2(K:W.Frag):TG:=zOm K 2 (zBx (vX 0) (zBx (vX 1) zNi))
noncomputable def tyR(H:Hp):V->Option String
 | .ref a=>match H a with
  | some (.frz _ (.dK _))=>some "dict"
  | _=>tyS H (.ref a)
 | v=>tyS H v
theorem zRv{H:Hp}{x:V}{t:String}(h:tyS H x=some t):tyR H x=some t:=by
 cases x with
 | ref a=>
  show(match H a with | some (.frz _ (.dK _))=>some "dict" | _=>tyS H (.ref a))=some t
  split
  ·rename_i o kvs e
   have h':(match H a with | some (.lst _)=>some "list" | some (.tup _)=>some "tuple" | some (.dK _)=>some "dict" | _=>none)=some t:=h
   rw[e] at h';cases h'
  ·exact h
 | _=>exact h
theorem zFx{H:Hp}{a:Addr}{ps:List (Key×V)}(h:Rd H a (.dK ps)):tyR H (.ref a)=some "dict":=by
 rcases h with h |⟨o,h⟩
 ·exact zRv (zYj h)
 ·show(match H a with | some (.frz _ (.dK _))=>some "dict" | _=>tyS H (.ref a))=some "dict"
  rw[h]
section
variable{X:Cx}
theorem kB{T:String}(hT:T∈tyL):xY X (.builtin "isinstance") (λxs H Q=>∃x t,xs= [x, .ty T]/\tyR H x=some t/\Q (.bl (wI t T)) H):=by
 intro pins s σ H xs us Q I r h;obtain⟨x,t,rfl,ht,q⟩:=h
 cases x with
 | ref a=>
  have h':(match H a with | some (.frz _ (.dK _))=>some "dict" | _=>tyS H (.ref a))=some t:=ht
  split at h'
  ·rename_i o kvs e
   cases h';obtain⟨u,w',rfl,ru,rw'⟩:=zDr r;cases (show w'=Value.type T from rw');cases (show u=Value.ref a from ru);obtain⟨_,_,vs,_,p⟩:=zBm I.hok (.inr ⟨o,e⟩);obtain⟨ob,es,ep,h1,h2,_⟩:=p;exact sT W.kitx_dict I.kIn ⟨ob,h1,h2.1⟩ (zQc (by simp[tyL]) hT) (λz=>nomatch z) λtk=>⟨.bl _,H,I.tok _,rfl,q⟩
  ·exact zCl hT pins s σ H _ us Q I r ⟨_,t,rfl,h',q⟩
 | _=>exact zCl hT pins s σ H _ us Q I r ⟨_,t,rfl,ht,q⟩
theorem kI:xY X (.builtin "len") (λxs H Q=>∃a kvs,xs= [V.ref a]/\Rd H a (.dK kvs)/\Q (.int kvs.length) H):=by
 intro pins s σ H xs us Q I r h;obtain⟨a,kvs,rfl,ha,q⟩:=h;obtain⟨u,rfl,ru⟩:=jL r;cases ru;exact d_len I ha λt s' I'=>⟨.int kvs.length,H,I',⟨t,rfl⟩,q⟩
end
theorem zEi{k:Key}:∀{ps:List (Key×V)},k∉ps.map (·.1)->xM ps k=none
 | [],_=>rfl
 | p::ps,h=>by
  rw[yN λe=>h (by simp[e])];exact zEi λz=>h (mR _ z)
structure Bl4(mg:Str->Option Value):Prop extends Bl2 mg where
 enumerate:mg "enumerate" =none
theorem uZ{H H':Hp}(g:Same H H'){p:Addr}(h:H' p=none):H p=none:=by
 cases e:H p with
 | none=>rfl
 | some o=>rw[g _ _ e] at h;cases h
section
variable{prog:Program}{w:World}{A:Around}{E:Value->Shared->Prop}{s:Shared}
end
section
variable{X:Cx}
end
section
variable{X:Cx}{a:Expr}{ta:TE}
end
inductive U where
 | leaf (v:V)| lst (us:List U)| dic (ks:List Key) (us:List U)
mutual
noncomputable def U.sz:U->Nat
 | .leaf _=>1
 | .lst us=>U.szs us+1
 | .dic _ us=>U.szs us+1
noncomputable def U.szs:List U->Nat
 | []=>0
 | u::us=>U.sz u+U.szs us
end
mutual
noncomputable def U.dep:U->Nat
 | .leaf _=>0
 | .lst us=>U.deps us+1
 | .dic _ us=>U.deps us+1
noncomputable def U.deps:List U->Nat
 | []=>0
 | u::us=>max (U.dep u) (U.deps us)
end
mutual
def U.ok:U->Prop
 | .leaf v=>∀x,v= .str x->x.length<=1000
 | .lst us=>U.oks us
 | .dic ks us=>ks.Nodup/\ks.length=us.length/\(∀x,Sum.inr x∈ks->x.length<=1000)/\U.oks us
def U.oks:List U->Prop
 | []=>True
 | u::us=>U.ok u/\U.oks us
end
section
variable{X:Cx}{pins:List (Addr×Obj)}{σ:St}{H:Hp}{s:Shared}
theorem zDv:OpR X (compareOp .LtE) (λx y H Q=>∃i j,x= .str i/\y= .str j/\Q (.bl (!decide (ts j<ts i))) H):=by
 intro pins s σ H x y v u Q I rx ry h;obtain⟨i,j,rfl,rfl,q⟩:=h;obtain⟨t,rfl⟩:=rx;obtain⟨t',rfl⟩:=ry;exact PySem.P.le_str (yP I q rfl)
end
section
variable{X:Cx}{o:Expr}{to:TE}{name:Str}{apos cpos:Pos}{id:String}{r:V->List V->Hp->VK->Prop}
end
structure Bl5(mg:Str->Option Value):Prop extends Bl2 mg where
 abs:mg "abs" =none
 ord:mg "ord" =none
section
variable{X:Cx}{pins:List (Addr×Obj)}{σ:St}{H:Hp}{s:Shared}{h':Heap}
end
def Itz(K:W.Frag)(l m:Addr):It:=
  ⟨λi H=>∃xs ys x y,SqL K H l xs/\SqL K H m ys/\xs[i]? =some x/\ys[i]? =some y,
   λi H v H'=>∃p x y,H p=none/\v= .ref p/\(∀xs,SqL K H l xs->xs[i]? =some x)/\(∀ys,SqL K H m ys->ys[i]? =some y)/\H'=upd H p (.tup [x,y]),
   λi H=>∃xs ys,SqL K H l xs/\SqL K H m ys/\(xs.length<=i\/ys.length<=i)⟩
def zWi(K:W.Frag)(ta:TA):TI:=λσ H R=>ta σ H λvs H1=>∃l m xs ys,vs= [.ref l, .ref m]/\SqL K H1 l xs/\SqL K H1 m ys/\R (Itz K l m) H1
structure Bl6(mg:Str->Option Value):Prop extends Bl2 mg where
 zip:mg "zip" =none
section
variable{X:Cx}{a:Expr}{ta:TE}
def zWq(ta:TE):TE:=λσ H Q=>ta σ H λx H1=>∃b,x= .bl b/\Q (.bl b) H1
end
end L2
namespace HT
open PySem PyProof.Rows
open PySem.SeqAt
open PySem.AutoSeq1 (wpAny_loadPart')
open PySem.MeetsSeq PySem.MeetsSeq2 PySem.MeetsSeq3
section
variable{prog:Program}{w:World}{A:Around}{E:Value->Shared->Prop}{s:Shared}
end
end HT
namespace L2
open PySem PySem.Spec PyProof.Rows
end L2
namespace L2
open PySem PySem.Spec PyProof.Rows PySem.Builtin PySem.Builtin.Str
noncomputable def jn(s:List Nat):List (List Nat)->List Nat
 | []=>[]
 | [x]=>x
 | x::y::r=>x++s++jn s (y::r)
theorem zTk(x y:Str):ts (x++y)=ts x++ts y:=by
 show(x.cps++y.cps).toList=_;rw[Array.toList_append]
theorem zFr(sep:Str):∀ps:List Str,ts (sep.join ps)=jn (ts sep) (ps.map ts)
 | []=>rfl
 | [x]=>rfl
 | x::y::r=>by
  show ts (x++sep++sep.join (y::r))=ts x++ts sep++jn (ts sep) ((y::r).map ts);rw[zTk,zTk,zFr sep (y::r)]
noncomputable def rpl(c:Nat)(z:List Nat)(d:Nat):List Nat:=if d=c then z else[d]
theorem uQ{c:Nat}{z:List Nat}:∀{x:List Nat},c∉x->x.flatMap (rpl c z)=x
 | [],_=>rfl
 | d::x,h=>by
  have hd:d≠c:=λe=>h (by rw[e];exact mH);rw[cU,uQ λe=>h (mR _ e)];unfold rpl;rw[mG hd];rfl
theorem zTd{c:Nat}{z:List Nat}:∀{ps:List (List Nat)},(∀p∈ps,c∉p)->(jn [c] ps).flatMap (rpl c z)=jn z ps
 | [],_=>rfl
 | [x],h=>uQ (h x mH)
 | x::y::r,h=>by
  show(x++ [c]++jn [c] (y::r)).flatMap (rpl c z)=x++z++jn z (y::r);rw[cE,cE,uQ (h x mH),zTd λp hp=>h p (mR _ hp)];have: [c].flatMap (rpl c z)=z:=by simp[rpl]
  rw[this]
theorem zKk(x z:Str)(c:Nat):ts (Txt.replace x ⟨#[c]⟩ z)=(ts x).flatMap (rpl c (ts z)):=by
 have h:=zFr ⟨#[c]⟩ (Txt.split x ⟨#[c]⟩);rw[StrLaws.join_split] at h;rw[StrLaws.replace_one,zFr,h];refine(zTd (c:=c) λp hp=>?_).symm;obtain⟨s,hs,rfl⟩:=sU.mp hp;exact StrLaws.split_free x c s hs
section
variable{X:Cx}
theorem uR:xY X (.type "int") (λxs H Q=>∃x n,xs= [.str x]/\intText? x=some n/\x.length<=640/\Q (.int n) H):=by
 intro pins s σ H xs us Q I r h;obtain⟨x,n,rfl,hn,hl,q⟩:=h;obtain⟨u,rfl,t,rfl⟩:=r.one;exact W.KIN.call_text hn hl ⟨.int n,H,I.tok _,⟨_,rfl⟩,q⟩
end
end L2
namespace L2
open PySem PySem.Spec PyProof.Rows
section
variable{X:Cx}
end
section
variable{X:Cx}
theorem zZt{st:Stmt}:PS X st zAf:=λ_ _ _ _ _ _ h=>h.elim
def rFind:V->List V->Hp->VK->Prop:=λx vs H Q=>∃(z y:Str)(i:Int),x= .str z/\vs= [.str y, .int i]/\Q (.int (Txt.find3 z y i)) H
theorem kA:MtR X "str.find" rFind:=by
 intro pins s σ H x vs v us Q I rx rv h;obtain⟨z,y,i,rfl,rfl,q⟩:=h;obtain⟨t,rfl⟩:=rx;obtain⟨u1,u2,rfl,⟨t1,rfl⟩,⟨t2,rfl⟩⟩:=rv.two;exact call_gives F.slot_str_find (tD _ _ _) F.entry_str_find (F.args_str_find_3 _ _ _) (gives_str_find_from z y i t t1 t2) ⟨.int _,H,I.tok _,⟨_,rfl⟩,q⟩
theorem zMt{s:Shared}{c:Prop} [inst:Decidable c] {y z:Str} {t:Tok} {Q:Value->Shared->Prop} (h:(if c then y else z).length<=sizeLine/\∀(t':Tok)(k:Nat),s.toks<=k->Q (.str (if c then y else z) t') {s with toks:=k}):
  (if c then Made.val (.str y t) else Made.str z).post Q s:=by
 by_cases hc:c
 ·have h2:=h.2 t s.toks (mK _)
  rw[mL hc] at h2⊢;exact h2
 ·have h1:=h.1
  have h2:=h.2 s.toks (s.toks+1) (tW _);rw[mG hc] at h1 h2⊢;exact⟨h1,h2⟩
def zUv(i:Nat)(lo hi:Int)(y z:Str):TE:=λσ H Q=>∃x,σ[i]? =some (some (.str x))/\x.length<=1000000/\Q (.str (Txt.replace (Txt.slice x (some lo) (some (-hi))) y z)) H
theorem zKl{x:Str}{i:Nat}{lo hi:Int}{y z:Str}{j1 j2 j3 j4:Nat}{p0 p1 p2 p3 p4 p5 p6 p7 apos cpos:Pos}(hN:X.N[i]? =some x)(hv:Vis X.env.scope x)(hyz:(y==z)=false)(hz:z.length<=14)
  (hline:(apos.endLine==cpos.line)=true:=by rfl) (hd:(x==("__debug__" :Str))=false:=by decide) (hcd:(x==("__classdict__" :Str))=false:=by decide):
  PE X (.Call (.Attribute (.Subscript (.Name x p0) (.Slice (some (.Constant (.int lo) j3 p3)) (some (.UnaryOp .USub (.Constant (.int hi) j4 p4) p5)) none p6) p7) "replace" apos) [.Constant (.str y) j1 p1, .Constant (.str z) j2 p2] [] cpos) (zUv i lo hi y z):=by
 intro pins s σ H Q I h;obtain⟨vx,e,hl,q⟩:=h;refine wpAny_Call_method_late rfl rfl hline rfl ?_;have hx:PE X (.Name x p0) (zJt i):=zQs hN hv hd hcd;refine Subscript_ (thn (hx pins s σ H (λv H'=>v= .str vx/\H'=H) I ⟨_,e,rfl,rfl⟩) λv s1 z_=>?_);obtain⟨xv,H1,I1,r1,e1,e2⟩:=z_;subst e1 e2;obtain⟨t,rfl⟩:=r1;refine wpAny_Slice ?_;rw[evalPart_some];refine cI ?_;rw[evalPart_some];refine UnaryOp_ (cI (neg_int ?_));rw[evalPart_none];refine mQ ?_;have I4:Inv X pins σ H1 {s1 with heap:=s1.heap.push {cls:=.type "slice",data:=.fields #[.int lo s1.toks, .int (-hi) (s1.toks+1+1), .none]},toks:=s1.toks+1+1+1}:=I1.kept (t':=s1.toks+1+1+1) λb ob q=>mI _ q;have hg:wpAny (model X.prog X.w) X.A (getItem (.str vx t) (.ref s1.heap.objs.size)) (λv s2=>∃t',v= .str (Txt.slice vx (some lo) (some (-hi))) t'/\Inv X pins σ H1 s2/\0<s2.toks) X.xe {s1 with heap:=s1.heap.push {cls:=.type "slice",data:=.fields #[.int lo s1.toks, .int (-hi) (s1.toks+1+1), .none]},toks:=s1.toks+1+1+1}:=by
  refine sJ (l:=some (lo,s1.toks)) (u:=some (-hi,s1.toks+1+1)) (st:=none) ?_ rfl ?_
  ·obtain⟨o,ho,hc,hd⟩:=Heap.IsSliceOf.new (h:=s1.heap) (l:=.int lo s1.toks) (u:=.int (-hi) (s1.toks+1+1)) (st:=.none)
   exact⟨o,ho,hc,hd⟩
  ·have hsl:=aS vx (some lo) (some (-hi))
   exact zMt ⟨by rw[mJ];exact nN hsl (by lia),λt' k hk=>⟨t',rfl,I4.tok _,mX (pO _) hk⟩⟩
 refine tail_any (ops:=[.ref s1.heap.objs.size, .str vx t]) (tD _ _ _) F.slot_str_getitem.lookup (thn hg λv s2 z=>?_) (by with_unfolding_all rfl);obtain⟨t',rfl,I2,h0⟩:=z;refine⟨"str","str.replace",F.plainAttrs_str,F.slot_str_replace,F.type_str_replace,tD _ _ _,(λ_ e=>nomatch e), ?_⟩;refine bA rfl (Calls.evalArgs_plain ?_);refine aQ (cJ (k:=j1) (pos:=p1) (aQ (cJ (k:=j2) (pos:=p2) (Calls.spliced_nil ?_))));have hsl:=aS vx (some lo) (some (-hi));refine SC.replaceW (Nat.pos_iff_ne_zero.mp h0) (Nat.succ_ne_zero _) (λc=>absurd (show s2.toks=s2.toks+1 from c) (by lia)) hyz (by lia) hz λt' k=>?_;exact⟨.str (Txt.replace (Txt.slice vx (some lo) (some (-hi))) y z),H1,I2.tok _,⟨_,rfl⟩,q⟩
end
end L2
namespace L2
open PySem PySem.Builtin PySem.Builtin.Str
abbrev Tk:=Nat×List Nat
noncomputable def mkL:List Nat:=[91,93,123,125,44,58]
noncomputable def dbl(x:List Nat):List Nat:=x.flatMap (rpl 39 [39,39])
theorem zMf:dbl []= []:=rfl
theorem zCx(c:Nat)(x:List Nat):dbl (c::x)=rpl 39 [39,39] c++dbl x:=cU
theorem xC(x y:List Nat):dbl (x++y)=dbl x++dbl y:=cE
theorem xK{x:List Nat}(h:39∉x):dbl x=x:=uQ h
theorem zBc:∀x:List Nat,(dbl x).length<=2*x.length
 | []=>mK _
 | c::x=>by
  rw[zCx,mC,mE];have:=zBc x;have h:(rpl 39 [39,39] c).length<=2:=by
   unfold rpl;split
   ·exact mK _
   ·exact tW _
  lia
noncomputable def shw(t:Tk):List Nat:=if t.1=2 then 39::(dbl t.2++ [39]) else t.2
def OkTk(t:Tk):Prop:=t.2.length<=5000/\((t.1=0/\∃s fs,t.2=s++fs/\(s= []\/s= [45])/\fs≠ []/\∀c∈fs,c∈xD)\/(t.1=1/\∃c r,t.2=c::r/\c∈vB/\∀d∈r,d∈vB++xD)\/(t.1=2/\∀c∈t.2,c∈vE)\/(t.1=3/\∃c,t.2= [c]/\c∈mkL))
theorem OkTk.len{t:Tk}(h:OkTk t):(shw t).length<=10002:=by
 have h1:=h.1;unfold shw;split
 ·have:=zBc t.2
  rw[mE,mC];simp only[mE,nL]
  lia
 ·lia
noncomputable def zTm(k:Nat):List Nat:=if k=0 then xD else if k=1 then vB++xD else if k=2 then[39] else[]
def Stops(k:Nat)(r:List Nat):Prop:=∀c r',r=c::r'->c∉zTm k
def zLs(k c:Nat):Prop:=(k=0/\(c=45\/c∈xD))\/(k=1/\c∈vB)\/(k=2/\c=39)\/(k=3/\c∈mkL)
noncomputable def stk(a b:Tk):Bool:=if b.2.take 1= [45]/\b.1=0 then false else if a.1=1 then decide (b.1=1)|| decide (b.1=0) else decide (a.1=b.1)&& !decide (a.1=3)
theorem zTh:∀k:Nat,(32:Nat)∉zTm k:=by
 intro k;unfold zTm;split
 ·decide+kernel
 ·split
  ·decide+kernel
  ·split
   ·decide+kernel
   ·decide
theorem qT{t:Tk}(h:OkTk t):∃c r,shw t=c::r/\zLs t.1 c/\(t.1=0->c=45->t.2.take 1= [45]):=by
 obtain⟨_,h⟩:=h;obtain⟨k,x⟩:=t;unfold shw zLs;rcases h with⟨rfl,s,fs,e,hs,hn,hf⟩|⟨rfl,c,r,e,hc,_⟩|⟨rfl,_⟩|⟨rfl,c,e,hc⟩
 ·have e:x=s++fs:=e
  subst e;rcases hs with rfl | rfl
  ·obtain⟨c,r,rfl⟩:=rG hn
   exact⟨c,r,rfl, .inl ⟨rfl, .inr (hf c mH)⟩,λ_ e=>by rw[e];rfl⟩
  ·exact⟨45,fs,rfl, .inl ⟨rfl, .inl rfl⟩,λ_ _=>rfl⟩
 ·have e:x=c::r:=e
  subst e;exact⟨c,r,rfl, .inr (.inl ⟨rfl,hc⟩),λe=>nomatch e⟩
 ·exact⟨39,_,rfl, .inr (.inr (.inl ⟨rfl,rfl⟩)),λe=>nomatch e⟩
 ·have e:x= [c]:=e
  subst e;exact⟨c,[],rfl, .inr (.inr (.inr ⟨rfl,hc⟩)),λe=>nomatch e⟩
theorem zPe:∀c∈vB,c≠45/\c∉xD/\c≠39:=by decide+kernel
theorem zKi:∀c∈xD,c≠45/\c∉vB/\c≠39:=by decide+kernel
theorem zWx:∀c∈mkL,c≠45/\c∉xD/\c∉vB/\c≠39:=by decide+kernel
theorem zOq:(39:Nat)≠45/\(39:Nat)∉xD/\(39:Nat)∉vB:=by decide+kernel
theorem zSq{t t':Tk}(h:OkTk t)(h':OkTk t')(hs:stk t t'=false)(z:List Nat):Stops t.1 (shw t'++z):=by
 obtain⟨c,r,e,hk,h45⟩:=qT h';intro d r' e';rw[e] at e';obtain⟨rfl,_⟩:=List.cons.inj e';unfold stk at hs;unfold zTm;have hk0:t.1=0\/t.1=1\/t.1=2\/t.1=3:=by
  rcases h.2 with⟨a,_⟩|⟨a,_⟩|⟨a,_⟩|⟨a,_⟩
  ·exact .inl a
  ·exact .inr (.inl a)
  ·exact .inr (.inr (.inl a))
  ·exact .inr (.inr (.inr a))
 rcases hk with⟨k0,hc⟩|⟨k1,hc⟩|⟨k2,rfl⟩|⟨k3,hc⟩
 ·rcases hc with rfl | hc
  ·rcases hk0 with a | a | a | a<;>rw[a]<;>decide+kernel
  ·have hn:¬(t'.2.take 1= [45]/\t'.1=0):=λz=>by
    have:(shw t').take 1= [45]:=by
     unfold shw;rw[mG (by lia)];exact z.1
    rw[e] at this;have:c=45:=by simpa using this
    exact(zKi c hc).1 this
   rw[mG hn,k0] at hs;have:=zKi c hc;rcases hk0 with a | a | a | a
   ·rw[a] at hs;exact absurd hs (by decide)
   ·rw[a] at hs;exact absurd hs (by decide)
   ·rw[a];show c∉ [39];simp[this.2.2]
   ·rw[a];exact λz=>nomatch z
 ·have:=zPe c hc
  rw[mG (by lia),k1] at hs;rcases hk0 with a | a | a | a
  ·rw[a];exact this.2.1
  ·rw[a] at hs;exact absurd hs (by decide)
  ·rw[a];show c∉ [39];simp[this.2.2]
  ·rw[a];exact λz=>nomatch z
 ·rw[mG (by lia),k2] at hs
  rcases hk0 with a | a | a | a
  ·rw[a];exact zOq.2.1
  ·rw[a];show 39∉vB++xD;rw[pG];exact λz=>z.elim zOq.2.2 zOq.2.1
  ·rw[a] at hs;exact absurd hs (by decide)
  ·rw[a];exact λz=>nomatch z
 ·have:=zWx c hc
  rcases hk0 with a | a | a | a
  ·rw[a];exact this.2.1
  ·rw[a];show c∉vB++xD;rw[pG];exact λz=>z.elim this.2.2.1 this.2.1
  ·rw[a];show c∉ [39];simp[this.2.2.2]
  ·rw[a];exact λz=>nomatch z
theorem zMz(k:Nat):Stops k []:=λc r e=>nomatch e
theorem zIa{k n:Nat}(h:0<n)(z:List Nat):Stops k (List.replicate n 32++z):=by
 obtain⟨m,rfl⟩:=Nat.exists_eq_succ_of_ne_zero (Nat.pos_iff_ne_zero.mp h);intro c r e;rw[pA] at e;obtain⟨rfl,_⟩:=List.cons.inj e;exact zTh k
theorem zOl{k n:Nat}:Stops k (List.replicate n 32):=by
 cases n with
 | zero=>exact zMz k
 | succ n=>simpa using zIa (k:=k) (pO n) []
noncomputable def lay:List (Nat×Tk)->List Nat
 | []=>[]
 | x::r=>List.replicate x.1 32++(shw x.2++lay r)
theorem jB:∀a b:List (Nat×Tk),lay (a++b)=lay a++lay b
 | [],b=>rfl
 | x::a,b=>by
  show List.replicate x.1 32++(shw x.2++lay (a++b))=_;rw[jB a b];show _=List.replicate x.1 32++(shw x.2++lay a)++lay b;simp only[mY]
def Chn(r:List (Nat×Tk)):Prop:=∀i x y,r[i]? =some x->r[i+1]? =some y->stk x.2 y.2=true->0<y.1
theorem zCf{a c:List (Nat×Tk)}{x:Nat×Tk}{e:Nat}(hok:∀y∈a++x::c,OkTk y.2)(hc:Chn (a++x::c)):Stops x.2.1 (lay c++List.replicate e 32):=by
 cases c with
 | nil=>exact zOl
 | cons y c=>
  show Stops x.2.1 (List.replicate y.1 32++(shw y.2++lay c)++List.replicate e 32);rw[mY]
  by_cases h0:0<y.1
  ·exact zIa h0 _
  ·have h1:y.1=0:=by lia
   rw[h1,aK,nH,mY];refine zSq (hok x (by simp)) (hok y (by simp)) ?_ _
   cases hs:stk x.2 y.2 with
   | false=>rfl
   | true=>
    refine absurd (hc a.length x y ?_ ?_ hs) h0
    ·rw[nO (mK _),aE];rfl
    ·rw[nO (tW _),show a.length+1 - a.length=1 by lia];rfl
noncomputable def jJ(S l:List Nat):Nat:=(l.takeWhile λc=>decide (c∈S)).length
theorem xZ{S:List Nat}:∀{x r:List Nat},(∀c∈x,c∈S)->(∀c r',r=c::r'->c∉S)->jJ S (x++r)=x.length
 | [],[],_,_=>rfl
 | [],c::r,_,h=>by
  unfold jJ;rw[nH,rX,mM (h c r rfl)];rfl
 | d::x,r,h1,h2=>by
  have ih:=xZ (S:=S) (x:=x) (r:=r) (λc hc=>h1 c (mR _ hc)) h2;unfold jJ at ih⊢;rw[nP,rX,nB (h1 d mH)];show(List.takeWhile _ (x++r)).length+1=x.length+1;rw[ih]
theorem zVg(S l:List Nat):jJ S l<=l.length:=(List.takeWhile_prefix _).length_le
theorem zVk{S l:List Nat}{j c:Nat}(hc:l[j]? =some c)(hj:j<=jJ S l):(c∈S↔j<jJ S l):=by
 induction l generalizing j with
 | nil=>cases hc
 | cons d l ih=>
  by_cases hd:d∈S
  ·have e:jJ S (d::l)=jJ S l+1:=by
    unfold jJ;rw[rX,nB hd];rfl
   rw[e] at hj⊢
   cases j with
   | zero=>
    have:d=c:=by simpa using hc
    rw[<-this];exact⟨λ_=>pO _,λ_=>hd⟩
   | succ j=>
    rw[sK] at hc;have:=ih hc (by lia);rw[this]
    lia
  ·have e:jJ S (d::l)=0:=by
    unfold jJ;rw[rX,mM hd];rfl
   rw[e] at hj⊢;have hj0:j=0:=by lia
   subst hj0;have:d=c:=by simpa using hc
   rw[<-this];exact⟨λz=>absurd z hd,λz=>absurd z (dD _)⟩
noncomputable def und:List Nat->List Nat
 | []=>[]
 | [c]=>[c]
 | c::d::r=>if c=39/\d=39 then 39::und r else c::und (d::r)
theorem zMd:∀x:List Nat,und (dbl x)=x
 | []=>rfl
 | c::x=>by
  have ih:=zMd x;rw[zCx];unfold rpl
  by_cases h:c=39
  ·rw[mL h,h]
   show und (39::39::dbl x)=39::x;rw[und,mL ⟨rfl,rfl⟩,ih]
  ·rw[mG h]
   show und (c::dbl x)=c::x
   cases e:dbl x with
   | nil=>rw[e] at ih;rw[<-ih];rfl
   | cons d r=>
    rw[und,mG λz=>h z.1,<-e,ih]
theorem zBh:∀(n:Nat)(l:List Nat),(∀k,k<n->¬(l[k]? =some 39/\l[k+1]? =some 39))->und l=l.take n++und (l.drop n)
 | 0,l,_=>rfl
 | n+1,[],_=>rfl
 | n+1,[c],_=>by
  rw[tJ,List.drop_succ_cons,List.drop_nil,cS];rfl
 | n+1,c::d::r,h=>by
  have h0:=h 0 (pO _);have h0:¬(c=39/\d=39):=λz=>h0 ⟨by rw[z.1];rfl,by rw[z.2];rfl⟩;rw[und,mG h0,zBh n (d::r) λk hk=>?_]
  ·rfl
  ·have:=h (k+1) (by lia)
   simpa using this
theorem uJ(z:Str):∀(ps:List Str)(p:Str),ts (glued z (p::ps))=ts p++ps.flatMap λq=>ts z++ts q:=by
 intro ps p;show(List.foldl (λacc p=>acc++z.cps++p.cps) p.cps ps).toList=p.cps.toList++_;generalize p.cps=a
 induction ps generalizing a with
 | nil=>simp
 | cons q ps ih=>
  rw[bT,ih];simp[ts,mY]
theorem zKd(L:List Nat)(i j:Nat):ts (strSub (tx L) i j)=(L.drop i).take (j - i):=by
 show(L.toArray.extract i j).toList=_;simp[List.extract_eq_drop_take]
theorem zKq(L:List Nat)(k:Nat):StrLaws.At (tx L) (tx [39,39]) L.length k↔L[k]? =some 39/\L[k+1]? =some 39:=by
 have e:(subAt (tx L) (tx [39,39]) k=true)↔(L.drop k).take 2= [39,39]:=by
  show((L.toArray.extract k (k+2))== #[39,39])=true↔_;rw[aW];constructor
  ·intro h
   have:=congrArg Array.toList h
   simpa [List.extract_eq_drop_take] using this
  ·intro h
   apply Array.toList_inj.mp
   simpa [List.extract_eq_drop_take] using h
 show k+2<=L.length/\_↔_;rw[e];constructor
 ·rintro⟨h1,h2⟩
  have a0:=congrArg (λl:List Nat=>l[0]?) h2;have a1:=congrArg (λl:List Nat=>l[1]?) h2;simp only[List.getElem?_take,rV] at a0 a1;exact⟨by simpa using a0,by simpa using a1⟩
 ·rintro⟨h1,h2⟩
  obtain⟨l2,e2⟩:=nF.mp h2;obtain⟨l1,e1⟩:=nF.mp h1;refine⟨by lia, ?_⟩;rw[sF l1,sF l2,e1,e2];rfl
noncomputable def zOs(L:List Nat)(lo:Nat)(occs:List Nat):List Str:=((lo::occs.map (· +2)).zip (occs++ [L.length])).map λx=>strSub (tx L) x.1 x.2
theorem zNq(L:List Nat)(lo c:Nat)(r:List Nat):zOs L lo (c::r)=strSub (tx L) lo c::zOs L (c+2) r:=rfl
theorem zWb(L:List Nat)(lo:Nat):∀occs:List Nat,∃q qs,zOs L lo occs=q::qs
 | []=>⟨_,_,rfl⟩
 | c::r=>⟨_,_,rfl⟩
theorem zHu(L:List Nat){f:Nat}(hf:∀k,f<=k->¬StrLaws.At (tx L) (tx [39,39]) L.length k):∀(occs:List Nat)(lo:Nat),StrLaws.ChainG (tx L) (tx [39,39]) L.length lo occs f->ts (glued (tx [39]) (zOs L lo occs))=und (L.drop lo)
 | [],lo,h=>by
  rw[StrLaws.ChainG.eq_1] at h;subst h;have e:zOs L f []= [strSub (tx L) f L.length]:=rfl;rw[e,uJ,zKd,List.flatMap_nil,mN];have e2:(L.drop f).take (L.length - f)=L.drop f:=rJ (by rw[nG];exact mK _);have u:=zBh (L.drop f).length (L.drop f) λk _ z=>by
   refine hf (f+k) (bJ _ _) ((zKq L _).mpr ⟨?_, ?_⟩)
   ·simpa [rV] using z.1
   ·simpa [rV,Nat.add_assoc] using z.2
  rw[e2,u,sQ,cY];exact(mN _).symm
 | c::r,lo,h=>by
  rw[StrLaws.ChainG.eq_2] at h;obtain⟨h1,h2,h3,h4⟩:=h;have ih:=zHu L hf r (c+2) h4;obtain⟨q,qs,e⟩:=zWb L (c+2) r;rw[zNq,e,uJ,zKd,cU,mY];rw[e,uJ] at ih;rw[ih];have u:=zBh (c - lo) (L.drop lo) λk hk z=>by
   refine h3 (lo+k) (bJ _ _) (by lia) ((zKq L _).mpr ⟨?_, ?_⟩)
   ·simpa [rV] using z.1
   ·simpa [rV,Nat.add_assoc] using z.2
  rw[u,nS,show lo+(c - lo)=c by lia];obtain⟨a0,a1⟩:=(zKq L c).mp h2;obtain⟨l2,e2⟩:=nF.mp a1;obtain⟨l1,e1⟩:=nF.mp a0;rw[sF l1,sF l2,e1,e2,und,mL ⟨rfl,rfl⟩]
  rfl
theorem repl2(L:List Nat):Txt.replace (tx L) (tx [39,39]) (tx [39])=tx (und L):=by
 obtain⟨f,hc,hf⟩:=StrLaws.occ_tight (tx L) (tx [39,39]) (by decide);rw[show(tx L).length=L.length from zU L] at hc hf;have h:=zHu L hf _ 0 hc;rw[sA] at h;unfold Txt.replace;rw[show(tx L).length=L.length from zU L];split
 ·rename_i c
  have c':(occurrences (tx L) (tx [39,39]) 0 L.length (L.length+1)).isEmpty=true:=by
   rw[show((tx [39,39]).length==0 && (tx [39]).length==0)=false from rfl,bD] at c;exact c
  rw[List.isEmpty_iff.mp c'] at h;have e:zOs L 0 []= [strSub (tx L) 0 L.length]:=rfl;rw[e,uJ,zKd,List.flatMap_nil,mN,sA,Nat.sub_zero,sQ] at h;rw[<-h]
 ·apply kD
  rw[yK,<-h]
  rfl
theorem zOk(x:List Nat):Txt.replace (tx (dbl x)) (tx [39,39]) (tx [39])=tx x:=by rw[repl2,zMd]
theorem qA{L u rest:List Nat}{lo:Nat}(h:L.drop lo=u++39::rest)(hu:39∉u):Txt.find3 (tx L) (tx [39]) (lo:Int)=((lo+u.length:Nat):Int):=by
 have hl:=congrArg List.length h;rw[nG,mC,mE] at hl;have hlo:fromIndex (tx L).length (lo:Int)=lo:=by
  unfold fromIndex;rw[mG (by lia)]
  lia
 have hg:∀j,(tx L).cps.getD (lo+j) 0=(u++39::rest).getD j 0:=λj=>by
  rw[<-h];show L.toArray.getD (lo+j) 0=_;simp[rZ]
 have hat:(tx L).cps.getD (lo+u.length) 0=39:=by
  rw[hg,rZ,nO (mK _),aE];rfl
 have hbe:∀j,j<u.length->(tx L).cps.getD (lo+j) 0≠39:=λj hj z=>by
  rw[hg,rZ,nQ hj] at z;rw[pY hj] at z;exact hu (by rw[<-show u[j]=39 from z];exact cW hj)
 have hln:(tx L).length=L.length:=zU L;rcases StrLaws.find3_spec (tx L) 39 (lo:Int) with⟨_,n⟩|⟨k,e,k1,k2,k3,k4⟩
 ·rw[hlo] at n
  exact absurd hat (n (lo+u.length) (by lia) (by lia))
 ·rw[hlo] at k1 k4
  rw[show(tx [39]:Str)=⟨#[39]⟩ from rfl,e]
  congr 1
  rcases Nat.lt_trichotomy k (lo+u.length) with c | c | c
  ·obtain⟨j,rfl⟩:=Nat.exists_eq_add_of_le k1
   exact absurd k3 (hbe j (by lia))
  ·exact c
  ·exact absurd hat (k4 _ (by lia) c)
end L2
namespace L2
open PySem PySem.Spec PyProof.Rows
section
variable{P:Program}{w:World}{A:Around}{s:Shared}{E:Value->Shared->Prop}
end
section
variable{X:Cx}
end
structure Dm(P:Program)(w:World)(K:W.Frag)(mg:Str->Option Value)(base:Heap)(k:Nat)(C:Addr)(m:Str)(ps:List Str)(sp:Sp):Prop where
 ex:∃(f:Addr)(fd:FuncData),Cls K C/\zGy K C m f/\FnOk P w K mg base CX0 k f fd ps sp/\Binds K fd ps []
structure Dk(P:Program)(w:World)(K:W.Frag)(mg:Str->Option Value)(base:Heap)(k:Nat)(x:Str)(C:Addr)(ps:List Str)(sp:Sp):Prop where
 ex:∃(f:Addr)(fd:FuncData),Mk K C f/\FnOk P w K mg base CX0 k f fd ps sp/\Binds K fd ps []/\mg x=some (.ref C)
section
variable{X:Cx}{k j:Nat}{C:Addr}{x m:Str}{ps:List Str}{sp:Sp}{e o:Expr}{es:List Expr}{t:TA}{ta:TE}{p pos apos:Pos}
theorem zQg{pl:Sem Bool}(D:Dm X.prog X.w X.K X.mg X.base k C m ps sp)(hr:Room j X.A)(hj:k<=j)(he:PE X o ta)(ha:PA X (e::es) t)
  (hst:starEach (e::es) X.env=(false,eval e X.env)::starEach es X.env:=by rfl) (hpl:(backTo pos (starEach es X.env)).any (·.1)=false:=by rfl)
  (ht:eval (.Call (.Attribute o m apos) (e::es) [] pos) X.env=(do
   let ov <-eval o X.env
   standAt apos.atName
   let (f,first) <-holding [ov] (getMethod ov m pl)
   callWith pos f first (backTo pos (starEach (e::es) X.env)) (backToKw pos (keywordEach [] X.env))):=by rfl):
  PE X (.Call (.Attribute o m apos) (e::es) [] pos) (zHc C m sp [] E0 ta t):=by
 obtain⟨f,fd,h1,h2,h3,h4⟩:=D.ex;exact zMo he h1 h2 h3 (hr.mono hj) h4 .nil zQi ha hst hpl ht
theorem pe_mk(D:Dk X.prog X.w X.K X.mg X.base k x C ps sp)(hr:Room j X.A)(hj:k+1<=j)(hg:Gl X x)(ha:PA X (e::es) t)(hdb:(x==("__debug__" :Str))=false:=by decide)
  (he:starEach (e::es) X.env=(false,eval e X.env)::starEach es X.env:=by rfl) (hpl:(backTo pos (starEach es X.env)).any (·.1)=false:=by rfl):PE X (.Call (.Name x p) (e::es) [] pos) (zLy C sp [] E0 t):=by
 obtain⟨f,fd,h1,h2,h3,h4⟩:=D.ex;exact zUt h1 h2 (hr.mono hj) hg h4 h3 .nil zQi ha hdb he hpl
end
noncomputable def zBd:List (Key×V):=[(Sum.inr (Str.ofString "none"), .non),(Sum.inr (Str.ofString "yes"), .bl true),(Sum.inr (Str.ofString "no"), .bl false)]
noncomputable def zGr:List (Key×Value):=[(Sum.inr (Str.ofString "none"), .none),(Sum.inr (Str.ofString "yes"), .bool true),(Sum.inr (Str.ofString "no"), .bool false)]
structure Wd(P:Program)(w:World)(K:W.Frag)(mg:Str->Option Value)(wa:Addr):Prop where
 at_:mg "WORDS" =some (.ref wa)
 ns:(wa==sysModules)=false
 dd:∀h:Heap,K.In h->h.DictOf (yR P w) wa zGr
theorem words_kv:KV zBd zGr:=.cons ⟨rfl,rfl⟩ (.cons ⟨rfl,rfl⟩ (.cons ⟨rfl,rfl⟩ .nil))
section
variable{X:Cx}{wa:Addr}
theorem zXe{x:Str}{p:Pos}(hg:Gl X x)(h:X.mg x=some (.ref wa))(hdb:(x==("__debug__" :Str))=false:=by decide):PE X (.Name x p) (tC (.ref wa)):=jK (v:=.ref wa) hg h rfl hdb
def rInW(wa:Addr):R2:=λx y H Q=>∃s,x= .str s/\y= .ref wa/\Q (.bl (xM zBd (Sum.inr s)).isSome) H
theorem zPk(W:Wd X.prog X.w X.K X.mg wa):OpR X (compareOp .In) (rInW wa):=by
 intro pins s σ H x y v u Q I rx ry h;obtain⟨z,rfl,rfl,q⟩:=h;cases ry;refine wpAny_in_of (zCk (k:=Sum.inr z) rx) W.ns (W.dd _ I.kIn).mapOf ?_;rw[<-(words_kv.val (Sum.inr z)).isSome_eq];exact⟨.bl _,H,I.tok _,rfl,q⟩
def rIxW(wa:Addr):R2:=λx y H Q=>∃s v,x= .ref wa/\y= .str s/\xM zBd (Sum.inr s)=some v/\Q v H
theorem pe_kd{o i:Expr}{td ty:TE}{pos:Pos}(W:Wd X.prog X.w X.K X.mg wa)(ho:PE X o td)(hi:PE X i ty)(hs:zZl i):PE X (.Subscript o i pos) (tOp (rIxW wa) td ty):=by
 intro pins s σ H Q I h;refine zLm PySem.F.slot_dict_getitem.lookup hs (thn (ho pins s σ H _ I h) λu s1 z_=>?_);obtain⟨x,H1,I1,rx,q1⟩:=z_;refine thn (hi pins s1 σ H1 _ I1 q1) λiv s2 z_=>?_;obtain⟨y,H2,I2,ry,z,vv,ex,ey,hv,q2⟩:=z_;subst ex ey;obtain rfl:u=Value.ref wa:=rx;have dd:=W.dd _ I2.kIn;obtain⟨w',hw,rw'⟩:=RelO.some_of (v:=vv) (o:=valueAt zGr (Sum.inr z)) (by rw[<-hv];exact words_kv.val (Sum.inr z));exact⟨dd.typeIs,wpAny_getItem_of (zCk (k:=Sum.inr z) ry) dd.mapOf hw ⟨vv,H2,I2.tok _,rw',q2⟩⟩
def rLst:V->List V->Hp->VK->Prop:=λx vs H Q=>∃z y,x= .str z/\vs= [.str y]/\z.length<=sizeLine/\Q (.str (Txt.lstripChars z y)) H
theorem zNa:MtR X "str.lstrip" rLst:=by
 intro pins s σ H x vs v us Q I rx rv h;obtain⟨z,y,rfl,rfl,hz,q⟩:=h;obtain⟨t,rfl⟩:=rx;obtain⟨u1,rfl,⟨t1,rfl⟩⟩:=jL rv;refine call_gives F.slot_str_lstrip (tD _ _ _) F.entry_str_lstrip (F.args_str_lstrip_2 _ _) (gives_str_lstrip_chars z y t t1) (zMt ⟨?_,λt' k hk=>?_⟩)
 ·split
  ·exact hz
  ·exact fits_stripped _ _ _ hz
 ·exact⟨.str _,H,I.tok _,⟨_,rfl⟩,q⟩
theorem zFm{z:List Nat}{d:Nat}{r:List Nat}(hs:z= []\/z= [45])(hd:d≠45):Txt.lstripChars (tx (z++d::r)) (tx [45])=tx (d::r):=by
 unfold Txt.lstripChars;rw[stripBy_eq];have hc:(tx [45]).cps.contains d=false:=by
  show(#[45]:Array Nat).contains d=false;simp;exact hd
 have hc2:(tx [45]).cps.contains 45=true:=by decide+kernel
 have e0:(tx (z++d::r)).cps.toList=z++d::r:=rfl;have hlo:stripLo (tx [45]).cps.contains true (tx (z++d::r))=z.length:=by
  unfold stripLo;rw[mL rfl,e0];rcases hs with rfl | rfl
  ·rw[nH,rX,hc];rfl
  ·show(List.takeWhile _ (45::d::r)).length=1
   rw[rX,hc2,rX,hc];rfl
 rw[hlo];unfold stripHi;rw[mG (by decide)];show(⟨(z++d::r).toArray.extract z.length (tx (z++d::r)).length⟩:Str)=tx (d::r);rw[zU];show(⟨_⟩:Str)=⟨(d::r).toArray⟩
 congr 1
 rw[<-Array.toList_inj];simp
end
end L2
namespace L2
open PySem PySem.Spec PyProof.Rows PySem.W.KIN
end L2
namespace L2
open PySem PySem.Spec PyProof.Rows
def qV(H H':Hp):Hp:=λb=>match H b with
 | none=>H' b
 | some _=>none
theorem qC{H H':Hp}{b:Addr}(h:H b=none):qV H H' b=H' b:=by unfold qV;rw[h]
theorem jX{H H':Hp}{b:Addr}{o:HO}(e:qV H H' b=some o):H b=none:=by
 unfold qV at e
 cases h:H b with
 | none=>rfl
 | some _=>rw[h] at e;cases e
end L2
namespace L2
open PySem PySem.Spec PyProof.Rows PySem.W
structure Kp(fs xs:List Addr)(h h':Heap):Prop where
 keep:∀b o,h.get? b=some o->b∉fs->b∉xs->h'.get? b=some o
 slot:∀b o,h.get? b=some o->b∈fs->b∉xs->∃sl,h'.get? b=some {o with slots:=sl}
theorem Kp.refl{fs xs:List Addr}{h:Heap}:Kp fs xs h h:=⟨λ_ _ e _ _=>e,λ_ o e _ _=>⟨o.slots,e⟩⟩
theorem Kp.trans{fs xs ys zs:List Addr}{h h1 h2:Heap}(a:Kp fs xs h h1)(b:Kp fs ys h1 h2)(hz:∀c,c∈xs\/(c∈ys/\h.get? c≠none)->c∈zs):Kp fs zs h h2 where
 keep c o e hf hx:=b.keep c o (a.keep c o e hf λz=>hx (hz c (.inl z))) hf λz=>hx (hz c (.inr ⟨z,by rw[e];exact λz=>nomatch z⟩))
 slot c o e hf hx:=by
  obtain⟨sl,e1⟩:=a.slot c o e hf λz=>hx (hz c (.inl z));obtain⟨sl2,e2⟩:=b.slot c _ e1 hf λz=>hx (hz c (.inr ⟨z,by rw[e];exact λz=>nomatch z⟩));exact⟨sl2,e2⟩
theorem zUi{base h h':Heap}{fs xs:List Addr}(k:Kp fs xs h h'):∀{l:List Env},(∀b∈frs l,b∈fs/\b∉xs)->h.FunFrames base l->h'.FunFrames base l
 | [],_,_=>by rw[Heap.FunFrames.eq_1];exact nJ
 | env::l,hm,hf=>by
  rw[Heap.FunFrames.eq_2] at hf⊢;obtain⟨a,⟨L,o,e1,e2,e3,e4⟩,r⟩:=hf;have hL:L∈frs (env::l):=by unfold frs;rw[rN,e1];exact mH
  obtain⟨sl,e5⟩:=k.slot L o e3 (hm L hL).1 (hm L hL).2;exact⟨a,⟨L,_,e1,e2,e5,e4⟩,zUi k (λb hb=>hm b (by unfold frs;rw[rN,e1];exact mR _ hb)) r⟩
def Fl(φ:Value->Prop)(h:Heap)(x T:Addr)(C:Value)(d:Option Addr)(a0 fl:Value):Prop:=∃(oe:Obj)(vs:Array Value)(oT:Obj)(ts:Array Value),h.get? x=some oe/\oe.cls=C/\oe.dict=d/\oe.data= .fields vs/\vs[0]? =some a0/\vs[1]? =some (.ref T)/\T≠x/\h.get? T=some oT/\oT.data= .fields ts/\ts[3]? =some fl/\∃cx,vs[2]? =some cx/\φ cx
theorem zWs{o:Obj}{vs:Array Value}(h:o.data= .fields vs)(f:Array Value->Array Value):Obj.mapFields f o={o with data:=.fields (f vs)}:=by
 obtain⟨c,d,da,sl⟩:=o;cases h
 rfl
section
variable{M:Model}{A:Around}{E:Value->Shared->Prop}{s:Shared}{env:Env}{outer:List Env}{x T L:Addr}{C a0 fl:Value}{d:Option Addr}{base:Heap}{Q:Unit->Shared->Prop}{φ:Value->Prop}
theorem zFo{h:Heap}{a:Addr}{o:Obj}{vs:Array Value}(e:h.get? a=some o)(hd:o.data= .fields vs)(i:Nat)(v:Value):(h.update a (Obj.mapFields λxs=>xs.setIfInBounds i v)).get? a=some {o with data:=.fields (vs.setIfInBounds i v)}:=by
 rw[<-zWs hd (λxs=>xs.setIfInBounds i v)];exact tZ _ e (by rw[zWs hd];rfl)
theorem qG(F:Fl φ s.heap x T C d a0 fl)(q:∀h',Fl φ h' x T C d a0 .none->Kp [] [T] s.heap h'->Q () {s with heap:=h'}):wpAny M A (setFlight (.ref x) none) Q E s:=by
 obtain⟨oe,vs,oT,ts,e1,e2,e3,e4,e5,e6,e7,e8,e9,e10,e11⟩:=F;unfold setFlight;refine mD (rC e1 e4 e6 ?_);rw[mL (by rfl)];have hsz:3<ts.size:=by
  obtain⟨z,_⟩:=rH.mp e10;exact z
 refine sN e8 e9 hsz ?_;have hT:=zFo e8 e9 3 .none;refine q _ ⟨oe,vs,_,_,(mZ _ _ e7).trans e1,e2,e3,e4,e5,e6,e7,hT,rfl, ?_,e11⟩ ⟨λb o e _ hb=>(mZ _ _ λz=>hb (by rw[z];exact mH)).trans e,λb o e hb=>nomatch hb⟩;show(ts.setIfInBounds 3 Value.none)[3]? =some Value.none;rw[aJ hsz]
theorem zUl{oe:Obj}{vs:Array Value}{head:Value}{b:Bool}(hfr:A.frames=some (env::outer))(hfu:s.heap.FunFrames base (env::outer))(hL:env.frame=some L)(e1:s.heap.get? x=some oe)(hx:x∉frs (env::outer))(e4:oe.data= .fields vs)(e5:vs[0]? =some a0)(hs:1<vs.size)(e11:∃cx,vs[2]? =some cx/\φ cx)
  (q:∀h' T',Fl φ h' x T' oe.cls oe.dict a0 (rawInt L)->Kp (frs (env::outer)) [x] s.heap h'->s.heap.get? T'=none->Q () {s with heap:=h'}):
  wpAny M A (do
   let a <-PySem.frameOf env;let pl <-entryPlaceOf L b;let b <-EntryCells.newEntry head a .none (rawInt L) .none pl
   setField (.ref x) 1 b) Q E s:=by
 refine mD (wpAny_frameOf_fun hfr hfu hL λh1 so=>?_);refine mD (wpAny_entryPlaceOf λpl hpl=>?_);refine mD ?_;unfold EntryCells.newEntry newFields;have hpz:(([head,Value.ref L,Value.none,rawInt L,Value.none]++if pl.isEmpty=true then List.replicate 6 Value.none else pl).toArray).size<=sizeLine+2:=by
  have:(if pl.isEmpty=true then List.replicate 6 Value.none else pl).length<=6:=by
   rcases hpl with rfl |⟨a,b,c,d,c9,b10,_,rfl⟩<;>simp
  rw[nE,mC,mJ];simp only[mE,nL]
  lia
 refine aY ?_ hpz;obtain⟨z1,z2,z3⟩:=so;have x1:h1.get? x=some oe:=by rw[z2 x hx];exact e1
 have hlt:x<h1.objs.size:=mW x1;refine sN (mI _ x1) e4 hs ?_;have hnew:h1.objs.size≠x:=aP hlt;have hx2:=zFo (mI (o:={cls:=.type "traceback",data:=.fields ([head,Value.ref L,Value.none,rawInt L,Value.none]++if pl.isEmpty=true then List.replicate 6 Value.none else pl).toArray}) (h:=h1) x1) e4 1 (.ref h1.objs.size);refine q _ h1.objs.size ⟨_,_,_,_,hx2,rfl,rfl,rfl, ?_, ?_,hnew,(mZ _ _ (Ne.symm hnew)).trans (nI _ rfl),rfl, ?_,e11.imp λcx z=>⟨(sG (by decide)).trans z.1,z.2⟩⟩ ⟨λb o e hb hb2=>?_,λb o e hb hb2=>?_⟩ ?_
 ·rw[sG (by decide)];exact e5
 ·rw[aJ hs]
 ·simp
 ·refine(mZ _ _ λz=>hb2 (by rw[z];exact mH)).trans (mI _ ?_)
  rw[z2 b hb];exact e
 ·obtain⟨sl,e'⟩:=z3 b o e
  exact⟨sl,(mZ _ _ λz=>hb2 (by rw[z];exact mH)).trans (mI _ e')⟩
 ·rw[z1]
  exact sZ (mK _)
theorem zOz{oe:Obj}{vs:Array Value}(hfr:A.frames=some (env::outer))(hfu:s.heap.FunFrames base (env::outer))(hL:env.frame=some L)(e1:s.heap.get? x=some oe)(hx:x∉frs (env::outer))(e4:oe.data= .fields vs)(e5:vs[0]? =some a0)(e6:vs[1]? =some .none)(e11:∃cx,vs[2]? =some cx/\φ cx)
  (q:∀h' T',Fl φ h' x T' oe.cls oe.dict a0 (rawInt L)->Kp (frs (env::outer)) [x] s.heap h'->s.heap.get? T'=none->Q () {s with heap:=h'}):wpAny M A (noteFrame (.ref x) env) Q E s:=by
 have hs:1<vs.size:=by
  obtain⟨z,_⟩:=rH.mp e6;exact z
 unfold noteFrame;rw[hL];refine mD (rC e1 e4 e6 ?_);exact zUl hfr hfu hL e1 hx e4 e5 hs e11 q
theorem zMi(hfr:A.frames=some (env::outer))(hfu:s.heap.FunFrames base (env::outer))(hL:env.frame=some L)(hx:x∉frs (env::outer))(hT:T∉frs (env::outer))(F:Fl φ s.heap x T C d a0 .none)
  (q:∀h' T',Fl φ h' x T' C d a0 (rawInt L)->Kp (frs (env::outer)) [x,T] s.heap h'->s.heap.get? T'=none->Q () {s with heap:=h'}):wpAny M A (noteFrame (.ref x) env) Q E s:=by
 obtain⟨oe,vs,oT,ts,e1,e2,e3,e4,e5,e6,e7,e8,e9,e10,e11⟩:=F;have hs:1<vs.size:=by
  obtain⟨z,_⟩:=rH.mp e6;exact z
 have hsz:3<ts.size:=by
  obtain⟨z,_⟩:=rH.mp e10;exact z
 unfold noteFrame;rw[hL];refine mD (rC e1 e4 e6 ?_);rw[mL (by rfl)];refine mD (rC e8 e9 e10 ?_);rw[mG (by intro z;cases (eq_of_beq z))];refine mD (sN e8 e9 hsz ?_);have k1:Kp (frs (env::outer)) [T] s.heap (s.heap.update T (Obj.mapFields λx=>x.setIfInBounds 3 Value.none)):=⟨λb o e _ hb=>(mZ _ _ λz=>hb (by rw[z];exact mH)).trans e,λb o e hb hb2=>⟨o.slots,(mZ _ _ λz=>hb2 (by rw[z];exact mH)).trans e⟩⟩;have hfu2:(s.heap.update T (Obj.mapFields λx=>x.setIfInBounds 3 Value.none)).FunFrames base (env::outer):=zUi k1 (λb hb=>⟨hb,λz=>hT (by rw[<-mS.mp z];exact hb)⟩) hfu;have x2:(s.heap.update T (Obj.mapFields λx=>x.setIfInBounds 3 Value.none)).get? x=some oe:=(mZ _ _ e7).trans e1;have q':=zUl (E:=E) (M:=M) (A:=A) (head:=.ref T) (b:=true) (s:={s with heap:=s.heap.update T (Obj.mapFields λx=>x.setIfInBounds 3 Value.none)}) (Q:=Q) hfr hfu2 hL x2 hx e4 e5 hs e11;rw[e2,e3] at q';refine q' λh' T' f k n=>q h' T' f (k1.trans k λc hc=>?_) ?_
 ·rcases hc with z | z
  ·rw[mS.mp z];simp
  ·rw[mS.mp z.1];simp
 ·cases e:s.heap.get? T' with
  | none=>rfl
  | some o=>
   by_cases z:T'=T
   ·subst z
    rw[zFo e8 e9] at n;cases n
   ·have:=k1.keep
    rw[(mZ s.heap _ (Ne.symm z)).trans e] at n;cases n
end
section
variable{X:Cx}{pins:List (Addr×Obj)}{σ:St}{H H':Hp}{s s':Shared}{φ:Value->Prop}
theorem ObjOk.got{P:Program}{w:World}{h:Heap}{a:Addr}{o:HO}(x:ObjOk P w H h a o):∃ob,h.get? a=some ob:=by
 induction o with
 | lst xs=>obtain⟨_,its,n,_,e⟩:=x;exact⟨_,e⟩
 | tup xs=>obtain⟨_,its,_,ob,e,_⟩:=x;exact⟨_,e⟩
 | dK kvs=>obtain⟨_,_,vs,_,ob,es,ep,e,_⟩:=x;exact⟨_,e⟩
 | dT kvs=>obtain⟨_,_,xs,_,ob,es,ep,e,_⟩:=x;exact⟨_,e⟩
 | set S n=>obtain⟨ob,es,ep,t,e,_⟩:=x;exact⟨_,e⟩
 | ins C dx fs=>obtain⟨_,_,_,e,_⟩:=x;exact⟨_,e⟩
 | own y=>exact x
 | xd fs=>obtain⟨mA,⟨od,es,ep,e,_⟩,_⟩:=x;exact⟨_,e⟩
 | rng lo hi=>obtain⟨t,u,v,e⟩:=x;exact⟨_,e⟩
 | frz ob u ih=>exact⟨_,x.1⟩
 | tbl ps=>exact⟨_,(show h.get? a=some _ from x)⟩
 | met f y=>exact⟨_,(show h.get? a=some _ from x)⟩
 | ext φ=>exact x.2.1
theorem zGg{B h:Heap}:∀{l:List Env},h.FunFrames B l->∀b∈frs l,∃o,h.get? b=some o/\∀vs:Array Value,o.data≠ .fields vs
 | [],_,b,hb=>nomatch hb
 | env::l,hf,b,hb=>by
  rw[Heap.FunFrames.eq_2] at hf;obtain⟨_,⟨L,o,e1,_,e3,e4⟩,r⟩:=hf;unfold frs at hb;rw[rN,e1] at hb;rcases mF.mp hb with z | z
  ·rw[z];exact⟨o,e3,e4⟩
  ·exact zGg r b z
def CXE(φ:Value->Prop)(P:Program)(w:World):CXT:=λouter H s E e s'=>∃(x T:Addr)(C:Value)(d:Option Addr)(a0:Value)(H':Hp),e= .ref x/\s'.os=s.os/\AllBare s'.gens/\Un (frs outer) [] H H' s.heap s'.heap/\HOk P w H' s'.heap/\
 s.heap.get? x=none/\s.heap.get? T=none/\H' x=none/\H' T=none/\Fl φ s'.heap x T C d a0 .none/\E C d H'
theorem zLi{fs xs:List Addr}{H0 H':Hp}{h0 h h':Heap}(u:Un fs [] H0 H' h0 h)(k:Kp fs xs h h')(h1:∀b∈xs,h0.get? b=none):Un fs [] H0 H' h0 h' where
 keep b o e n hf hx:=k.keep b o (u.keep b o e n hf hx) hf λz=>by rw[h1 b z] at e;cases e
 slot b o e n hf hx:=by
  obtain⟨sl,e1⟩:=u.slot b o e n hf hx;obtain⟨sl2,e2⟩:=k.slot b _ e1 hf λz=>by rw[h1 b z] at e;cases e
  exact⟨sl2,e2⟩
 free b o e n hx:=u.free b o e n hx
 there b o e hx:=by
  obtain⟨o',e'⟩:=u.there b o e hx;have nx:b∉xs:=λz=>by rw[h1 b z] at e;cases e
  by_cases hf:b∈fs
  ·obtain⟨sl2,e2⟩:=k.slot b _ e' hf nx
   exact⟨_,e2⟩
  ·exact⟨o',k.keep b o' e' hf nx⟩
 tups:=u.tups
 frzs:=u.frzs
 tbls:=u.tbls
theorem zFc{P:Program}{w:World}{H:Hp}{fs xs:List Addr}{h h':Heap}(x:HOk P w H h)(k:Kp fs xs h h')(hf:∀b∈fs,H b=none)(hx:∀b∈xs,H b=none):HOk P w H h':=λa o e=>
 (x a o e).stay (λb u hb q=>by
  have hn:H b≠none:=by
   rcases hb with z | z
   ·rw[z,e];exact λz=>nomatch z
   ·rw[z];exact λz=>nomatch z
  exact k.keep b u q (λz=>hn (hf b z)) λz=>hn (hx b z)) (λ_ q=>q) λ_ _ q=>q
theorem kJ{fs fs' xs:List Addr}{h h':Heap}(k:Kp fs xs h h')(hm:∀b,b∈fs->b∈fs'\/b∈xs):Kp fs' xs h h' where
 keep b o e hf hx:=k.keep b o e (λz=>(hm b z).elim hf hx) hx
 slot b o e hf hx:=by
  by_cases z:b∈fs
  ·exact k.slot b o e z hx
  ·exact⟨o.slots,k.keep b o e z hx⟩
theorem zVb{E:XK}{e:Value}{EE:Value->Shared->Prop}(I:Inv X pins σ H s)(hs:X.stack=X.env::X.outer)(hf:X.env.frame=some X.env.locals)(hex:X.ex= [])(h:CXE φ X.prog X.w X.stack H s E e s'):
  wpAny (model X.prog X.w) X.A (leaving X.env e) (λ_ s3=>CXE φ X.prog X.w X.outer X.H₀ X.s₀ E e s3) EE s':=by
 obtain⟨x,T,C,d,a0,H',rfl,os,bare,un,hok,hx,hT,hHx,hHT,fl,q⟩:=h;have I2:Inv X pins σ H' s':=I.call' os un hok bare (λb z=>absurd z (by simp));have old:∀b,s.heap.get? b=none->X.s₀.heap.get? b=none:=λb hb=>by
  cases e:X.s₀.heap.get? b with
  | none=>rfl
  | some o=>
   obtain⟨o',e'⟩:=I.base.there b o e (by rw[hex];exact λz=>nomatch z);rw[hb] at e';cases e'
 have hfs:frs X.stack=X.env.locals::X.fs:=by
  rw[hs];unfold frs;rw[rN,hf];rfl
 have hloc:X.s₀.heap.get? X.env.locals=none:=sZ I.ok.above;have hfr:=I.ok.frames;rw[hs] at hfr;have nfr:∀b,s.heap.get? b=none->b∉frs X.stack:=λb hb z=>by
  obtain⟨o,e,_⟩:=zGg I.stack b z;rw[hb] at e;cases e
 have nx:=nfr x hx;have nT:=nfr T hT;have st:=I2.stack;rw[hs] at nx nT st;unfold leaving;refine mD (zMi hfr st hf nx nT fl λh1 T1 f1 k1 n1=>?_);refine qG f1 λh2 f2 k2=>?_;rw[<-hs] at k1;have hbase:=I2.base;rw[hex] at hbase;have hT1H:H' T1=none:=by
  cases e:H' T1 with
  | none=>rfl
  | some o=>
   obtain⟨ob,hob⟩:=ObjOk.got (I2.hok T1 o e);rw[n1] at hob;cases hob
 have hT1o:X.s₀.heap.get? T1=none:=by
  cases e:X.s₀.heap.get? T1 with
  | none=>rfl
  | some o=>
   obtain⟨o',e'⟩:=hbase.there T1 o e (λz=>nomatch z);rw[n1] at e';cases e'
 have k3:Kp (frs X.stack) [x,T,T1] s'.heap h2:=k1.trans (kJ k2 λb hb=>nomatch hb) λc hc=>by
  rcases hc with z | z
  ·rcases mF.mp z with z | z
   ·rw[z];simp
   ·rw[mS.mp z];simp
  ·rw[mS.mp z.1];simp
 have k4:Kp X.fs [x,T,T1,X.env.locals] s'.heap h2:=by
  have k5:Kp (frs X.stack) [x,T,T1,X.env.locals] s'.heap h2:=k3.trans Kp.refl (ys:=[]) λc hc=>by
   rcases hc with z | z
   ·rcases mF.mp z with z | z
    ·rw[z];simp
    ·rcases mF.mp z with z | z
     ·rw[z];simp
     ·rw[mS.mp z];simp
   ·exact nomatch z.1
  refine kJ k5 λb hb=>?_;rw[hfs] at hb;rcases mF.mp hb with z | z
  ·rw[z];exact .inr (by simp)
  ·exact .inl z
 refine⟨x,T1,C,d,a0,H',rfl,I2.os,I2.bare,zLi hbase k4 λb hb=>?_,zFc I2.hok k3 I2.stkFree λb hb=>?_,old x hx,hT1o,hHx,hT1H,f2,q⟩
 ·rcases mF.mp hb with z | z
  ·rw[z];exact old x hx
  ·rcases mF.mp z with z | z
   ·rw[z];exact old T hT
   ·rcases mF.mp z with z | z
    ·rw[z];exact hT1o
    ·rw[mS.mp z];exact hloc
 ·rcases mF.mp hb with z | z
  ·rw[z];exact hHx
  ·rcases mF.mp z with z | z
   ·rw[z];exact hHT
   ·rw[mS.mp z];exact hT1H
end
end L2
namespace L2
open PySem PySem.Spec PyProof.Rows PySem.W
def zWf(nm:Str)(C N:Addr)(bm:List Value)(o:Obj):Prop:=∃(q:Str)(bs:List Value)(hdct:Bool)(sn:List Str)(sub:List Value)(ab:Bool)(col:Option Bool)(dd:Option Addr)(k0 k1 k2 k3 k5:Option Value),o=excClassObj nm q C N bs bm hdct sn sub ab col dd k0 k1 k2 k3 k5 "ValueError.__new__"
section
variable{M:Model}{A:Around}{E:Value->Shared->Prop}{s:Shared}{env:Env}
theorem zCr{nm:Str}{C N:Addr}{bm:List Value}{x:Sem Value}{Q:Flow->Shared->Prop}(hb:bm.contains (.type "BaseException")=true)(hh:A.handled=none)
  (h:wpAny M A x (λv s1=>∃(e:Addr)(oe oC:Obj)(vs:Array Value),v= .ref e/\s1.heap.get? C=some oC/\zWf nm C N bm oC/\s1.heap.get? e=some oe/\oe.cls= .ref C/\oe.data= .fields vs/\vs[1]? =some .none/\E (.ref e) s1) E s):
  wpAny M A (raiseStmt env (some x) none) Q E s:=by
 unfold raiseStmt;refine mD (thn h λv s1 z_=>?_);obtain⟨e,oe,oC,vs,ev,hC,hX,he,hcl,hd,h1,q⟩:=z_;subst ev;obtain⟨q',bs,hdct,sn,sub,ab,col,dd,k0,k1,k2,k3,k5,rfl⟩:=hX;have hnc:∀c:ClassData,oe.data≠ .cls c:=λc z=>by rw[hd] at z;cases z
 refine mD (mQ ?_);refine mD (pK ?_);unfold excFromValue isExcClass;refine mD (mD (ks_wpAny_isType_inst he hnc ?_));rw[mG mO];refine mQ ?_;rw[mG mO];unfold PySem.isInstance;refine mD (mD (sR he ?_));rw[hcl];refine wpAny_isSubtype_exc hC ?_;rw[show(Value.ref C::bm).contains (Value.type "BaseException")=true by
  rw[tV,hb,aD],mL rfl]
 refine mQ ?_;refine mD (ks_wpAny_isType_inst he hnc ?_);rw[mG mO];unfold raisedInstance;refine mD (mD (sR he ?_));rw[hcl];refine mD (sR hC ?_);rw[mL (by rfl)];refine mQ ?_;refine mD ?_;unfold setFlight;refine mD (rC he hd h1 ?_);rw[mG (by intro z;cases z)];refine mQ ?_;exact wpAny_raiseNew_none hh q
end
end L2
namespace L2
open PySem PySem.Spec PyProof.Rows PySem.W
abbrev veMro:List Value:=[.type "ValueError", .type "Exception", .type "BaseException", .type "object"]
abbrev newExc(C t:Addr):Obj:={cls:=.ref C,data:=.fields #[.ref t, .none, .none, .none, .bool false, .none]}
theorem zRz(a:Args):(Code.builtin "type.__call__" a).quiet=true:=by
 unfold Code.quiet
 first | rfl | kernel_rfl | decide+kernel
theorem zNp(a:Args):(Code.builtin "ValueError.__new__" a).quiet=true:=by
 unfold Code.quiet
 first | rfl | kernel_rfl | decide+kernel
section
variable{prog:Program}{w:World}{A:Around}{K:Frag}{C fI N:Addr}{nm:Str}{bm:List Value}{o:Obj}
theorem zZx{R:Result->Shared->Prop}{rest:List Value}{h:Heap}{g:Array GenState}{d:Drawn}{t:Nat}{os:OsState}(hK:K.In h)(lk:K.lookup C=some o)(hX:zWf nm C N bm o)(ht:tailIn K veMro bm=true)(hi:findIn K (.ref C) "__init__" =some (some (.ref fI)))(hf:typeIn K (.ref fI)=some (.type "function"))(hz:rest.length<=100)
  (hh:codeAny (model prog w) (A.under (.builtin "type.__call__" ⟨.ref C::rest,[]⟩)) (.call (.ref fI) ⟨.ref (h.objs.size+1)::rest,[]⟩) (InitBack (h.objs.size+1) R) ⟨(h.push {cls:=.type "tuple",data:=.seq rest.toArray}).push (newExc C h.objs.size),g,d,t,os⟩):
  codeAny (model prog w) A (.call (.ref C) ⟨rest,[]⟩) R ⟨h,g,d,t,os⟩:=by
 have hC:h.get? C=some o:=hK _ _ lk;obtain⟨q',bs,hdct,sn,sub,ab,col,dd,k0,k1,k2,k3,k5,rfl⟩:=hX;have hT:=tail_of_in hK ht;refine codeAny_of_tree ?_;show wpAny _ _ (callAny (.ref C) ⟨rest,[]⟩) _ _ _;unfold callAny;refine mD (wpAny_load hC ?_);show wpAny _ _ (callAny.viaDunder (.ref C) ⟨rest,[]⟩) _ _ _;unfold callAny.viaDunder specialOf;refine mD (mD (sR hC ?_));rw[tc_lookup];refine mQ ?_;dsimp only;rw[tc_bind];refine mD (mQ ?_);dsimp only;refine mD ?_;unfold callAny.plainCallee;refine mQ ?_;rw[mL (by rfl)];refine mQ ⟨rfl, ?_⟩;refine codeAny_call_builtin_at (zRz _) F.entry_type_call (wpAny_check_type_call_sub hC ?_);show wpAny _ _ (Builtin.«type.__call__» ⟨.ref C::rest,[]⟩) _ _ _;unfold Builtin.«type.__call__»;dsimp only;rw[mG (by intro z;cases (eq_of_beq z))];refine mD (wpAny_mroOf_exc hC ?_);rw[mG (by intro z;cases z)];refine mD (wpAny_madeBy_exc hC ?_);dsimp only;refine mD (mQ ?_);refine mD (pK (sI ?_));refine codeAny_call_builtin_code (zNp _) (wpAny_check_new_subT bY hT hC ?_);refine codeAny_exc_new_subT bY hT hC ?_ (by rw[mJ];lia);have k1':∀b ob,h.get? b=some ob->((h.push {cls:=.type "tuple",data:=.seq rest.toArray}).push (newExc C h.objs.size)).get? b=some ob:=λb ob e=>mI _ (mI _ e);have hsz:(h.push {cls:=.type "tuple",data:=.seq rest.toArray}).objs.size=h.objs.size+1:=tE ..;have he:((h.push {cls:=.type "tuple",data:=.seq rest.toArray}).push (newExc C h.objs.size)).get? (h.objs.size+1)=some (newExc C h.objs.size):=by
  rw[<-hsz];exact nI _ rfl
 have hK2:K.In ((h.push {cls:=.type "tuple",data:=.seq rest.toArray}).push (newExc C h.objs.size)):=hK.keeps k1';have hC2:=k1' _ _ hC;unfold PySem.isInstance;refine mD (mD (sR he ?_));refine wpAny_isSubtype_exc hC2 ?_;rw[show(Value.ref C::bm).contains (Value.ref C)=true by simp,mG (by decide)];refine mD (pK ?_);unfold callSpecial? specialOf;refine mD (mD (sR he ?_));refine Looks.here (looks_findIn hK2 hi) ?_;dsimp only;refine pK (mD (Looks.here (bind_fn hK2 _ hf) ?_));dsimp only;refine mD (sI (rQ hh λr s' hr=>?_))
 cases r with
 | error e=>exact hr
 | ok fl=>
  cases fl with
  | ret v=>
   obtain⟨rfl,hr⟩:=hr;refine mQ ?_;dsimp only;rw[mG (by intro z;cases z)];exact mQ hr
  | next=>exact hr.elim
  | brk=>exact hr.elim
  | cont=>exact hr.elim
end
end L2
namespace L2
open PySem PySem.Spec PyProof.Rows PySem.W PySem.Builtin PySem.Builtin.ObjectAttr
section
variable{prog:Program}{w:World}{A:Around}{K:Frag}{C B x:Addr}{cd:ClassData}{ox:Obj}{name:Str}{v:Value}
theorem osa_x{R:Result->Shared->Prop}{s:Shared}{tk:Tok}(hK:K.In s.heap)(hc:clsIn K C=some cd)(hm:cd.mro= .ref C:: .ref B::veMro)(hd:cd.hasDict=true)(hx:s.heap.get? x=some ox)(hcl:ox.cls= .ref C)(hnc:∀c,ox.data≠ .cls c)(hdi:ox.dict=none)
  (hn:findIn K (.ref C) name=some none)
  (q:∀h' t',h'.get? x=some {ox with dict:=some s.heap.objs.size}->h'.Ns1 s.heap.objs.size (λy=>if y=name then some v else none)->(∀b o,b≠x->s.heap.get? b=some o->h'.get? b=some o)->R (.ok (.ret .none)) {s with heap:=h',toks:=t'}):
  codeAny (model prog w) A (.call (.builtin "object.__setattr__") ⟨[.ref x, .str name tk,v],[]⟩) R s:=by
 have SF:=PySem.F.store_ValueError;obtain⟨h,g,dr,t,os⟩:=s;dsimp only at hK hx q;have tp:Looks (model prog w) h (typeOf (.ref x)) (.ref C):=by
  intro A Q E s k q;refine sR (k _ _ hx) ?_;rw[hcl];exact q
 have sub:Looks (model prog w) h (isInstance (.ref x) (.type "object")) true:=tp.andThen (looks_mroIn hK (by
  unfold mroIn;rw[hc,dA,mG (by rw[hm];exact mO),hm,tV,tV,show veMro.contains (.type "object")=true by decide,aD,aD]))
 refine aG SF.slot.plain SF.entry (@check_slot (model prog w) _ _ ⟨h,g,dr,t,os⟩ "object.__setattr__" "object" "__setattr__" (.ref x) [.str name tk,v] [] _ SF.kind SF.split sub (SF.args (.ref x) (.str name tk) v) ?_);have hmr:Looks (model prog w) h (mroOf (.ref C)) cd.mro:=(looks_clsIn hK hc).andThen .now;rw[osa_eq,refuse_eq];refine mD (mD (Looks.here tp (mD (Looks.here hmr ?_))));rw[hm,refuseLoop_ref,refuseLoop_ref,SF.passes];refine mQ (mD (Looks.here tp (mD (Looks.here (looks_findIn hK hn) (mD ?_)))));refine mQ ?_;dsimp only;unfold storeInOwnDict;refine mD (mQ ?_);rw[mG (by intro z;cases (eq_of_beq z))];refine mD ?_;show wpAny _ _ (instanceDict x true) _ _ _;unfold instanceDict;refine mD (wpAny_loadPart hx ?_);obtain⟨oc,odi,oda,osl⟩:=ox;dsimp only at hcl hdi hnc;subst hcl hdi;dsimp only;refine mD (Looks.here (looks_clsIn hK hc) ?_);rw[hd];rw[mG (show¬((!true)=true) from mO),mG (by simp[typeHasDict])];have main:wpAny (model prog w) A.in1 (do
     let d <-alloc {cls:=Value.type "dict",data:=Data.dict #[]}
     update x λo=>{cls:=o.cls,dict:=some d,data:=o.data,slots:=o.slots}
     dictMade (Value.ref C) x d)
   (λa s'=>
   wpAny (model prog w) A.in1
    (match a with
    | some d=>storeInDict d (Value.str name tk) name v
    | none=>noDictFor (Value.ref x) (Value.ref C) name (none:Option Value).isSome)
    (λfin s'=>
     match fin with
     | Fin.done f=>R (Except.ok f) s'
     | Fin.again c'=>c'.quiet=true/\codeAny (model prog w) A c' R s')
    (λe s'=>R (Except.error e) s') s')
  (λe s'=>R (Except.error e) s') {heap:=h,gens:=g,drawn:=dr,toks:=t,os:=os}:=by
  have hx₁:(h.push {cls:=.type "dict",data:=.dict #[]}).get? x=some _:=mI _ hx;have hxs:x≠h.objs.size:=nR (mW hx);refine mD (wpAny_alloc' ?_);refine mD (wpAny_update' hx₁ ?_);refine mQ ?_;have hgd:((h.push {cls:=.type "dict",data:=.dict #[]}).update x λo=>{cls:=o.cls,dict:=some h.objs.size,data:=o.data,slots:=o.slots}).get? h.objs.size=some {cls:=.type "dict",data:=.dict #[]}:=
   (Heap.get?_update_ne _ _ _ _ hxs.symm).trans (Heap.get?_push_at rfl rfl)
  have hnd:((h.push {cls:=.type "dict",data:=.dict #[]}).update x λo=>{cls:=o.cls,dict:=some h.objs.size,data:=o.data,slots:=o.slots}).Ns h.objs.size (λ_=>none):=
   ⟨_,#[],_,hgd,rfl,λe he=>absurd he (by simp),λ_=>rfl⟩
  show wpAny _ _ (storeInDict h.objs.size (.str name tk) name v) _ _ _;unfold storeInDict newKeyGuard;refine mD (mQ (mD (wpAny_nsSet1 (Heap.Ns1.of_empty hnd) λh' hn' hs=>?_)));obtain⟨oD,esD,epD,hoD,hdD,hcD⟩:=hn'.count (Within.cons name v Within.nil);refine mD (wpAny_lookBehind hoD (by rw[hdD];exact pastItsLine_dict (nN hcD (by rw[mE,nL,mJ];lia))) ?_);refine mQ ?_;have hfr:=(Heap.get?_some_iff.mp hx).2;refine q h' _ ((hs.2 x hxs).trans (tZ _ hx₁ ?_)) hn' λb o hb e=>?_
  ·cases oda<;>first | rfl | exact hfr
  ·exact(hs.2 b (nR (mW e))).trans ((Heap.get?_update_ne _ _ _ _ hb).trans (mI _ e))
 cases oda with
 | cls c=>exact absurd rfl (hnc c)
 | _=>exact main
theorem set_x{E:Value->Shared->Prop}{Q:Unit->Shared->Prop}{s:Shared}(hK:K.In s.heap)(hc:clsIn K C=some cd)(hm:cd.mro= .ref C:: .ref B::veMro)(hd:cd.hasDict=true)(hx:s.heap.get? x=some ox)(hcl:ox.cls= .ref C)(hnc:∀c,ox.data≠ .cls c)(hdi:ox.dict=none)
  (hs:findIn K (.ref C) "__setattr__" =some (some (.builtin "object.__setattr__"))) (hn:findIn K (.ref C) name=some none)
  (q:∀h' t',h'.get? x=some {ox with dict:=some s.heap.objs.size}->h'.Ns1 s.heap.objs.size (λy=>if y=name then some v else none)->(∀b o,b≠x->s.heap.get? b=some o->h'.get? b=some o)->Q () {s with heap:=h',toks:=t'}):
  wpAny (model prog w) A (setAttr (.ref x) name v) Q E s:=by
 have hno:notCls ox=true:=by
  unfold notCls;obtain⟨oc,odi,oda,osl⟩:=ox
  cases oda with
  | cls c=>exact absurd rfl (hnc c)
  | _=>rfl
 refine set_plain (od:=none) hK ⟨hx,hcl,hno,by rw[hdi];trivial⟩ hs ?_;exact osa_x (s:={s with toks:=s.toks+1}) hK hc hm hd hx hcl hnc hdi hn λh' t' a b c=>q h' t' a b c
end
end L2
namespace L2
open PySem PySem.Spec PyProof.Rows PySem.W
structure zKv(K:Frag)(nm:Str)(C B fI:Addr):Prop where
 obj:∃(N:Addr)(o:Obj),K.lookup C=some o/\zWf nm C N (.ref B::veMro) o
 cd:∃cd,clsIn K C=some cd/\cd.mro= .ref C:: .ref B::veMro/\cd.hasDict=true
 tl:tailIn K veMro (.ref B::veMro)=true
 init:findIn K (.ref C) "__init__" =some (some (.ref fI))
 fn:typeIn K (.ref fI)=some (.type "function")
 set:findIn K (.ref C) "__setattr__" =some (some (.builtin "object.__setattr__"))
 at_:findIn K (.ref C) "at" =some none
 kp:keepIn K (.ref C)=true
structure zPp(K:Frag)(B:Addr):Prop where
 sp:specialIn K (.ref B) "__getattribute__" =some (some (.builtin "type.__getattribute__"))
 rd:readsIn K B (.type "type")=true
 init:findCls K (.ref B) (.type "type") "__init__" =some (.val (.builtin "ValueError.__init__"))
noncomputable def exO(x C:Addr)(d:Option Addr):HO:=.ext λh=>∃vs:Array Value,h.get? x=some {cls:=.ref C,dict:=d,data:=.fields vs}/\vs.size=6/\vs[1]? =some .none/\vs[2]? =some .none
theorem zFp{P:Program}{w:World}{H:Hp}{h:Heap}{x C:Addr}{d:Option Addr}{vs:Array Value}(e:h.get? x=some {cls:=.ref C,dict:=d,data:=.fields vs})(h6:vs.size=6)(h1:vs[1]? =some .none)(h2:vs[2]? =some .none):ObjOk P w H h x (exO x C d):=
 ⟨⟨vs,e,h6,h1,h2⟩,⟨_,e⟩,λ_ _ ⟨vs,e,a,b⟩ k=>⟨vs,k _ e,a,b⟩⟩
theorem zYi{H:Hp}{a:Addr}{o:HO}(h:H a=some o):upd H a o=H:=by
 funext b
 unfold upd;split
 ·rename_i e;rw[e,h]
 ·rfl
theorem Un.also{fs ex:List Addr}{H H1:Hp}{h h':Heap}{a:Addr}{o:HO}(u:Un fs ex H H1 h h')(hp:h.objs.size<=a)(hn:H a=none):Un fs ex H (upd H1 a o) h h' where
 keep:=u.keep
 slot:=u.slot
 free:=λb ob q n hx=>by rw[zN (nR (mX (mW q) hp))];exact u.free b ob q n hx
 there:=u.there
 tups:=λb xs q=>by rw[zN (yJ q hn)];exact u.tups b xs q
 frzs:=λb ob xs q=>by rw[zN (yJ q hn)];exact u.frzs b ob xs q
 tbls:=λb ps q=>by rw[zN (yJ q hn)];exact u.tbls b ps q
theorem HOk.also{P:Program}{w:World}{H:Hp}{h:Heap}{a:Addr}{o:HO}(x:HOk P w H h)(hn:H a=none)(new:ObjOk P w (upd H a o) h a o):HOk P w (upd H a o) h:=λb u e=>by
 by_cases hb:b=a
 ·subst hb;rw[zF] at e;cases e;exact new
 ·rw[zN hb] at e
  exact(x b u e).stay (λc v _ q=>q) (λc q=>by rw[zN (yJ q hn)];exact q) λc xs q=>by rw[zN (yJ q hn)];exact q
section
variable{X:Cx}{pins:List (Addr×Obj)}{σ:St}{H:Hp}{s:Shared}{x C B fI:Addr}{nm:Str}{d:Option Addr}
theorem zBt(I:Inv X pins σ H s)(h:H x=some (exO x C d)):∃vs:Array Value,s.heap.get? x=some {cls:=.ref C,dict:=d,data:=.fields vs}/\vs.size=6/\vs[1]? =some .none/\vs[2]? =some .none:=(I.hok x _ h).1
theorem zOg{Q:Value->Shared->Prop}{E:Value->Shared->Prop}{u:Value}(c:zKv X.K nm C B fI)(I:Inv X pins σ H s)(hH:H x=some (exO x C d))(q:∀s',Inv X pins σ H s'->Q .none s'):
  wpAny (model X.prog X.w) X.A (call (.builtin "ValueError.__init__") [.ref x,u]) Q E s:=by
 obtain⟨N,o,lk,q',bs,hdct,sn,sub,ab,col,dd,k0,k1,k2,k3,k5,rfl⟩:=c.obj;obtain⟨vs,he,h6,h1,h2⟩:=zBt I hH;have hT:=tail_of_in I.kIn c.tl;have hC:=I.kIn _ _ lk;have I':=I;obtain⟨h,g,dr,t,os⟩:=s;dsimp only at he hC hT;have F:=bY;obtain⟨a0,h0⟩:∃a0,vs[0]? =some a0:=⟨_,rH.mpr ⟨by lia,rfl⟩⟩;refine sI (aG F.init.plain F.initEntry (wpAny_check_init_subT F hT hC he rfl ?_));unfold Builtin.«BaseException.__init__»;dsimp only;rw[mG (by simp)];have hsz:0<vs.size:=by lia
 have he₁:=mI (h:=h) {cls:=.type "tuple",data:=.seq [u].toArray} he;have hup:=zFo he₁ rfl 0 (.ref h.objs.size);have fin:Inv X pins σ H ⟨(h.push {cls:=.type "tuple",data:=.seq [u].toArray}).update x (Obj.mapFields λxs=>xs.setIfInBounds 0 (.ref h.objs.size)),g,dr,t,os⟩:=by
  rw[<-zYi hH];refine Inv.write (t':=t) I' (e:=x) (by rw[hH];exact nJ) (.inl rfl) (λb ob hb e=>(mZ _ _ (Ne.symm hb)).trans (mI _ e)) ⟨_,hup⟩ (zFp hup ?_ ?_ ?_)
  ·rw[Array.size_setIfInBounds];exact h6
  ·rw[sG (by decide)];exact h1
  ·rw[sG (by decide)];exact h2
 refine mD (wpAny_newTuple ?_ (by rw[mJ];simp));unfold Builtin.BaseException.bexcPut;refine mD (mD (rC he₁ rfl h0 (mD (sN he₁ rfl hsz ?_))));have fin2:=q _ fin
 cases a0 with
 | ref a=>exact wpAny_letGo (mQ fin2)
 | _=>exact mQ (mQ fin2)
end
end L2
namespace L2
open PySem PySem.Spec PyProof.Rows PySem.W
section
variable{X:Cx}{C B fI:Addr}{nm:Str}
def zZr(C:Addr)(t:TA):TE:=λσ H Q=>t σ H λvs H1=>∃x v,vs= [.ref x,v]/\H1 x=some (exO x C none)/\Q .non H1
theorem zTn{bn:Str}{p apos pos:Pos}{e:Expr}{es:List Expr}{t:TA}{pl:Sem Bool}(c:zKv X.K nm C B fI)(b:zPp X.K B)(hg:Gl X bn)(hm:X.mg bn=some (.ref B))(ha:PA X (e::es) t)(hdb:(bn==("__debug__" :Str))=false:=by decide)
  (he:starEach (e::es) X.env=(false,eval e X.env)::starEach es X.env:=by rfl) (hpl:(backTo pos (starEach es X.env)).any (·.1)=false:=by rfl)
  (ht:eval (.Call (.Attribute (.Name bn p) "__init__" apos) (e::es) [] pos) X.env=(do
   let ov <-eval (.Name bn p) X.env
   standAt apos.atName
   let (f,first) <-holding [ov] (getMethod ov "__init__" pl)
   callWith pos f first (backTo pos (starEach (e::es) X.env)) (backToKw pos (keywordEach [] X.env))):=by rfl):
  PE X (.Call (.Attribute (.Name bn p) "__init__" apos) (e::es) [] pos) (zZr C t):=by
 intro pins s σ H Q I h;refine methodCall_KW (pl:=pl) (wT I hg hm ?_ hdb) ht;refine method_cls I.kIn b.sp (cls_value I.kIn b.rd b.init (by decide+kernel) ?_);have I1:=I.tok (s.toks+1);refine bS (thn (ha pos pins _ σ H _ I1 h) λus s2 z_=>?_) he hpl;obtain⟨vs,H2,I2,r,x,v,e1,e2,q⟩:=z_;subst e1;obtain⟨u1,u2,rfl,r1⟩:∃u1 u2,us= [u1,u2]/\RelV (.ref x) u1:=by
  cases r with
  | cons a r=>
   cases r with
   | cons b r=>cases r;exact⟨_,_,rfl,a⟩
 obtain rfl:u1=Value.ref x:=r1;exact zOg c I2 e2 λs' I3=>⟨.non,H2,I3,rfl,q⟩
def tXSet(C:Addr)(f:Str)(tv ta:TE):TS:=λD σ H=>tv σ H λv H1=>ta σ H1 λo H2=>∃x,o= .ref x/\H2 x=some (exO x C none)/\∀d,H2 d=none->D.nx σ (upd (upd H2 x (exO x C (some d))) d (.xd [(f,v)]))
theorem zVa{o value:Expr}{pos' pos:Pos}{tv ta:TE}(c:zKv X.K nm C B fI)(hv:PE X value tv)(ha:PE X o ta)(hs:swapsWith value (some (.Attribute o "at" pos')) pos.line X.env=pure false:=by rfl):PS X (.Assign [.Attribute o "at" pos'] value pos) (tXSet C "at" tv ta):=by
 intro pins s σ H D I h;refine bO (thn (hv pins s σ H _ I h) λu s1 z_=>?_) hs;obtain⟨y,H1,I1,ry,q⟩:=z_;refine thn (ha pins s1 σ H1 _ I1 q) λov s2 z_=>?_;obtain⟨z,H2,I2,rx,x,ez,hH,q2⟩:=z_;subst ez;obtain rfl:ov=Value.ref x:=rx;obtain⟨vs,he,h6,h1,h2⟩:=zBt I2 hH;obtain⟨cd,hc,hm,hd⟩:=c.cd;refine set_x I2.kIn hc hm hd he rfl (λ_ z=>by cases z) rfl c.set c.at_ λh' t' g1 g2 g3=>?_;have hfr:H2 s2.heap.objs.size=none:=I2.fresh;have hne:s2.heap.objs.size≠x:=λz=>by rw[z,hH] at hfr;cases hfr
 have hmu:Mut (H2 x):=by rw[hH];exact nJ
 have u1:Un X.fs [] H2 (upd H2 x (exO x C (some s2.heap.objs.size))) s2.heap h':=Un.write (e:=x) hmu (.inl rfl) g3 ⟨_,g1⟩;have k1:HOk X.prog X.w (upd H2 x (exO x C (some s2.heap.objs.size))) h':=I2.hok.write (e:=x) hmu (.inl rfl) g3 ⟨_,g1⟩ (zFp g1 h6 h1 h2);refine⟨σ,_,I2.un (t':=t') (u1.also (a:=s2.heap.objs.size) (o:=.xd [("at",y)]) (mK _) hfr) (k1.also (by rw[zN hne];exact hfr) ?_),q2 _ hfr⟩;refine⟨_,g2,λf=>?_⟩;show RelO (List.lookup f [("at",y)]) _;rw[nZ,List.lookup_nil]
 by_cases z:f= "at"
 ·subst z
  rw[mL rfl,tI];exact ry
 ·rw[mG z,show(f==("at" :Str))=false from rW.mpr z]
  trivial
def zBb(C:Addr):Sp:=λvs H Q _=>∃x v0 v,vs= [.ref x,v0,v]/\H x=some (exO x C none)/\∀d,H d=none->Q .non (upd (upd H x (exO x C (some d))) d (.xd [("at",v)]))
end
section
variable{X:Cx}{pins:List (Addr×Obj)}{σ:St}{H:Hp}{s:Shared}{x C:Addr}{d:Option Addr}{φ:Value->Prop}
def drp(H:Hp)(x:Addr):Hp:=λb=>if b=x then none else H b
theorem qX{b:Addr}(h:b≠x):drp H x b=H b:=mG h
theorem zDc:drp H x x=none:=mL rfl
theorem zDs{E:XK}{EE:Value->Shared->Prop}(I:Inv X pins σ H s)(hs:X.stack=X.env::X.outer)(hf:X.env.frame=some X.env.locals)(hex:X.ex= [])(hH:H x=some (exO x C d))(hx0:X.s₀.heap.get? x=none)(hφ:φ .none)(q:E (.ref C) d (drp H x)):
  wpAny (model X.prog X.w) X.A (leaving X.env (.ref x)) (λ_ s3=>CXE φ X.prog X.w X.outer X.H₀ X.s₀ E (.ref x) s3) EE s:=by
 obtain⟨vs,he,h6,h1,h2⟩:=zBt I hH;obtain⟨a0,h0⟩:∃a0,vs[0]? =some a0:=⟨_,rH.mpr ⟨by lia,rfl⟩⟩;have hfs:frs X.stack=X.env.locals::X.fs:=by
  rw[hs];unfold frs;rw[rN,hf];rfl
 have hloc:X.s₀.heap.get? X.env.locals=none:=sZ I.ok.above;have hfr:=I.ok.frames;rw[hs] at hfr;have nx:x∉frs X.stack:=λz=>by
  have:=I.stkFree x z;rw[hH] at this;cases this
 have st:=I.stack;have nx':=nx;rw[hs] at nx' st;unfold leaving;refine mD (zOz (φ:=φ) hfr st hf he nx' rfl h0 h1 ⟨_,h2,hφ⟩ λh1 T1 f1 k1 n1=>?_);refine qG f1 λh2 f2 k2=>?_;rw[<-hs] at k1;have hbase:=I.base;rw[hex] at hbase;have hT1H:H T1=none:=by
  cases e:H T1 with
  | none=>rfl
  | some o=>
   obtain⟨ob,hob⟩:=ObjOk.got (I.hok T1 o e);rw[n1] at hob;cases hob
 have hT1o:X.s₀.heap.get? T1=none:=by
  cases e:X.s₀.heap.get? T1 with
  | none=>rfl
  | some o=>
   obtain⟨o',e'⟩:=hbase.there T1 o e (λz=>nomatch z);rw[n1] at e';cases e'
 have k3:Kp (frs X.stack) [x,T1] s.heap h2:=k1.trans (kJ k2 λb hb=>nomatch hb) λc hc=>by
  rcases hc with z | z
  ·rw[mS.mp z];simp
  ·rw[mS.mp z.1];simp
 have k4:Kp X.fs [x,T1,X.env.locals] s.heap h2:=by
  have k5:Kp (frs X.stack) [x,T1,X.env.locals] s.heap h2:=k3.trans Kp.refl (ys:=[]) λc hc=>by
   rcases hc with z | z
   ·rcases mF.mp z with z | z
    ·rw[z];simp
    ·rw[mS.mp z];simp
   ·exact nomatch z.1
  refine kJ k5 λb hb=>?_;rw[hfs] at hb;rcases mF.mp hb with z | z
  ·rw[z];exact .inr (by simp)
  ·exact .inl z
 have u1:Un X.fs [] X.H₀ H X.s₀.heap h2:=zLi hbase k4 λb hb=>by
  rcases mF.mp hb with z | z
  ·rw[z];exact hx0
  ·rcases mF.mp z with z | z
   ·rw[z];exact hT1o
   ·rw[mS.mp z];exact hloc
 have ne:∀b o,H b=some o->(∀φ,o≠ .ext φ)->b≠x:=λb o e n z=>by
  subst z;rw[hH] at e;exact n _ (nU e).symm
 have u2:Un X.fs [] X.H₀ (drp H x) X.s₀.heap h2:=⟨u1.keep,u1.slot,λb ob e n hx=>by
   rw[qX (λz=>by subst z;rw[hx0] at e;cases e)];exact u1.free b ob e n hx,u1.there,
  λb xs e=>by have z:=u1.tups b xs e;rw[qX (ne b _ z λ_ y=>nomatch y)];exact z,
  λb ob xs e=>by have z:=u1.frzs b ob xs e;rw[qX (ne b _ z λ_ y=>nomatch y)];exact z,
  λb ps e=>by obtain⟨m,z⟩:=u1.tbls b ps e;exact⟨m,by rw[qX (ne b _ z λ_ y=>nomatch y)];exact z⟩⟩
 have ok1:HOk X.prog X.w (drp H x) s.heap:=λb o e=>by
  by_cases z:b=x
  ·subst z;rw[zDc] at e;cases e
  ·rw[qX z] at e
   exact(I.hok b o e).stay (λ_ _ _ q=>q) (λc q=>by rw[qX (ne c _ q λ_ y=>nomatch y)];exact q) λc xs q=>by rw[qX (ne c _ q λ_ y=>nomatch y)];exact q
 have dn:∀b,H b=none->drp H x b=none:=λb e=>by
  unfold drp;split
  ·rfl
  ·exact e
 refine⟨x,T1, .ref C,d,a0,drp H x,rfl,I.os,I.bare,u2,zFc ok1 k3 (λb hb=>dn b (I.stkFree b hb)) λb hb=>?_,hx0,hT1o,zDc,dn _ hT1H,f2,q⟩;rcases mF.mp hb with z | z
 ·rw[z];exact zDc
 ·rw[mS.mp z];exact dn _ hT1H
end
end L2
namespace L2
open PySem PySem.Spec PyProof.Rows PySem.W
theorem zRf{H:Hp}{x d:Addr}{o u:HO}(hx:H x=none)(hd:d≠x):drp (upd (upd H x o) d u) x=upd H d u:=by
 funext b
 by_cases z:b=x
 ·subst z
  rw[zDc,zN (Ne.symm hd),hx]
 ·rw[qX z]
  by_cases y:b=d
  ·subst y;rw[zF,zF]
  ·rw[zN y,zN z,zN y]
section
variable{X:Cx}{C B fI:Addr}{nm:Str}{k:Nat}{fd:FuncData}{ps:List Str}
theorem zMx{pins:List (Addr×Obj)}{σ:St}{H:Hp}{s:Shared}{Qx:Value->Shared->Prop}{us:List Value}{v0 v:V}(c:zKv X.K nm C B fI)(F:FnOk X.prog X.w X.K X.mg X.base CX0 k fI fd ps (zBb C))(hr:Room (k+1) X.A)(hb:Binds X.K fd ps [])(I:Inv X pins σ H s)(r:Vals [v0,v] us)
  (q:∀x d s',X.s₀.heap.get? x=none->H x=none->H d=none->d≠x->Inv X pins σ (upd (upd H x (exO x C (some d))) d (.xd [("at",v)])) s'->Qx (.ref x) s'):wpAny (model X.prog X.w) X.A (call (.ref C) us) Qx X.xe s:=by
 obtain⟨N,o,lk,hX⟩:=c.obj;have hus:us.length<=100:=by rw[<-r.length];show(2:Nat)<=100;decide
 have hx0:X.s₀.heap.get? (s.heap.objs.size+1)=none:=sZ (nN I.sz (tW _));have hHx:H (s.heap.objs.size+1)=none:=I.hok.fresh (tW _);have he:((s.heap.push {cls:=.type "tuple",data:=.seq us.toArray}).push (newExc C s.heap.objs.size)).get? (s.heap.objs.size+1)=some (newExc C s.heap.objs.size):=by
  rw[<-(tE .. :(s.heap.push {cls:=.type "tuple",data:=.seq us.toArray}).objs.size=s.heap.objs.size+1)];exact nI _ rfl
 have I2:=I.laid (t':=s.toks) (a:=s.heap.objs.size+1) (o:=exO (s.heap.objs.size+1) C none) (h':=(s.heap.push {cls:=.type "tuple",data:=.seq us.toArray}).push (newExc C s.heap.objs.size)) (λb ob e=>mI _ (mI _ e)) (tW _) (zFp he rfl rfl rfl);have r2:Vals [V.ref (s.heap.objs.size+1),v0,v] (Value.ref (s.heap.objs.size+1)::us):=.cons rfl r;have hsp:zBb C [V.ref (s.heap.objs.size+1),v0,v] (upd H (s.heap.objs.size+1) (exO (s.heap.objs.size+1) C none)) (λu H2=>u= .non/\∃d,H d=none/\d≠s.heap.objs.size+1/\H2=upd (upd H (s.heap.objs.size+1) (exO (s.heap.objs.size+1) C (some d))) d (.xd [("at",v)])) E0:=by
  refine⟨_,v0,v,rfl,zF,λd hd=>⟨rfl,d, ?_⟩⟩;have hne:d≠s.heap.objs.size+1:=λz=>by rw[z,zF] at hd;cases hd
  rw[zN hne] at hd;exact⟨hd,hne,by rw[zUr]⟩
 have hl:((Value.ref (s.heap.objs.size+1)::us)++ []).length=ps.length:=by
  rw[mN,<-r2.length];exact F.len _ _ _ _ hsp
 have hbt:=hb _ (Value.ref (s.heap.objs.size+1)::us) I2.kIn hl;rw[mN] at hbt;have run:=F.run _ X.stack _ _ ⟨Value.ref (s.heap.objs.size+1)::us,[]⟩ (Value.ref (s.heap.objs.size+1)::us) _ _ E0 (hr.make C us []) (I2.env0.make C us []) hbt r2 hsp;have I1:=I;obtain⟨h,g,dr,t,os⟩:=s;refine sI (zZx I1.kIn lk hX c.tl c.init c.fn hus (rQ run λr s' hq'=>?_))
 cases r with
 | error e=>exact False.elim hq'
 | ok fl=>
  cases fl with
  | ret u=>
   obtain⟨v',H',I3,rv,ev,d,hd,hne,rfl⟩:=I2.after hq';subst ev;exact⟨rv,q _ d s' hx0 hHx hd hne I3⟩
  | next=>exact False.elim hq'
  | brk=>exact False.elim hq'
  | cont=>exact False.elim hq'
def zAy(C:Addr)(E:XK)(t:TA):TS:=λ_ σ H=>t σ H λvs H1=>∃v0 v,vs= [v0,v]/\∀d,H1 d=none->E (.ref C) (some d) (upd H1 d (.xd [("at",v)]))
structure Xr(P:Program)(w:World)(K:Frag)(mg:Str->Option Value)(base:Heap)(k:Nat)(cn:Str)(C:Addr):Prop where
 ex:∃(nm:Str)(B fI:Addr)(fd:FuncData)(ps:List Str),zKv K nm C B fI/\FnOk P w K mg base CX0 k fI fd ps (zBb C)/\Binds K fd ps []/\mg cn=some (.ref C)
def Lvs(φ:Value->Prop)(X:Cx)(E:XK):Prop:=X.stack=X.env::X.outer/\X.env.frame=some X.env.locals/\X.ex= []/\φ .none/\∀e s',wpAny (model X.prog X.w) X.A (leaving X.env e) (λ_ s3=>CXE φ X.prog X.w X.outer X.H₀ X.s₀ E e s3) (λe' s3=>CXE φ X.prog X.w X.outer X.H₀ X.s₀ E e' s3) s'->X.xe e s'
theorem zWu{φ:Value->Prop}{E:XK}(l:Lvs φ X E):gN (CXE φ X.prog X.w) X E:=λ_ _ _ _ e s' I h=>l.2.2.2.2 e s' (zVb I l.1 l.2.1 l.2.2.1 h)
theorem xQ{φ:Value->Prop}{E:XK}{cn:Str}{p pos rpos:Pos}{e:Expr}{es:List Expr}{t:TA}{j:Nat}(R:Xr X.prog X.w X.K X.mg X.base k cn C)(hr:Room j X.A)(hj:k+1<=j)(hg:Gl X cn)(hcalm:X.calm=true)(l:Lvs φ X E)(ha:PA X (e::es) t)(hdb:(cn==("__debug__" :Str))=false:=by decide)
  (he:starEach (e::es) X.env=(false,eval e X.env)::starEach es X.env:=by rfl) (hpl:(backTo pos (starEach es X.env)).any (·.1)=false:=by rfl):PS X (.Raise (some (.Call (.Name cn p) (e::es) [] pos)) none rpos) (zAy C E t):=by
 intro pins s σ H D I h;obtain⟨nm,B,fI,fd,ps,c,F,hb,hm⟩:=R.ex;obtain⟨hs,hf,hex,hφ,hxe⟩:=l;rw[arm_exec_Raise];refine mD (sX ?_);show wpAny _ _ (raiseStmt X.env (some (do let v <-eval (.Call (.Name cn p) (e::es) [] pos) X.env;standAt rpos;pure v)) none) _ _ _;obtain⟨N,o,lk,hX⟩:=c.obj;refine zCr (nm:=nm) (C:=C) (N:=N) (bm:=.ref B::veMro) (by rw[tV,show veMro.contains (.type "BaseException")=true by decide,aD]) (I.ok.hd.1 hcalm) (mD ?_);refine rD (wT I hg hm ?_ hdb);refine callWith_K (h₀:=X.base) I.ok.mod.kin c.kp (thn (ha pos pins s σ H _ I h) λus s1 z_=>?_) he hpl;obtain⟨vs,H1,I1,r,v0,v,ev,q⟩:=z_;refine ⟨I1.kIn, ?_⟩;subst ev;refine zMx c F (hr.mono hj) hb I1 r λx d s2 hx0 hx hd hne I2=>?_;refine mD (sX (mQ ?_));have hH:upd (upd H1 x (exO x C (some d))) d (.xd [("at",v)]) x=some (exO x C (some d)):=by rw[zN (Ne.symm hne),zF]
 obtain⟨vs,e1,h6,h1,h2⟩:=zBt I2 hH;refine⟨x,_,_,vs,rfl,I2.kIn _ _ lk,hX,e1,rfl,rfl,h1,hxe _ _ (zDs I2 hs hf hex hH hx0 hφ ?_)⟩;rw[zRf hx hne];exact q d hd
end
structure Dx(φ:Value->Prop)(P:Program)(w:World)(K:PySem.W.Frag)(mg:Str->Option Value)(base:Heap)(k:Nat)(x:Str)(ps:List Str)(sp:Sp):Prop where
 ex:∃(f:Addr)(fd:FuncData),FnOk P w K mg base (CXE φ P w) k f fd ps sp/\Binds K fd ps []/\PySem.W.keepIn K (.ref f)=true/\mg x=some (.ref f)
section
variable{X:Cx}{k j:Nat}{x:Str}{ps:List Str}{sp:Sp}{e:Expr}{es:List Expr}{t:TA}{p pos:Pos}{E:XK}
theorem zHk{φ:Value->Prop}(D:Dx φ X.prog X.w X.K X.mg X.base k x ps sp)(hr:Room j X.A)(hj:k<=j)(hg:Gl X x)(l:Lvs φ X E)(ha:PA X (e::es) t)(hdb:(x==("__debug__" :Str))=false:=by decide)
  (he:starEach (e::es) X.env=(false,eval e X.env)::starEach es X.env:=by rfl) (hpl:(backTo pos (starEach es X.env)).any (·.1)=false:=by rfl):PE X (.Call (.Name x p) (e::es) [] pos) (kT sp [] E t):=by
 obtain⟨f,fd,h1,h2,h3,h4⟩:=D.ex;exact zLv h1 (hr.mono hj) hg h4 h3 h2 .nil (zWu l) ha hdb he hpl
end
section
variable{P:Program}{w:World}{K:PySem.W.Frag}{mg:Str->Option Value}{base:Heap}{k:Nat}{f:Addr}{fd:FuncData}{ps:List Str}{sp sp':Sp}{CX:CXT}
theorem FnOk.lift(F:FnOk P w K mg base CX0 k f fd ps sp):FnOk P w K mg base CX k f fd ps sp:=
 ⟨F.len,λA outer s H args us vs Q E hr he hb hv hs=>rQ (F.run A outer s H args us vs Q E hr he hb hv hs) λr s' h=>by
  cases r with
  | error e=>exact False.elim h
  | ok fl=>cases fl<;>exact h⟩
theorem FnOk.or(F:FnOk P w K mg base CX k f fd ps sp)(G:FnOk P w K mg base CX k f fd ps sp'):FnOk P w K mg base CX k f fd ps λvs H Q E=>sp vs H Q E\/sp' vs H Q E:=
 ⟨λvs H Q E h=>h.elim (F.len vs H Q E) (G.len vs H Q E),λA outer s H args us vs Q E hr he hb hv hs=>hs.elim (F.run A outer s H args us vs Q E hr he hb hv) (G.run A outer s H args us vs Q E hr he hb hv)⟩
theorem Fun.okx{φ:Value->Prop}{x qual:Str}{st:Stmt}{N:List Str}(F:Fun K x qual st f fd)(S:zV N ps (zO st))(len:∀vs H Q E,sp vs H Q E->vs.length=ps.length)
  (hbody:∀(cdv:Value)(A:Around)(outer:List Env)(s:Shared)(H:Hp)(vs:List V)(Q:VK)(E:XK),Room k (A.deeper (envOfC qual (zO st) s.heap.objs.size f cdv))->sp vs H Q E->
   ∃t,PSs (zCs (CXE φ P w) P w K mg base N qual (zO st) f cdv A outer s H E) (yU st) t/\t {nx:=λ_ H'=>Q .non H',rt:=Q} (qF N vs) H):FnOk P w K mg base (CXE φ P w) (k+1) f fd ps sp:=by
 obtain⟨oc,od,kV,doc,pm,an,cdv,ct,osl,rfl,lk,hcd⟩:=F.ex;exact zSj lk hcd S len λA outer s H vs Q E hr hsp=>hbody cdv A outer s H vs Q E hr hsp
theorem lvs{φ:Value->Prop}{N:List Str}{qual:Str}{scope:Scope}{cd:Value}{A:Around}{outer:List Env}{s:Shared}{H:Hp}{E:XK}(hφ:φ .none:=by first | rfl | trivial):Lvs φ (zCs (CXE φ P w) P w K mg base N qual scope f cd A outer s H E) E:=⟨rfl,rfl,rfl,hφ,λ_ _ h=>h⟩
end
end L2
namespace L2
open PySem PySem.Spec PyProof.Rows PySem.W PySem.Builtin PySem.Builtin.ObjectAttr
structure uT(K:Frag)(C:Addr):Prop where
 ga:findIn K (.ref C) "__getattribute__" =some (some (.builtin "BaseException.__getattribute__"))
 gt:findIn K (.ref C) "__getattr__" =some none
 bx:mroIn K C (.type "BaseException")=some true
 ob:mroIn K C (.type "object")=some true
 hd:hasDictIn K C=true
 cl:findIn K (.ref C) "__class__" =some (some (.builtin "object.__class__"))
 cg:specialIn K (.builtin "object.__class__") "__get__" =some (some (.builtin "getset_descriptor.__get__"))
 ct:takesIn K (.builtin "object.__class__")=some true
section
variable{prog:Program}{w:World}{A:Around}{K:Frag}{C x:Addr}{ox od:Obj}{name:Str}{E:Value->Shared->Prop}{s:Shared}
theorem zXv{tk:Tok}{fill expr:Bool}{Q:Value->Shared->Prop}(G:uT K C)(hK:K.In s.heap)(I:InstAt s.heap x ox C (some od))
  (h:wpAny (model prog w) A.in1 (Builtin.«object.__getattribute__» ⟨[.ref x, .str name tk],[]⟩) (λfin s'=>match fin with | .done (.ret v)=>wpAny (model prog w) A (handedOut v) Q E s' | _=>False) (λ_ _=>False) s):
  wpAny (model prog w) A (getAttrBy (.ref x) (.str name tk) fill expr) Q E s:=by
 have hb:Looks (model prog w) s.heap (hookBefore (.ref C)) none:=looks_hook hK (by rw[mL (by rfl)];exact G.gt);have ht:=I.type (M:=model prog w);unfold getAttrBy;refine pK (mD (ht _ _ _ _ (λ_ _ e=>e) (mD (looks_findIn hK G.ga _ _ _ _ (λ_ _ e=>e) ?_))));dsimp only;rw[show(onTheHeap (Value.ref C)&& Value.builtin "BaseException.__getattribute__" ==Value.builtin "object.__getattribute__")=false from by rw[show(Value.builtin "BaseException.__getattribute__" ==Value.builtin "object.__getattribute__")=false from by decide+kernel,aX],mG (by decide)];unfold getAttrByItsOwn;refine mD (hb _ _ _ _ (λ_ _ e=>e) (mD (tM (pK ?_))));unfold callGetattribute;rw[show(expr && onTheHeap (Value.builtin "BaseException.__getattribute__"))=false from aX _,mG (by decide)];unfold boundAndCalled;have FB:=PySem.F.attr_ValueError;rw[FB.ga.bind];refine mD (mQ ?_);show wpAny _ _ (call (.builtin "BaseException.__getattribute__") [.ref x, .str name tk]) _ _ _;refine sI ?_;refine aG FB.ga.plain PySem.F.entry_bexc_ga ?_;refine @check_slot (model prog w) _ _ s "BaseException.__getattribute__" "BaseException" "__getattribute__" (.ref x) [.str name tk] [] _ (by decide+kernel) (by decide+kernel) (ht.andThen (looks_mroIn hK G.bx)) (PySem.F.args_bexc_ga (.ref x) (.str name tk)) ?_;refine pU h (λfin s' z=>?_) λ_ _ z=>z.elim;rcases fin with(_ | _ | _ | _)| _<;>first | exact z | exact z.elim
theorem zOv{v:Value}{expr:Bool}{Q:Value->Shared->Prop}(G:uT K C)(hK:K.In s.heap)(I:InstAt s.heap x ox C (some od))(hf:findObj K C (some od) name=some (.value v))(hh:handedIn v=true)(h:Q v {s with toks:=s.toks+1}):
  wpAny (model prog w) A (getAttr (.ref x) name expr) Q E s:=by
 unfold getAttr;refine mD (wpAny_mkText (zXv (s:={s with toks:=s.toks+1}) G hK I ?_));obtain⟨hh',g,d,t,os⟩:=s;have L0:=I.type (M:=model prog w);have L1:=looks_find (M:=model prog w) hK I hf;unfold Builtin.«object.__getattribute__»;refine mD (mQ (mD (mQ (mD (L0.at (mD (L1.at ?_)))))));refine mQ ?_;show wpAny _ _ (handedOut v) _ _ _;rw[handedOut_of hh];exact mQ h
end
end L2
namespace L2
open PySem PySem.Spec PyProof.Rows PySem.W
abbrev Cx.mark(X:Cx)(v:Value):Cx:={X with A:=X.A.mark (some v),calm:=false,cool:=false,xe:=λ_ _=>False}
abbrev Cx.pend(X:Cx)(pins:List (Addr×Obj))(W:Value->Shared->Prop):Cx:={X with pn:=X.pn++pins,xe:=W}
section
variable{X:Cx}{pins pins':List (Addr×Obj)}{σ:St}{H:Hp}{s:Shared}{v:Value}{W:Value->Shared->Prop}
theorem Cx.Ok.mark(ok:X.Ok):(X.mark v).Ok:=
 ⟨ok.mod,ok.kind,ok.glob,ok.blt,ok.above,ok.inj,ok.has,ok.cab,⟨(λz=>nomatch z),λz=>nomatch z⟩,ok.frames,ok.stk,ok.exf,ok.bs,ok.bsz,ok.noex,ok.exfs,ok.funs,ok.frf⟩
theorem Inv.mark(I:Inv X pins σ H s):Inv (X.mark v) pins σ H s:=⟨I.ok.mark,I.os,I.bare,I.base,I.loc,I.cell,I.free,I.freeC,I.pin,I.hok,I.len⟩
theorem Inv.unmark(ok:X.Ok)(I:Inv (X.mark v) pins σ H s):Inv X pins σ H s:=⟨ok,I.os,I.bare,I.base,I.loc,I.cell,I.free,I.freeC,I.pin,I.hok,I.len⟩
theorem Cx.Ok.pend(ok:X.Ok):(X.pend pins W).Ok:=
 ⟨ok.mod,ok.kind,ok.glob,ok.blt,ok.above,ok.inj,ok.has,ok.cab,ok.hd,ok.frames,ok.stk,ok.exf,ok.bs,ok.bsz,ok.noex,ok.exfs,ok.funs,ok.frf⟩
theorem Inv.pend(I:Inv X pins σ H s):Inv (X.pend pins W) [] σ H s:=⟨I.ok.pend,I.os,I.bare,I.base,I.loc,I.cell,I.free,I.freeC,λp hp=>I.pin p (by rw[mN] at hp;exact hp),I.hok,I.len⟩
theorem Inv.unpend(ok:X.Ok)(I:Inv (X.pend pins W) pins' σ H s):Inv X pins σ H s:=⟨ok,I.os,I.bare,I.base,I.loc,I.cell,I.free,I.freeC,λp hp=>I.pin p (sH _ hp),I.hok,I.len⟩
theorem Inv.track{x:Addr}{o:HO}(I:Inv X pins σ H s)(hx:H x=none)(h0:X.s₀.heap.get? x=none)(hl:x≠X.env.locals)(hc:∀y c,X.env.cells.lookup y=some c->c≠x)(hp:∀p∈X.pn++pins,p.1≠x)
  (new:ObjOk X.prog X.w (upd H x o) s.heap x o):Inv X pins σ (upd H x o) s where
 ok:=I.ok
 os:=I.os
 bare:=I.bare
 base:=⟨I.base.keep,I.base.slot,λb ob e n hx'=>by rw[zN (λz=>by subst z;rw[h0] at e;cases e)];exact I.base.free b ob e n hx',I.base.there,
  λb xs e=>by have z:=I.base.tups b xs e;rw[zN (yJ z hx)];exact z,λb ob xs e=>by have z:=I.base.frzs b ob xs e;rw[zN (yJ z hx)];exact z,
  λb ps e=>by obtain⟨m,z⟩:=I.base.tbls b ps e;exact⟨m,by rw[zN (yJ z hx)];exact z⟩⟩
 loc:=I.loc
 cell:=I.cell
 free:=by rw[zN (Ne.symm hl)];exact I.free
 freeC:=λy c e=>by rw[zN (hc y c e)];exact I.freeC y c e
 pin:=λp q=>let ⟨a,b,c⟩:=I.pin p q;⟨a,by rw[zN (hp p q)];exact b,c⟩
 hok:=I.hok.also hx new
 len:=I.len
theorem Inv.wiped{h':Heap}{m':Str->Option Value}{t':Nat}(I:Inv X pins σ H s)(hn':h'.Ns X.env.locals m')(hs:Heap.SameBut X.env.locals s.heap h'):Inv X pins (List.replicate X.N.length none) H {s with heap:=h',toks:=t'}:=by
 have neL:∀b o,X.s₀.heap.get? b=some o->b≠X.env.locals:=λb o e=>nR (mX (mW e) I.ok.above);refine⟨I.ok,I.os,I.bare,⟨λb o e n hb hx=>?_,λb o e n hb hx=>?_,I.base.free,λb o e hx=>?_,I.base.tups,I.base.frzs,I.base.tbls⟩,⟨_,hn',λj y v' e1 e2 e3=>?_⟩,λy c e=>?_,I.free,I.freeC,λp hp=>?_,λb ob e=>?_,mU⟩
 ·exact(hs.2 b (neL b o e)).trans (I.base.keep b o e n hb hx)
 ·obtain⟨sl,e1⟩:=I.base.slot b o e n hb hx
  exact⟨sl,(hs.2 b (neL b o e)).trans e1⟩
 ·obtain⟨o',e1⟩:=I.base.there b o e hx
  exact⟨o',(hs.2 b (neL b o e)).trans e1⟩
 ·rw[List.getElem?_replicate] at e2
  split at e2<;>cases e2
 ·obtain⟨v',o,ho,hd⟩:=I.cell y c e
  exact⟨v',o,(hs.2 c (I.cne y c e)).trans ho,hd⟩
 ·obtain⟨a,b,c,d⟩:=I.pin p hp
  exact⟨(hs.2 _ c).trans a,b,c,d⟩
 ·refine(I.hok b ob e).stay (λc w' hc q=>(hs.2 c ?_).trans q) (λ_ q=>q) λ_ _ q=>q
  rintro rfl;rcases hc with z | z
  ·rw[<-z,I.free] at e;cases e
  ·rw[I.free] at z;cases z
end
section
variable{X:Cx}{B:Addr}{bn n:Str}{i:Nat}{body suite:List Stmt}{b₀:Stmt}{bp hp pos:Pos}{tb:XK->TS}{ts:TS}{φ:Value->Prop}
end
end L2
namespace L2
open PySem PySem.Spec PyProof.Rows PySem.W
section
variable{X:Cx}{C D:Addr}{b:Bool}
end
section
variable{X:Cx}{k j:Nat}{x:Str}{ps:List Str}{sp:Sp}{e:Expr}{es:List Expr}{t:TA}{p pos:Pos}{E:XK}
end
end L2
namespace L2
open PySem PySem.Spec PyProof.Rows PySem.W
structure RoomH(k:Nat)(A:Around):Prop where
 dp:A.depth+3*k+5<recursionLimit
 un:A.units+16*k+200<cLine
theorem Room.h{k:Nat}{A:Around}{v:Option Value}(r:Room k A):RoomH k (A.mark v):=⟨r.dp,r.un⟩
theorem RoomH.mono{j k:Nat}{A:Around}(r:RoomH k A)(h:j<=k):RoomH j A:=⟨by have:=r.dp;lia,by have:=r.un;lia⟩
theorem RoomH.deeper{k:Nat}{A:Around}(r:RoomH (k+1) A)(env:Env):RoomH k (A.deeper env):=
 ⟨by have:=r.dp;show A.depth+1+3*k+5<_;lia,by have:=r.un;show A.units+3+16*k+200<_;lia⟩
theorem RoomH.depth{k:Nat}{A:Around}(r:RoomH k A):A.depth<recursionLimit:=by have:=r.dp;lia
structure FnOkH(P:Program)(w:World)(K:PySem.W.Frag)(mg:Str->Option Value)(base:Heap)(k:Nat)(f:Addr)(fd:FuncData)(ps:List Str)(sp:Sp):Prop where
 len:∀vs H Q E,sp vs H Q E->vs.length=ps.length
 run:∀(A:Around)(outer:List Env)(s:Shared)(H:Hp)(args:Args)(us:List Value)(vs:List V)(Q:VK)(E:XK),RoomH k A->HnAt A s.heap H (frs outer) []->Env0 P w K mg base A outer s H->BindsTo s fd args (ps.zip us)->Vals vs us->sp vs H Q E->
  codeAny (model P w) A (.call (.ref f) args) (CR CX0 outer P w H s Q E) s
abbrev cxH(P:Program)(w:World)(K:PySem.W.Frag)(mg:Str->Option Value)(base:Heap)(N:List Str)(qual:Str)(scope:Scope)(f:Addr)(cd:Value)(A:Around)(outer:List Env)(s:Shared)(H:Hp):Cx:=
 {zCs CX0 P w K mg base N qual scope f cd A outer s H E0 with calm:=false,xe:=λ_ _=>False}
theorem Fun.okh{P:Program}{w:World}{K:PySem.W.Frag}{mg:Str->Option Value}{base:Heap}{k:Nat}{f:Addr}{fd:FuncData}{ps:List Str}{sp:Sp}{x qual:Str}{st:Stmt}{N:List Str}(F:Fun K x qual st f fd)(S:zV N ps (zO st))(len:∀vs H Q E,sp vs H Q E->vs.length=ps.length)
  (hbody:∀(cdv:Value)(A:Around)(outer:List Env)(s:Shared)(H:Hp)(vs:List V)(Q:VK)(E:XK),RoomH k (A.deeper (envOfC qual (zO st) s.heap.objs.size f cdv))->sp vs H Q E->
   ∃t,PSs (cxH P w K mg base N qual (zO st) f cdv A outer s H) (yU st) t/\t {nx:=λ_ H'=>Q .non H',rt:=Q} (qF N vs) H):FnOkH P w K mg base (k+1) f fd ps sp:=by
 obtain⟨oc,od,kV,doc,pm,an,cdv,ct,osl,rfl,lk,hcd⟩:=F.ex;refine⟨len,λA outer s H args us vs Q E hr hn0 e0 hb r hsp=>?_⟩;have hl:=len _ _ _ _ hsp;have KX:K.In s.heap:=e0.mod.kin.keeps λb o e=>(e0.bs b o e).1;have lim:s.heap.NoLimit:=e0.mod.nolimit.keeps λb o e=>(e0.bs b o e).1;have hkind:∀y∈ps.zip us,(zO st).names.lookup y.1=some .local\/((zO st).names.lookup y.1=some .cell/\((cellsFrom (s.heap.objs.size+1) (zO st).names []).lookup y.1).isSome=true):=fun⟨n,v⟩ hy=>by
  rcases S.par n (bR hy).1 with q | q
  ·exact .inl q
  ·exact .inr ⟨q,PySem.W.cellsFrom_some _ _ _ (.inl q)⟩
 refine codeAny_call_function hr.depth (KX _ _ lk) rfl S.co S.gen rfl (PySem.W.codeRec_of KX hcd) (hb _ _ _ _ ?_);refine wpAny_newFunctionEnv_cells S.kind hkind λenv he s1 x=>?_;subst he;refine⟨lim.keeps x.toInCall.keep,codeAny_func ?_⟩;obtain⟨t,ht,hq⟩:=hbody cdv A outer s H vs Q E (hr.deeper _) hsp;have e0':Env0 P w K mg base {A with handled:=none} outer s H:=⟨e0.frames,e0.mod,e0.bs,e0.bsz,e0.funs,e0.frf,e0.hok,e0.bare⟩;have I0:Inv (zCs CX0 P w K mg base N qual (zO st) f cdv {A with handled:=none} outer s H E0) [] (qF N vs) H s1:=zEj S rfl e0' hl r x;have ok:=I0.ok;have I:Inv (cxH P w K mg base N qual (zO st) f cdv A outer s H) [] (qF N vs) H s1:=
  ⟨⟨ok.mod,ok.kind,ok.glob,ok.blt,ok.above,ok.inj,ok.has,ok.cab,⟨(λz=>nomatch z),λ_=>hn0⟩,ok.frames,ok.stk,ok.exf,ok.bs,ok.bsz,ok.noex,ok.exfs,ok.funs,ok.frf⟩,I0.os,I0.bare,I0.base,I0.loc,I0.cell,I0.free,I0.freeC,I0.pin,I0.hok,I0.len⟩
 refine pU (ht [] s1 (qF N vs) H _ I hq) (λfl s' hs=>?_) λe s' hs=>False.elim hs;have fin:∀{σ':St}{H':Hp}{v:V}{u:Value},Inv (cxH P w K mg base N qual (zO st) f cdv A outer s H) [] σ' H' s'->RelV v u->Q v H'->CE outer P w H s Q u s':=
  λ{σ' H' v u} J rv q=>⟨v,H',J.os,J.bare,J.base,J.hok,rv,q⟩
 cases fl with
 | ret u=>
  obtain⟨v,σ',H',J,rv,q⟩:=hs;exact fin J rv q
 | next=>
  obtain⟨σ',H',J,q⟩:=hs;exact fin (v:=V.non) (u:=Value.none) J rfl q
 | brk=>
  obtain⟨_,_,_,q⟩:=hs;exact False.elim q
 | cont=>
  obtain⟨_,_,_,q⟩:=hs;exact False.elim q
def HC(X:Cx):Prop:=∀(pins:List (Addr×Obj))(σ:St)(H:Hp)(s:Shared),Inv X pins σ H s->HnAt X.A s.heap H (frs X.stack) []
theorem zVm{X:Cx}(hc:X.cool=true):HC X:=λpins σ H s I v e=>by
 obtain⟨x,o,C,vs,a,h1,h2,h3,h4,h5⟩:=I.hnAt hc v e;refine⟨x,o,C,vs,a,h1,h2,h3,h4, ?_⟩;rcases h5 with⟨h5,h6,h7⟩| h5
 ·obtain⟨x',o',C',vs',a',g1,_⟩:=I.ok.hd.2 hc v e
  rw[a] at a';cases a';exact .inl ⟨h5,I.notStk (nR (mX (mW g1) I.ok.above)) h6,λz=>nomatch z⟩
 ·exact .inr h5
structure Dh(P:Program)(w:World)(K:PySem.W.Frag)(mg:Str->Option Value)(base:Heap)(k:Nat)(x:Str)(ps:List Str)(sp:Sp):Prop where
 ex:∃(f:Addr)(fd:FuncData),FnOkH P w K mg base k f fd ps sp/\Binds K fd ps []/\PySem.W.keepIn K (.ref f)=true/\mg x=some (.ref f)
section
variable{X:Cx}{k j:Nat}{x:Str}{ps:List Str}{sp:Sp}{e:Expr}{es:List Expr}{t:TA}{p pos:Pos}
theorem kO(D:Dh X.prog X.w X.K X.mg X.base k x ps sp)(hr:RoomH j X.A)(hj:k<=j)(hg:Gl X x)(ha:PA X (e::es) t)(hdb:(x==("__debug__" :Str))=false:=by decide)(hn:HC X:=by first | exact zVm rfl | assumption)
  (he:starEach (e::es) X.env=(false,eval e X.env)::starEach es X.env:=by rfl) (hpl:(backTo pos (starEach es X.env)).any (·.1)=false:=by rfl):PE X (.Call (.Name x p) (e::es) [] pos) (kT sp [] E0 t):=by
 obtain⟨f,fd,F,hb,hk,hm⟩:=D.ex;intro pins s σ H Q I h;refine rD (wT I hg hm ?_ hdb);refine cP (h₀:=X.base) I.ok.mod.kin hk (thn (ha pos pins s σ H _ I h) λus s1 z_=>?_) he hpl;obtain⟨vs,H1,I1,r,q⟩:=z_;refine ⟨I1.kIn, ?_⟩;have q:sp (vs++ []) H1 Q E0:=q;rw[mN] at q;have hl:(us++ []).length=ps.length:=by rw[mN,<-r.length];exact F.len _ _ _ _ q
 have hbt:=hb s1 us I1.kIn hl;rw[mN] at hbt;refine sI (rQ (F.run X.A X.stack s1 H1 ⟨us,[]⟩ us vs Q E0 (hr.mono hj) (hn _ _ _ _ I1) I1.env0 hbt r q) λr s' hq=>?_)
 cases r with
 | error e=>exact False.elim hq
 | ok fl=>
  cases fl with
  | ret u=>exact I1.after hq
  | next=>exact False.elim hq
  | brk=>exact False.elim hq
  | cont=>exact False.elim hq
end
end L2
namespace L2
open PySem PySem.Spec PyProof.Rows PySem.W
section
variable{M:Model}{A:Around}{E:Value->Shared->Prop}{s:Shared}{env:Env}{outer:List Env}{x T L:Addr}{C a0 fl:Value}{d:Option Addr}{base:Heap}{Q:Unit->Shared->Prop}{φ:Value->Prop}
end
section
variable{X:Cx}{E:XK}{EE:Value->Shared->Prop}{s:Shared}{e:Value}{cs:List Addr}{φ:Value->Prop}
end
end L2
namespace L2
open PySem PySem.Spec PyProof.Rows PySem.W
section
variable{X:Cx}{E:XK}
end
section
variable{X:Cx}{scope:Scope}{own:List Str}{F:List (Str×Nat)}{elt tg iter:Expr}{ifs:List Expr}{pos:Pos}{wi:TI}{g:TG}{tt:TT}{te:TE}{E:XK}
end
end L2
namespace L2
open PySem PySem.Spec PyProof.Rows PySem.W PySem.Builtin PySem.Builtin.ObjectAttr
structure Xp(K:Frag)(nm:Str)(C B:Addr):Prop where
 obj:∃(N:Addr)(o:Obj),K.lookup C=some o/\zWf nm C N (.ref B::veMro) o/\nsOkIn K N=true/\nsIn K N "__init__" =some none
 tl:tailIn K veMro (.ref B::veMro)=true
 kp:keepIn K (.ref C)=true
section
variable{X:Cx}{C B:Addr}{nm:Str}
theorem zNe{pins:List (Addr×Obj)}{σ:St}{H:Hp}{s:Shared}{Qx:Value->Shared->Prop}{EE:Value->Shared->Prop}{us:List Value}(c:Xp X.K nm C B)(hex:X.ex= [])(I:Inv X pins σ H s)(hl:us.length<=100)
  (q:∀x s',X.s₀.heap.get? x=none->H x=none->Inv X pins σ (upd H x (exO x C none)) s'->Qx (.ref x) s'):wpAny (model X.prog X.w) X.A (call (.ref C) us) Qx EE s:=by
 obtain⟨N,o,lk,⟨q',bs,hdct,sn,sub,ab,col,dd,k0,k1,k2,k3,k5,rfl⟩,hns,hni⟩:=c.obj;have hT:=tail_of_in I.kIn c.tl;have hC:=I.kIn _ _ lk;have hn:s.heap.Ns N (s.heap.nsMap N):=.of_isNs (isNs_of_in I.kIn hns);have hi:s.heap.nsMap N "__init__" =none:=nsMap_none_of_in I.kIn hns hni;have I1:=I;obtain⟨h,g,dr,t,os⟩:=s;refine wpAny_call_exc_subT PySem.F.excBase_ValueError hT hC hn hi (λh' x hm=>?_) (by rw[mJ];lia);obtain⟨t',ht,_⟩:=hm.there;have nn:∀b o,h.get? b=some o->b≠x:=λb o e z=>by rw[z,hm.new] at e;cases e
 have hHx:H x=none:=by
  cases e:H x with
  | none=>rfl
  | some o=>
   obtain⟨ob,hob⟩:=ObjOk.got (I1.hok x o e);rw[hm.new] at hob;cases hob
 have hx0:X.s₀.heap.get? x=none:=by
  cases e:X.s₀.heap.get? x with
  | none=>rfl
  | some o=>
   obtain⟨o',e'⟩:=I1.base.there x o e (by rw[hex];exact λz=>nomatch z);rw[hm.new] at e';cases e'
 refine q x _ hx0 hHx ((I1.kept (t':=t) hm.keeps).track hHx hx0 (λz=>?_) (λy c e z=>?_) (λp hp z=>?_) (zFp ht rfl rfl rfl))
 ·obtain⟨m,⟨o,_,_,ho,_⟩,_⟩:=I1.loc
  exact nn _ _ ho z.symm
 ·obtain⟨v,o,ho,_⟩:=I1.cell y c e
  exact nn _ _ ho z
 ·exact nn _ _ (I1.pin p hp).1 z
theorem zWm{H:Hp}{x:Addr}{o:HO}(hx:H x=none):drp (upd H x o) x=H:=by
 funext b
 by_cases z:b=x
 ·subst z;rw[zDc,hx]
 ·rw[qX z,zN z]
def qL(C:Addr)(E:XK)(t:TA):TS:=λ_ σ H=>t σ H λvs H1=>vs.length<=100/\E (.ref C) none H1
structure Xr0(K:Frag)(mg:Str->Option Value)(cn:Str)(C:Addr):Prop where
 ex:∃(nm:Str)(B:Addr),Xp K nm C B/\mg cn=some (.ref C)
theorem vL{φ:Value->Prop}{E:XK}{cn:Str}{p pos rpos:Pos}{e:Expr}{es:List Expr}{t:TA}(R:Xr0 X.K X.mg cn C)(hg:Gl X cn)(hcalm:X.calm=true)(l:Lvs φ X E)(ha:PA X (e::es) t)(hdb:(cn==("__debug__" :Str))=false:=by decide)
  (he:starEach (e::es) X.env=(false,eval e X.env)::starEach es X.env:=by rfl) (hpl:(backTo pos (starEach es X.env)).any (·.1)=false:=by rfl):PS X (.Raise (some (.Call (.Name cn p) (e::es) [] pos)) none rpos) (qL C E t):=by
 intro pins s σ H D I h;obtain⟨nm,B,c,hm⟩:=R.ex;obtain⟨hs,hf,hex,hφ,hxe⟩:=l;rw[arm_exec_Raise];refine mD (sX ?_);show wpAny _ _ (raiseStmt X.env (some (do let v <-eval (.Call (.Name cn p) (e::es) [] pos) X.env;standAt rpos;pure v)) none) _ _ _;obtain⟨N,o,lk,hX,_⟩:=c.obj;refine zCr (nm:=nm) (C:=C) (N:=N) (bm:=.ref B::veMro) (by rw[tV,show veMro.contains (.type "BaseException")=true by decide,aD]) (I.ok.hd.1 hcalm) (mD ?_);refine rD (wT I hg hm ?_ hdb);refine callWith_K (h₀:=X.base) I.ok.mod.kin c.kp (thn (ha pos pins s σ H _ I h) λus s1 z_=>?_) he hpl;obtain⟨vs,H1,I1,r,hv,q⟩:=z_;refine ⟨I1.kIn, ?_⟩;refine zNe c hex I1 (by show us.length<=100;rw[<-r.length];exact hv) λx s2 hx0 hx I2=>?_;refine mD (sX (mQ ?_));have hH:upd H1 x (exO x C none) x=some (exO x C none):=zF;obtain⟨vs',e1,h6,h1,h2⟩:=zBt I2 hH;refine⟨x,_,_,vs',rfl,I2.kIn _ _ lk,hX,e1,rfl,rfl,h1,hxe _ _ (zDs I2 hs hf hex hH hx0 hφ ?_)⟩;rw[zWm hx];exact q
end
section
variable{prog:Program}{w:World}{A:Around}{K:Frag}{C x:Addr}{ox:Obj}{od:Option Obj}{name:Str}{E:Value->Shared->Prop}{s:Shared}
theorem zVj{tk:Tok}{fill expr:Bool}{Q:Value->Shared->Prop}(G:uT K C)(hK:K.In s.heap)(I:InstAt s.heap x ox C od)
  (h:wpAny (model prog w) A.in1 (Builtin.«object.__getattribute__» ⟨[.ref x, .str name tk],[]⟩) (λfin s'=>match fin with | .done (.ret v)=>wpAny (model prog w) A (handedOut v) Q E s' | _=>False) (λ_ _=>False) s):
  wpAny (model prog w) A (getAttrBy (.ref x) (.str name tk) fill expr) Q E s:=by
 have hb:Looks (model prog w) s.heap (hookBefore (.ref C)) none:=looks_hook hK (by rw[mL (by rfl)];exact G.gt);have ht:=I.type (M:=model prog w);unfold getAttrBy;refine pK (mD (ht _ _ _ _ (λ_ _ e=>e) (mD (looks_findIn hK G.ga _ _ _ _ (λ_ _ e=>e) ?_))));dsimp only;rw[show(onTheHeap (Value.ref C)&& Value.builtin "BaseException.__getattribute__" ==Value.builtin "object.__getattribute__")=false from by rw[show(Value.builtin "BaseException.__getattribute__" ==Value.builtin "object.__getattribute__")=false from by decide+kernel,aX],mG (by decide)];unfold getAttrByItsOwn;refine mD (hb _ _ _ _ (λ_ _ e=>e) (mD (tM (pK ?_))));unfold callGetattribute;rw[show(expr && onTheHeap (Value.builtin "BaseException.__getattribute__"))=false from aX _,mG (by decide)];unfold boundAndCalled;have FB:=PySem.F.attr_ValueError;rw[FB.ga.bind];refine mD (mQ ?_);show wpAny _ _ (call (.builtin "BaseException.__getattribute__") [.ref x, .str name tk]) _ _ _;refine sI ?_;refine aG FB.ga.plain PySem.F.entry_bexc_ga ?_;refine @check_slot (model prog w) _ _ s "BaseException.__getattribute__" "BaseException" "__getattribute__" (.ref x) [.str name tk] [] _ (by decide+kernel) (by decide+kernel) (ht.andThen (looks_mroIn hK G.bx)) (PySem.F.args_bexc_ga (.ref x) (.str name tk)) ?_;refine pU h (λfin s' z=>?_) λ_ _ z=>z.elim;rcases fin with(_ | _ | _ | _)| _<;>first | exact z | exact z.elim
theorem zKc(G:uT K C):findObj K C od "__class__" =some (.bind (.builtin "getset_descriptor.__get__") (.builtin "object.__class__")):=by
 obtain⟨cd,hc,_⟩:=any_some G.hd;unfold findObj;rw[hc,dA,G.cl,dA];simp[G.cg,G.ct]
theorem zJv{Q:Option Value->Shared->Prop}(G:uT K C)(hK:K.In s.heap)(I:InstAt s.heap x ox C od)(h:Q (some (.ref C)) {s with toks:=s.toks+1}):
  wpAny (model prog w) A (getAttr? (.ref x) "__class__") Q E s:=by
 have hf:=zKc (od:=od) G;unfold getAttr? getAttrBy?;refine mD (wpAny_mkText (mD (tM (zVj (s:={s with toks:=s.toks+1}) G hK I ?_))));obtain⟨hh',g,d,t,os⟩:=s;have L0:=I.type (M:=model prog w);have L1:=looks_find (M:=model prog w) hK I hf;unfold Builtin.«object.__getattribute__»;refine mD (mQ (mD (mQ (mD (L0.at (mD (L1.at ?_)))))));show wpAny _ _ (holding [Value.builtin "object.__class__"] (call (.builtin "getset_descriptor.__get__") [.builtin "object.__class__", .ref x, .ref C])>>=ret) _ _ _;refine mD (pK (sI (class_get (s:=⟨hh',g,d,t+1,os⟩) hK I G.ob ?_)));refine mQ ?_;show wpAny _ _ (handedOut (.ref C)) _ _ _;rw[handedOut_of rfl];exact mQ (mQ h)
theorem zDx(G:uT K C):KitX K (.ref x) (.ref C) (λh=>∃ox od,InstAt h x ox C od) where
 ty:=λ_ _ _ ⟨_,_,I⟩=>I.type
 it:=λ_ _ X _=>by
  obtain⟨cdD,hcD,_⟩:=any_some G.hd;unfold clsIn at hcD;split at hcD
  ·rename_i c' d' cd' sl' ho
   intro A' Q' E' s' k q;unfold isType loadHead;exact mD (wpAny_loadPart (k _ _ (X _ _ ho)) (mQ q))
  ·cases hcD
 ne:=λh tp dd its n sl X htp=>by
  obtain⟨cdD,hcD,_⟩:=any_some G.hd;refine Bool.eq_false_iff.mpr λq=>?_;have e:C=tp:=Value.ref.inj (aW.mp q);subst e;unfold clsIn at hcD;split at hcD
  ·rename_i c' d' cd' sl' ho
   have z:=(X _ _ ho).symm.trans htp;cases z
  ·cases hcD
 ca:=λX ⟨_,_,I⟩ k=>zJv G X I k
end
section
variable{X:Cx}{pins:List (Addr×Obj)}{σ:St}{H:Hp}{s:Shared}{x C:Addr}
end
section
variable{X:Cx}
end
end L2
namespace L2
open PySem
def nC(v:Value):Prop:=v= .none
def aC(_:Value):Prop:=True
end L2
namespace L2
open PySem PySem.Spec PyProof.Rows
section
variable{X:Cx}
def zPi:R2:=λx y H Q=>∃z n,x= .str z/\y= .int n/\z.length<=10/\0<=n/\n<=30000/\Q (.str (tx (List.replicate n.toNat (ts z)).flatten)) H
theorem xO:OpR X (binaryOp .Mult) zPi:=by
 intro pins s σ H x y v u Q I rx ry h;obtain⟨z,n,rfl,rfl,hz,h0,h1,q⟩:=h;obtain⟨t,rfl⟩:=rx;obtain⟨t',rfl⟩:=ry;refine SB.mul ⟨by rw[mM (by lia),mM (by lia)];rfl,λa _ b=>?_,λa _=>?_⟩ λt' k=>⟨.str (Txt.mul z n),H,I.tok _,⟨_,rfl⟩,by rw[zQa];exact q⟩
 ·have h2:(92233720368547:Int)<=(2 ^ 63 - 1:Int)/ n:=Int.le_ediv_of_mul_le (by lia) (by lia)
  lia
 ·unfold PySem.Builtin.Str.tooLong
  have e:z.length*n.toNat<=10*30000:=Nat.mul_le_mul hz (by lia);exact mM (by rw[mJ];lia)
end
end L2
namespace L2
open PySem PySem.Spec PyProof.Rows PySem.W
def zRk(X:Cx)(σ:St)(e:Expr)(t:TE):Prop:=
 ∀(pins:List (Addr×Obj))(s:Shared)(H:Hp)(Q:VK),Inv X pins σ H s->t σ H Q->wpAny (model X.prog X.w) X.A (eval e X.env) (EP X pins σ Q) X.xe s
def PSat(X:Cx)(σ:St)(st:List Stmt)(t:TS):Prop:=
 ∀(pins:List (Addr×Obj))(s:Shared)(H:Hp)(D:uN),Inv X pins σ H s->t D σ H->wpAny (model X.prog X.w) X.A (execs st X.env) (SP X pins D) X.xe s
def zCw(CX:CXT)(X:Cx)(σ:St)(E:XK):Prop:=∀(pins:List (Addr×Obj))(H:Hp)(s:Shared)(e:Value)(s':Shared),Inv X pins σ H s->CX X.stack H s E e s'->X.xe e s'
section
variable{X:Cx}{CX:CXT}{k j:Nat}{f:Addr}{fd:FuncData}{ps:List Str}{sp:Sp}{dvs:List V}{ds:List Value}{E:XK}{x:Str}{p pos:Pos}{e:Expr}{es:List Expr}{t:TA}{te:TE}{σ:St}
theorem zTp{pins:List (Addr×Obj)}{H:Hp}{s:Shared}{Q:VK}{us:List Value}{vs:List V}(F:FnOk X.prog X.w X.K X.mg X.base CX k f fd ps sp)(hr:Room k X.A)(hb:Binds X.K fd ps ds)(hd:Vals dvs ds)(hx:zCw CX X σ E)
  (I:Inv X pins σ H s) (r:Vals vs us) (h:sp (vs++dvs) H Q E):wpAny (model X.prog X.w) X.A (call (.ref f) us) (EP X pins σ Q) X.xe s:=by
 have r2:Vals (vs++dvs) (us++ds):=r.append hd;have hl:(us++ds).length=ps.length:=by rw[<-r2.length];exact F.len _ _ _ _ h
 refine sI (rQ (F.run X.A X.stack s H ⟨us,[]⟩ (us++ds) (vs++dvs) Q E hr I.env0 (hb s us I.kIn hl) r2 h) λr s' hq=>?_)
 cases r with
 | error e=>exact hx pins H s e s' I hq
 | ok fl=>
  cases fl with
  | ret u=>exact I.after hq
  | next=>exact False.elim hq
  | brk=>exact False.elim hq
  | cont=>exact False.elim hq
theorem zPx{φ:Value->Prop}(D:Dx φ X.prog X.w X.K X.mg X.base k x ps sp)(hr:Room j X.A)(hj:k<=j)(hg:Gl X x)(l:zCw (CXE φ X.prog X.w) X σ E)(ha:PA X (e::es) t)(hdb:(x==("__debug__" :Str))=false:=by decide)
  (he:starEach (e::es) X.env=(false,eval e X.env)::starEach es X.env:=by rfl) (hpl:(backTo pos (starEach es X.env)).any (·.1)=false:=by rfl):zRk X σ (.Call (.Name x p) (e::es) [] pos) (kT sp [] E t):=by
 obtain⟨f,fd,h1,h2,h3,h4⟩:=D.ex;intro pins s H Q I h;refine rD (wT I hg h4 ?_ hdb);refine cP (h₀:=X.base) I.ok.mod.kin h3 (thn (ha pos pins s σ H _ I h) λus s1 z_=>?_) he hpl;obtain⟨vs,H1,I1,r,q⟩:=z_;refine ⟨I1.kIn, ?_⟩;exact zTp h1 (hr.mono hj) h2 .nil l I1 r q
theorem zJh(he:zRk X σ e te):PSat X σ [.Return (some e) pos] (zNz te):=by
 intro pins s H D I h;refine cV (wpAny_Return_some (thn (he pins s H _ I h) λv s1 z_=>?_));obtain⟨x,H1,I1,r1,q1⟩:=z_;exact ⟨x,σ,H1,I1,r1,q1⟩
end
section
variable{X:Cx}{B:Addr}{bn:Str}{body suite:List Stmt}{b₀:Stmt}{bp hp pos:Pos}{tb:XK->TS}{ts:TS}{φ:Value->Prop}
end
end L2
namespace L2
open PySem PySem.Spec PyProof.Rows PySem.W
theorem FnOkH.fn{P:Program}{w:World}{K:Frag}{mg:Str->Option Value}{base:Heap}{k:Nat}{f:Addr}{fd:FuncData}{ps:List Str}{sp:Sp}(F:FnOkH P w K mg base k f fd ps sp):FnOk P w K mg base CX0 k f fd ps sp:=
 ⟨F.len,λA outer s H args us vs Q E hr=>F.run A outer s H args us vs Q E ⟨hr.dp,hr.un⟩ (HnAt.none hr.hd)⟩
theorem Dh.dn{P:Program}{w:World}{K:Frag}{mg:Str->Option Value}{base:Heap}{k:Nat}{x:Str}{ps:List Str}{sp:Sp}(D:Dh P w K mg base k x ps sp):Dn P w K mg base k x ps sp:=by
 obtain⟨f,fd,F,a,b,c⟩:=D.ex;exact⟨f,fd,F.fn,a,b,c⟩
end L2
namespace L2
open PySem PySem.Spec PyProof.Rows PySem.W
noncomputable def exN(x C:Addr)(d:Option Addr):HO:=.ext λh=>∃(ob:Obj)(vs:Array Value),h.get? x=some ob/\ob.cls= .ref C/\ob.dict=d/\ob.data= .fields vs/\vs[2]? =some Value.none
theorem zZp{P:Program}{w:World}{H:Hp}{h:Heap}{x C:Addr}{d:Option Addr}{ob:Obj}{vs:Array Value}(e:h.get? x=some ob)(h1:ob.cls= .ref C)(h2:ob.dict=d)(h3:ob.data= .fields vs)(h4:vs[2]? =some Value.none):ObjOk P w H h x (exN x C d):=
 ⟨⟨ob,vs,e,h1,h2,h3,h4⟩,⟨_,e⟩,λ_ _ ⟨ob,vs,e,a⟩ k=>⟨ob,vs,k _ e,a⟩⟩
section
variable{X:Cx}{B:Addr}{bn n:Str}{i:Nat}{body suite:List Stmt}{b₀:Stmt}{bp hp pos:Pos}{tb:XK->TS}{ts:Addr->TS}{φ:Value->Prop}
def zPw(K:Frag)(B:Addr)(i len:Nat)(ts:Addr->TS)(D:uN)(σ:St):XK:=λC d H2=>∃Ca,C= .ref Ca/\exmOne K (.ref Ca) (.ref B)=some true/\
 ∀x o,H2 x=none->ts x {D with nx:=λ_ H'=>D.nx (List.replicate len none) H',bk:=λ_ H'=>D.bk (List.replicate len none) H',ct:=λ_ H'=>D.ct (List.replicate len none) H'} (σ.set i (some (.ref x))) (upd H2 x (.frz o (exN x Ca d)))
def zWa(K:Frag)(B:Addr)(i len:Nat)(tb:XK->TS)(ts:Addr->TS):TS:=λD σ H=>tb (zPw K B i len ts D σ) D σ H
theorem zPj(hcalm:X.calm=true)(hgB:Gl X bn)(hmB:X.mg bn=some (.ref B))(hN:X.N.Nodup)(hi:X.N[i]? =some n)(hl:X.env.scope.names.lookup n=some .local)(hstk:X.stack=X.env::X.outer)(hf:X.env.frame=some X.env.locals)(hex:X.ex= [])
  (hb:∀pins W E σ,zCw (CXE φ X.prog X.w) (X.pend pins W) σ E->PSat (X.pend pins W) σ body (tb E)) (hφ:∀v,φ v->v= .none) (hsu:∀x,PSs (X.mark (.ref x)) (b₀::suite) (ts x)) (hdb:(bn==("__debug__" :Str))=false:=by decide):
  PS X (.Try body [.ExceptHandler (some (.Name bn bp)) (some n) (b₀::suite) hp] [] [] pos) (zWa X.K B i X.N.length tb ts):=by
 intro pins s σ H D I h;refine wpAny_Try_except ?_;have J:=hb pins (λe s'=>∃H1 s1,Inv X pins σ H1 s1/\CXE φ X.prog X.w X.stack H1 s1 (zPw X.K B i X.N.length ts D σ) e s') (zPw X.K B i X.N.length ts D σ) σ
  (λpins' H' s1 e s' I1 hx=>⟨H',s1,I1.unpend I.ok,hx⟩) [] s H D I.pend h
 refine pU J (λf s1 q=>?_) λe s1 ⟨H0,s0,I0,hx⟩=>?_
 ·cases f with
  | next=>obtain⟨σ',H',I',q⟩:=q;exact aM ⟨σ',H',I'.unpend I.ok,q⟩
  | brk=>obtain⟨σ',H',I',q⟩:=q;exact⟨σ',H',I'.unpend I.ok,q⟩
  | cont=>obtain⟨σ',H',I',q⟩:=q;exact⟨σ',H',I'.unpend I.ok,q⟩
  | ret u=>obtain⟨v,σ',H',I',r,q⟩:=q;exact⟨v,σ',H',I'.unpend I.ok,r,q⟩
 obtain⟨x,T,C,d,a0,H',rfl,os,bare,un,hok,hx0,hT0,hHx,hHT,fl,Ca,rfl,hexm,q⟩:=hx;have I2:Inv X pins σ H' s1:=I0.call' os un hok bare (λb z=>absurd z (by simp));have nfr:∀b,s0.heap.get? b=none->b∉frs X.stack:=λb hb z=>by
  obtain⟨o,e,_⟩:=zGg I0.stack b z;rw[hb] at e;cases e
 have hfr:=I0.ok.frames;have nx:=nfr x hx0;have nT:=nfr T hT0;have st:=I2.stack;rw[hstk] at hfr;have nx':=nx;have nT':=nT;rw[hstk] at nx' nT' st;refine zMi hfr st hf nx' nT' fl λh1 T1 f1 k1 n1=>?_;refine qG f1 λh2 f2 k2=>?_;rw[<-hstk] at k1;have hT1H:H' T1=none:=by
  cases e:H' T1 with
  | none=>rfl
  | some o=>
   obtain⟨ob,hob⟩:=ObjOk.got (I2.hok T1 o e);rw[n1] at hob;cases hob
 have hT10:s0.heap.get? T1=none:=by
  cases e:s0.heap.get? T1 with
  | none=>rfl
  | some o=>
   obtain⟨o',e'⟩:=un.there T1 o e (λz=>nomatch z);rw[n1] at e';cases e'
 have k3:Kp (frs X.stack) [x,T,T1] s1.heap h2:=k1.trans (kJ k2 λb hb=>nomatch hb) λc hc=>by
  rcases hc with z | z
  ·rcases mF.mp z with z | z
   ·rw[z];simp
   ·rw[mS.mp z];simp
  ·rw[mS.mp z.1];simp
 have all0:∀b∈ [x,T,T1],s0.heap.get? b=none/\H' b=none:=λb hb=>by
  rcases mF.mp hb with z | z
  ·rw[z];exact⟨hx0,hHx⟩
  ·rcases mF.mp z with z | z
   ·rw[z];exact⟨hT0,hHT⟩
   ·rw[mS.mp z];exact⟨hT10,hT1H⟩
 have I3:Inv X pins σ H' {s1 with heap:=h2}:=I0.call' (s':={s1 with heap:=h2}) os (zLi un k3 λb hb=>(all0 b hb).1) (zFc hok k3 I2.stkFree λb hb=>(all0 b hb).2) bare (λb z=>absurd z (by simp));have LT:Looks (model X.prog X.w) h2 (typeOf (.ref x)) (.ref Ca):=by
  obtain⟨oe,vs,oT,ts',e1,e2,_⟩:=f2;exact e2▸(Looks.ld e1).andThen .now
 refine wpAny_handleBy_cons (codeAny_handlers_test ?_) (by intro z;cases z);refine wT (X:=X.mark (.ref x)) (I3.mark) hgB hmB ?_ hdb;refine exm_one (M:=model X.prog X.w) I3.kIn LT hexm _ _ _ {s1 with heap:=h2} (λ_ _ e=>e) ?_;refine codeAny_handlers_suite_as ?_;refine qG f2 λh3 f3 k4=>?_;have k5:Kp (frs X.stack) [x,T,T1] s1.heap h3:=k3.trans (kJ k4 λb hb=>nomatch hb) λc hc=>by
  rcases hc with z | z
  ·exact z
  ·rw[mS.mp z.1];simp
 have I4:Inv X pins σ H' {s1 with heap:=h3}:=I0.call' (s':={s1 with heap:=h3}) os (zLi un k5 λb hb=>(all0 b hb).1) (zFc hok k5 I2.stkFree λb hb=>(all0 b hb).2) bare (λb z=>absurd z (by simp));have hxs:X.s₀.heap.get? x=none:=by
  cases e:X.s₀.heap.get? x with
  | none=>rfl
  | some o=>
   obtain⟨o',e'⟩:=I0.base.there x o e (by rw[hex];exact λz=>nomatch z);rw[hx0] at e';cases e'
 obtain⟨oe,vs,oT,ts',e1,e2,e3,e4,_,_,_,_,_,_,cx,e5,e6⟩:=f3;have e7:=hφ cx e6;subst e7;have I5:Inv X pins σ (upd H' x (.frz oe (exN x Ca d))) {s1 with heap:=h3}:=by
  refine I4.track hHx hxs (λz=>?_) (λy c e z=>?_) (λp hp z=>?_) ⟨e1,zZp e1 e2 e3 e4 e5⟩
  ·obtain⟨m,⟨o,_,_,ho,_⟩,_⟩:=I0.loc
   rw[<-z,hx0] at ho;cases ho
  ·obtain⟨v,o,ho,_⟩:=I0.cell y c e
   rw[z,hx0] at ho;cases ho
  ·have ho:=(I0.pin p hp).1
   rw[z,hx0] at ho;cases ho
 refine gX (v:=.ref x) I5 hN hi (.inl hl) rfl (λs4 I7=>?_) (.inr hl);refine pU (hsu x pins s4 _ _ _ I7.mark (q x oe hHx)) (λf s5 z=>?_) λ_ _ z=>False.elim z;have hcls:(X.env.scope.kind== .class ||(X.env.scope.kind== .module && X.env.locals !=X.env.globals))=false:=by rw[I.ok.kind];rfl
 cases f with
 | next=>
  obtain⟨σ5,H5,I8,q5⟩:=z;obtain⟨m,hn,_⟩:=I8.loc;exact cH hl hn hcls λh' m' hn' hs'=>⟨_,H5,(I8.unmark I.ok).wiped hn' hs',q5⟩
 | brk=>
  obtain⟨σ5,H5,I8,q5⟩:=z;obtain⟨m,hn,_⟩:=I8.loc;exact cH hl hn hcls λh' m' hn' hs'=>⟨_,H5,(I8.unmark I.ok).wiped hn' hs',q5⟩
 | cont=>
  obtain⟨σ5,H5,I8,q5⟩:=z;obtain⟨m,hn,_⟩:=I8.loc;exact cH hl hn hcls λh' m' hn' hs'=>⟨_,H5,(I8.unmark I.ok).wiped hn' hs',q5⟩
 | ret u=>
  obtain⟨v,σ5,H5,I8,r5,q5⟩:=z;obtain⟨m,hn,_⟩:=I8.loc;exact cH hl hn hcls λh' m' hn' hs'=>⟨v,_,H5,(I8.unmark I.ok).wiped hn' hs',r5,q5⟩
end
section
variable{X:Cx}{k j:Nat}{x:Str}{ps:List Str}{sp:Sp}{e:Expr}{es:List Expr}{t:TA}{p pos:Pos}{xa:Addr}
def zKx(xa:Addr)(sp:Sp)(t:TA):TE:=λσ H Q=>t σ H λvs H1=>(∃o C d,H1 xa=some (.frz o (exN xa C d)))/\sp vs H1 Q E0
theorem zXa(D:Dh X.prog X.w X.K X.mg X.base k x ps sp)(hxa:X.A.handled=some (.ref xa))(hr:RoomH j X.A)(hj:k<=j)(hg:Gl X x)(ha:PA X (e::es) t)(hdb:(x==("__debug__" :Str))=false:=by decide)
  (he:starEach (e::es) X.env=(false,eval e X.env)::starEach es X.env:=by rfl) (hpl:(backTo pos (starEach es X.env)).any (·.1)=false:=by rfl):PE X (.Call (.Name x p) (e::es) [] pos) (zKx xa sp t):=by
 obtain⟨f,fd,F,hb,hk,hm⟩:=D.ex;intro pins s σ H Q I h;refine rD (wT I hg hm ?_ hdb);refine cP (h₀:=X.base) I.ok.mod.kin hk (thn (ha pos pins s σ H _ I h) λus s1 ⟨vs,H1,I1,r,⟨o,C,d,hz⟩,q⟩=>⟨I1.kIn, ?_⟩) he hpl;obtain⟨g,⟨ob,vs',e1,e2,e3,e4,e5⟩,_⟩:=(show ObjOk X.prog X.w H1 s1.heap xa (.frz o (exN xa C d)) from I1.hok xa _ hz);rw[g] at e1;cases e1;have hn:HnAt X.A s1.heap H1 (frs X.stack) []:=λv ev=>by
  rw[hxa] at ev;cases ev;exact⟨xa,o,C,vs',rfl,g,e2,e4,e5, .inr ⟨_,hz⟩⟩
 have hl:(us++ []).length=ps.length:=by rw[mN,<-r.length];exact F.len _ _ _ _ q
 have hbt:=hb s1 us I1.kIn hl;rw[mN] at hbt;refine sI (rQ (F.run X.A X.stack s1 H1 ⟨us,[]⟩ us vs Q E0 (hr.mono hj) hn I1.env0 hbt r q) λr s' hq=>?_)
 cases r with
 | error e=>exact False.elim hq
 | ok fl=>
  cases fl with
  | ret u=>exact I1.after hq
  | next=>exact False.elim hq
  | brk=>exact False.elim hq
  | cont=>exact False.elim hq
end
section
variable{X:Cx}{C:Addr}
def zQt(C:Addr)(f:Str)(ta:TE):TE:=λσ H Q=>ta σ H λv H1=>∃x o d fs n,v= .ref x/\H1 x=some (.frz o (exN x C (some d)))/\H1 d=some (.xd fs)/\fs.lookup f=some (.int n)/\Q (.int n) H1
theorem zGe{e:Expr}{f:Str}{ta:TE}{pos:Pos}(G:uT X.K C)(hf:findIn X.K (.ref C) f=some none)(he:PE X e ta)(hb:attributeBase e f X.env (eval e X.env)=eval e X.env:=by rfl):PE X (.Attribute e f pos) (zQt C f ta):=by
 intro pins s σ H Q I h;refine zLq hb (thn (he pins s σ H _ I h) λu s1 z_=>?_);obtain⟨v,H1,I1,rx,x,o,d,fs,n,ev,hx,hd,hl,q⟩:=z_;subst ev;obtain rfl:u=Value.ref x:=rx;obtain⟨g,⟨ob,vs,e1,e2,e3,e4,_⟩,_⟩:=(show ObjOk X.prog X.w H1 s1.heap x (.frz o (exN x C (some d))) from I1.hok x _ hx);obtain⟨mA,nn,r⟩:=I1.hok d _ hd;obtain⟨od,ho,hlk⟩:=uY nn;have J:InstAt s1.heap x ob C (some od):=⟨e1,e2,by unfold notCls;rw[e4],by rw[e3];exact ho⟩;have e1':=hlk f;have e2':=r f;rw[hl] at e2'
 cases hu:mA f with
 | none=>rw[hu] at e2';exact e2'.elim
 | some u=>
  rw[hu] at e2' e1';obtain⟨tk,rfl⟩:∃tk,u=Value.int n tk:=e2';refine zOv G I1.kIn J (findObj_own G.hd hf rfl e1') rfl ⟨.int n,H1,I1.tok _,⟨_,rfl⟩,q⟩
end
structure Dmx(φ:Value->Prop)(P:Program)(w:World)(K:PySem.W.Frag)(mg:Str->Option Value)(base:Heap)(k:Nat)(C:Addr)(m:Str)(ps:List Str)(sp:Sp):Prop where
 ex:∃(f:Addr)(fd:FuncData),Cls K C/\zGy K C m f/\FnOk P w K mg base (CXE φ P w) k f fd ps sp/\Binds K fd ps []
section
variable{X:Cx}{k j:Nat}{C:Addr}{x m:Str}{ps:List Str}{sp:Sp}{e o:Expr}{es:List Expr}{t:TA}{ta:TE}{p pos apos:Pos}{E:XK}
theorem vR{φ:Value->Prop}{pl:Sem Bool}(D:Dmx φ X.prog X.w X.K X.mg X.base k C m ps sp)(hr:Room j X.A)(hj:k<=j)(he:PE X o ta)(l:Lvs φ X E)(ha:PA X (e::es) t)
  (hst:starEach (e::es) X.env=(false,eval e X.env)::starEach es X.env:=by rfl) (hpl:(backTo pos (starEach es X.env)).any (·.1)=false:=by rfl)
  (ht:eval (.Call (.Attribute o m apos) (e::es) [] pos) X.env=(do
   let ov <-eval o X.env
   standAt apos.atName
   let (f,first) <-holding [ov] (getMethod ov m pl)
   callWith pos f first (backTo pos (starEach (e::es) X.env)) (backToKw pos (keywordEach [] X.env))):=by rfl):
  PE X (.Call (.Attribute o m apos) (e::es) [] pos) (zHc C m sp [] E ta t):=by
 obtain⟨f,fd,h1,h2,h3,h4⟩:=D.ex;exact zMo he h1 h2 h3 (hr.mono hj) h4 .nil (zWu l) ha hst hpl ht
end
end L2
namespace L2
open PySem PySem.Spec PyProof.Rows PySem.W
theorem zNf{X:Cx}:OpR X (compareOp .Gt) (λx y H Q=>∃i j,x= .str i/\y= .str j/\Q (.bl (decide (j.cps.toList<i.cps.toList))) H):=by
 intro pins s σ H x y v u Q I rx ry h;obtain⟨i,j,rfl,rfl,q⟩:=h;obtain⟨t,rfl⟩:=rx;obtain⟨t',rfl⟩:=ry;exact P.gt_str (yP I q rfl)
end L2
namespace L2
open PySem PySem.Spec PyProof.Rows PySem.W
section
variable{X:Cx}{e:Expr}{es:List Expr}{te:TE}{t:TA}{σ:St}{pos:Pos}
def zUw(X:Cx)(σ:St)(es:List Expr)(t:TA):Prop:=
 ∀(pos:Pos)(pins:List (Addr×Obj))(s:Shared)(H:Hp)(Q:List V->Hp->Prop),Inv X pins σ H s->t σ H Q->wpAny (model X.prog X.w) X.A (spliced (backTo pos (starEach es X.env))) (AP X pins σ Q) X.xe s
theorem PA.at(h:PA X es t):zUw X σ es t:=λpos pins s H Q I q=>h pos pins s σ H Q I q
theorem PE.at(h:PE X e te):zRk X σ e te:=λpins s H Q I q=>h pins s σ H Q I q
theorem zEn(ha:zRk X σ e te)(hr:zUw X σ es t)(hs:starEach (e::es) X.env=(false,eval e X.env)::starEach es X.env:=by rfl):zUw X σ (e::es) (zAl te t):=by
 intro pos pins s H Q I h;rw[hs];show wpAny _ _ (spliced ((false,eval e X.env)::backTo pos (starEach es X.env))) _ _ s;refine aQ (thn (ha pins s H _ I h) λu s1 z_=>?_);obtain⟨x,H1,I1,r1,q1⟩:=z_;refine thn (hr pos pins s1 H1 _ I1 q1) λus s2 z_=>?_;obtain⟨xs,H2,I2,r2,q2⟩:=z_;exact ⟨x::xs,H2,I2, .cons r1 r2,q2⟩
theorem zPo{x1}(h:zUw X σ es t):zRk X σ (.Tuple es x1 pos) (zMy t):=by
 intro pins s H Q I hq;refine wpAny_Tuple_spliced (thn (h pos pins s H _ I hq) λus s1 z_=>?_);obtain⟨xs,H1,I1,r,z,q⟩:=z_;refine ⟨by rw[<-r.length];exact z, ?_⟩;have hf:H1 s1.heap.objs.size=none:=I1.hok.fresh (mK _);refine⟨.ref s1.heap.objs.size,upd H1 s1.heap.objs.size (.tup xs),I1.laid (t':=s1.toks) (λb u e=>mI _ e) (mK _) ?_,rfl,q _ hf⟩;exact⟨z,us,r,⟨_,nI _ rfl,rfl,_,rfl⟩⟩
end
section
variable{X:Cx}{pins:List (Addr×Obj)}{σ:St}{H:Hp}{s:Shared}{x C:Addr}
def CaughtZ(H:Hp)(x C:Addr):Prop:=∃o,H x=some (.frz o (exN x C none))\/∃d fs,H x=some (.frz o (exN x C (some d)))/\H d=some (.xd fs)
theorem CaughtZ.inst(h:CaughtZ H x C)(I:Inv X pins σ H s):∃ob od,InstAt s.heap x ob C od:=by
 obtain⟨o,h |⟨d,fs,h,hd⟩⟩:=h
 ·obtain⟨g,⟨ob,vs,e1,e2,e3,e4,_⟩,_⟩:=(show ObjOk X.prog X.w H s.heap x (.frz o (exN x C none)) from I.hok x _ h)
  refine⟨ob,none,⟨e1,e2, ?_,by rw[e3];trivial⟩⟩;unfold notCls;rw[e4]
 ·obtain⟨g,⟨ob,vs,e1,e2,e3,e4,_⟩,_⟩:=(show ObjOk X.prog X.w H s.heap x (.frz o (exN x C (some d))) from I.hok x _ h)
  obtain⟨mA,nn,r⟩:=I.hok d _ hd;obtain⟨od,ho,hlk⟩:=uY nn;exact⟨ob,some od,⟨e1,e2,by unfold notCls;rw[e4],by rw[e3];exact ho⟩⟩
theorem kE:xY X (.builtin "isinstance") (λvs H Q=>∃x C D b,vs= [.ref x, .ref D]/\CaughtZ H x C/\uT X.K C/\kitOne X.K (.ref C) (.ref D)=some b/\Q (.bl b) H):=by
 intro pins s σ H xs us Q I r h;obtain⟨x,C,D,b,rfl,hc,G,hk,q⟩:=h;obtain⟨u,w',rfl,ru,rw'⟩:=zDr r;cases (show u=Value.ref x from ru);cases (show w'=Value.ref D from rw');obtain⟨ob,od,J⟩:=hc.inst I;exact kia_one (zDx G) I.kIn ⟨ob,od,J⟩ hk (by intro z;cases z) λtk=>⟨.bl b,H,I.tok _,rfl,q⟩
theorem zOo{T:String}:xY X (.builtin "isinstance") (λvs H Q=>∃x C b,vs= [.ref x, .ty T]/\CaughtZ H x C/\uT X.K C/\kitOne X.K (.ref C) (.type T)=some b/\Q (.bl b) H):=by
 intro pins s σ H xs us Q I r h;obtain⟨x,C,b,rfl,hc,G,hk,q⟩:=h;obtain⟨u,w',rfl,ru,rw'⟩:=zDr r;cases (show u=Value.ref x from ru);cases (show w'=Value.type T from rw');obtain⟨ob,od,J⟩:=hc.inst I;exact kia_one (zDx G) I.kIn ⟨ob,od,J⟩ hk (by intro z;cases z) λtk=>⟨.bl b,H,I.tok _,rfl,q⟩
end
end L2
namespace L2
open PySem PySem.Spec PyProof.Rows
theorem pS{X:Cx}{pos pos':Pos}{x:Str}{e:Expr}{te:TE}(i:Nat)(hN:X.N.Nodup)(he:PE X e te)(hi:X.N[i]? =some x:=by rfl)(hx:Loc X.env.scope x:=by exact pR rfl)(hs:swapsWith e (some (.Name x pos')) pos.line X.env=pure false:=by rfl)(hf:X.fn x=true\/X.env.scope.names.lookup x=some .local:=by first | exact .inl rfl | exact .inr rfl | assumption):PS X (.Assign [.Name x pos'] e pos) (zId te (vX i)):=zXf hN hi hx he hs hf
theorem pD{X:Cx}{k j:Nat}{x:Str}{ps:List Str}{sp:Sp}{e:Expr}{es:List Expr}{t:TA}{p pos:Pos}(D:Dn X.prog X.w X.K X.mg X.base k x ps sp)(hr:Room j X.A)(ha:PA X (e::es) t)(hj:k<=j:=by first | decide | lia)(hg:Gl X x:=by rfl)(hdb:(x==("__debug__" :Str))=false:=by decide)
  (he:starEach (e::es) X.env=(false,eval e X.env)::starEach es X.env:=by rfl) (hpl:(backTo pos (starEach es X.env)).any (·.1)=false:=by rfl):PE X (.Call (.Name x p) (e::es) [] pos) (kT sp [] E0 t):=pe_cd D hr hj hg ha hdb he hpl
theorem pI{X:Cx}{x0 x:Str}{T:String}{e:Expr}{te:TE}{p p2 pos:Pos}(h0:X.mg x0=none)(b0:bootBuiltins x0=some (.builtin "isinstance"))(hm:X.mg x=none)(hb:bootBuiltins x=some (.type T))(he:PE X e te)(hT:T∈tyL:=by decide)(g1:Gl X x0:=by rfl)(g2:Gl X x:=by rfl)(hn0:x0≠ "__name__":=by decide)(hd0:(x0==("__debug__" :Str))=false:=by decide)(hn:x≠ "__name__":=by decide)(hd:(x==("__debug__" :Str))=false:=by decide)
  (h1:starEach [e, .Name x p2] X.env=(false,eval e X.env)::starEach [.Name x p2] X.env:=by rfl) (h2:(backTo pos (starEach [.Name x p2] X.env)).any (·.1)=false:=by rfl):PE X (.Call (.Name x0 p) [e, .Name x p2] [] pos) (tCB (λxs H Q=>∃x t,xs= [x, .ty T]/\tyS H x=some t/\Q (.bl (wI t T)) H) (zAl te (zAl (tC (.ty T)) zNt))):=
 zP (zCl hT) g1 h0 b0 (zA he (zA (kK (v:=.ty T) g2 hm hb rfl hn hd) zB) h1) hn0 hd0 h1 h2
theorem len1{α:Type}{us:List α}(h:us.length=1):∃a,us= [a]:=
 match us,h with
 | [a],_=>⟨a,rfl⟩
theorem len2{α:Type}{us:List α}(h:us.length=2):∃a b,us= [a,b]:=
 match us,h with
 | [a,b],_=>⟨a,b,rfl⟩
theorem len3{α:Type}{us:List α}(h:us.length=3):∃a b c,us= [a,b,c]:=
 match us,h with
 | [a,b,c],_=>⟨a,b,c,rfl⟩
end L2
section
open PySem L2
local macro_rules | `(tactic| walk_at "b") => `(tactic| (intro _ F; refine F.binds ?_; intro _ _ _ _ _ _ us hl; first | (obtain ⟨_,e⟩ := len1 hl; subst e; rfl) | (obtain ⟨_,_,e⟩ := len2 hl; subst e; rfl) | (obtain ⟨_,_,_,e⟩ := len3 hl; subst e; rfl) | (obtain ⟨_,_,_,_,e⟩ := len4 hl; subst e; rfl) | (cases List.eq_nil_of_length_eq_zero hl; rfl)))
local macro_rules | `(tactic| walk_at "ln") => `(tactic| (intro vs H Q E h; repeat (first | (obtain ⟨e,_⟩ := h; subst e; rfl) | (obtain ⟨_,h⟩ := h))))
local macro_rules|`(tactic|walk_at "rd6")=>let a:Array Lean.Term:=(("zZz zZn zFw zHc zLy zYc zOm zBx zNi zWi zWq zGt gQ zRj zIy zIr zHt zKy zIu zIc zLg kN zJz zIe zId vX zNz zMp zRq zJj tOp tUn zJt tC kT zAl zNt zIs tB zUm tOr zSa zGu zPh zHr tIf tCB tBM kN zEb zJi gY tSl zCa zRa zJa zSp zMy zHf zBv zAf rI0 rI rU rEq rNe zIq zSy zIv zTa zUk CMul zRn zNl List.getElem?_cons_zero List.getElem?_cons_succ List.set_cons_zero List.set_cons_succ List.map_cons List.map_nil List.length_cons List.length_nil Nat.reduceAdd Option.join_some Option.join_none".splitOn " ").map fun n=>⟨Lean.mkIdent n.toName⟩).toArray;`(tactic|first|(dsimp only [$[$a:term],*];try walk_at "rd6s")|walk_at "rd6s")
local macro_rules|`(tactic|walk_at "rd6s")=>let a:Array Lean.Term:=(("zZz zZn zFw zHc zLy zYc zOm zBx zNi zWi zWq zGt gQ zRj zIy zIr zHt zKy zIu zIc zLg kN zQh zWz zIw zJz zIe zId vX zNz zMp zRq zJj tOp tUn zJt tC kT zAl zNt zIs tB zUm tOr zSa zGu zPh zHr tIf tCB tBM kN zEb zJi gY tSl zCa zRa zJa zSp zMy zMg zHf zBv zAf rI0 rI rU rEq rNe zIq zSy zIv zTa zUk CMul zRn zNl List.append_nil List.getElem?_cons_zero List.getElem?_cons_succ List.set_cons_zero List.set_cons_succ List.map_cons List.map_nil List.length_cons List.length_nil sizeLine_eq Nat.reduceAdd Nat.reduceLeDiff Option.join_some Option.join_none Option.some.injEq V.int.injEq V.str.injEq V.bl.injEq V.ref.injEq V.ty.injEq List.cons.injEq and_true true_and and_self exists_eq_left' exists_eq_left exists_and_left exists_and_right decide_eq_true_eq Bool.not_eq_eq_eq_not Bool.not_true Bool.not_false decide_eq_false_iff_not Int.reduceLT Int.reduceLE Int.reduceNeg Int.reducePow Int.reduceAdd Int.reduceSub Int.reduceMul Int.reduceToNat zIm Nat.reduceLT Nat.reducePow or_true true_or if_true if_false Bool.false_eq_true ite_true ite_false reduceCtorEq".splitOn " ").map fun n=>⟨Lean.mkIdent n.toName⟩).toArray;`(tactic|simp only [$[$a:term],*])
local macro_rules | `(tactic| walk_at "sc") => `(tactic| exact ⟨rfl,rfl,rfl,by decide +kernel,rfl,by decide +kernel,by decide +kernel⟩)
local macro_rules | `(tactic| walk_at "st") => `(tactic| simp only [qF,List.map_cons,List.map_nil,List.length_cons,List.length_nil,Nat.reduceAdd,Nat.reduceSub,List.replicate_succ,List.replicate_zero,List.cons_append,List.nil_append])
local macro_rules | `(tactic| walk_at "wu") => `(tactic| with_unfolding_all rfl)
namespace K26
open PySem L2
seal L2.PSs L2.PS L2.PE L2.PT L2.PW L2.PA L2.PI L2.PG L2.PGs L2.PPs L2.PTs
def top(i:Nat):Stmt:=PySem.Challenge.pw_cabinet_k26_bounds_told.main.body.getD i (.Pass ⟨0,0,0,0⟩)
abbrev zSz:Stmt:=top 38
def zFq(K:W.Frag):Sp:=λvs H Q _=>∃(a:Addr)(ns:List Int)(k:Int),vs= [.ref a, .int k]/\SqL K H a (ns.map V.int)/\ns.length<=63/\0<=k/\k<1000000/\∀H',Same H H'->Q (.int (wJ ns k)) H'
theorem vV{K:W.Frag}{H:Hp}{Q:VK}{E:XK}{a:Addr}{ns:List Int}{k:Int}(hS:SqL K H a (ns.map V.int))(h63:ns.length<=63)(h0:0<=k)(h1:k<1000000)(q:∀H',Same H H'->Q (.int (wJ ns k)) H'):
  zFq K [.ref a, .int k] H Q E:=⟨a,ns,k,rfl,hS,h63,h0,h1,q⟩
section
variable{P:Program}{w:World}{K:W.Frag}{mg:Str->Option Value}{base:Heap}{f:Addr}{fd:FuncData}
theorem scCell:zV ["_law_script","_law_k","_law_more"] ["_law_script","_law_k"] (zO zSz):=by walk_at "sc"
theorem zWg(F:Fun K "_law_cell" "_law_cell" zSz f fd)(B:Bl mg):FnOk P w K mg base CX0 1 f fd ["_law_script","_law_k"] (zFq K):=by
 refine F.ok scCell (by walk_at "ln") λc A o s H vs Q E hr h=>?_;obtain⟨a,ns,k,rfl,hS,h63,h0,h1,q⟩:=h;have nd:=scCell.nd;have hu0:=hr.units0;refine⟨_,(zD (pS 2 nd (zI wY (pv 1) zE))
  (zD (zQ (zK (zLj hu0) (pv 0) (zT zB) (zJ _)) (zD (pS 2 nd (zI yL (pv 2) (zI wY (zI yG (pv 1) (zP yI rfl B.len yH (zA (pv 0) zB))) zE)))
  (zG (pS 2 nd (zI yB (zI yL (pv 2) (zI wY (zR zY (pv 0) (zI yB (pv 1) (zP yI rfl B.len yH (zA (pv 0) zB))) (λ_ _=>rfl)) zE)) zE)))) zL)
  (zG (zM (zI yB (zI yL (zI yG (zI wY (pv 2) (pv 2)) zE) (zI wY zE (pv 2))) zE))))), ?_⟩
 walk_at "st";walk_at "rd6";intro p hp;have hS':=(zH hp (.lst [])).seq hS;refine zSe hS' (SqL.of zF) (zOc ns) rfl ⟨_,rfl, ?_⟩;rw[zRm]
 by_cases hn:ns= []
 ·subst hn
  refine gL ⟨.inl (by lia), ?_⟩;exact q _ (zH hp _)
 ·have hpos:0<ns.length:=cF.mpr hn
  have e1:(ns.map V.int).isEmpty=false:=by cases ns with | nil=>exact absurd rfl hn | cons _ _=>rfl
  rw[mL rfl,e1];have hl:(ns.map V.int).length=ns.length:=nA _;have hm0:0<=k % (ns.length:Int):=tT _ (by lia);have hm1:k % (ns.length:Int)<ns.length:=tU _ (by lia);refine zDl ⟨ns.map V.int,hS',by rw[hl];lia,ns.map V.int,hS',by rw[hl];lia, ?_⟩;rw[hl];refine zZ hS' (zTc (d:=.int 0) hm0 (by rw[hl];exact hm1)) ⟨ns.getD (k % ns.length).toNat 0, ?_, .inl ?_, ?_⟩
  ·simp[List.getD,pM]
  ·generalize (k*7919+k / ns.length*104729+ns.getD (k % ns.length).toNat 0*48271)=z
   lia
  ·have e:wJ ns k=_:=rfl
   have e2:wJ ns k=(((k*7919+k / ns.length*104729+ns.getD (k % ns.length).toNat 0*48271)% 1000003*((k*7919+k / ns.length*104729+ns.getD (k % ns.length).toNat 0*48271)% 1000003)/ 11+13*((k*7919+k / ns.length*104729+ns.getD (k % ns.length).toNat 0*48271)% 1000003))% 1000003):=by
    unfold wJ;rw[mG hn]
   rw[<-e2];exact q _ (zH hp _)
abbrev zGm:Stmt:=top 10
noncomputable def zTy(t:String):V:=if t= "NoneType" then .str "nothing" else if t= "bool" then .str "truth" else if t= "int" then .str "number" else if t= "str" then .str "text" else if t= "list" then .str "row" else if t= "dict" then .str "record" else .non
def zSh:Sp:=λvs H Q _=>∃(v:V)(t:String),vs= [v]/\tyS H v=some t/\∀H',Same H H'->Q (zTy t) H'
theorem zLp{H:Hp}{v:V}(h:tyS H v=some "NoneType"):v= .non:=by
 cases v with
 | non=>rfl
 | ref a=>
  have h':(match H a with | some (.lst _)=>some "list" | some (.tup _)=>some "tuple" | some (.dK _)=>some "dict" | _=>none)=some "NoneType":=h
  split at h'<;>first | exact absurd (nU h') (by decide)| cases h'
 | bl b=>exact absurd (nU h) (by decide)
 | int b=>exact absurd (nU h) (by decide)
 | str b=>exact absurd (nU h) (by decide)
 | byt b=>cases h
 | flt b=>cases h
 | ty b=>cases h
theorem zRi{H:Hp}{v:V}{t:String}{Q:VK}(ht:tyS H v=some t)(q:Q (zTy t) H):
  if v=V.non then Q (V.str (Str.ofString "nothing")) H else∃x,tyS H v=some x/\if wI x "bool" =true then Q (V.str (Str.ofString "truth")) H else
   ∃x,tyS H v=some x/\if wI x "int" =true then Q (V.str (Str.ofString "number")) H else∃x,tyS H v=some x/\if wI x "str" =true then Q (V.str (Str.ofString "text")) H else
   ∃x,tyS H v=some x/\if wI x "list" =true then Q (V.str (Str.ofString "row")) H else∃x,tyS H v=some x/\if wI x "dict" =true then Q (V.str (Str.ofString "record")) H else Q V.non H:=by
 have hm:=zFf ht;simp only[ht,Option.some.injEq,bZ]
 by_cases hv:v= .non
 ·subst hv;cases ht;rw[mL rfl];exact q
 ·rw[mG hv]
  simp only[tyL,mF,nM,pZ] at hm;rcases hm with rfl | rfl | rfl | rfl | rfl | rfl | rfl
  ·exact absurd (zLp ht) hv
  all_goals (simpa [wI,zTy] using q)
theorem scKindOf:zV ["thing"] ["thing"] (zO zGm):=by walk_at "sc"
theorem zKp(F:Fun K "kind_of" "kind_of" zGm f fd)(B:Bl mg):FnOk P w K mg base CX0 1 f fd ["thing"] zSh:=by
 refine F.ok scKindOf (by walk_at "ln") λc A o s H vs Q E hr h=>?_;obtain⟨v,t,rfl,ht,q⟩:=h;have nd:=scKindOf.nd;refine⟨_,(zD (zQ (zEy (zQb (pv 0))) (zG (zM zC)) zL)
  (zD (zQ (yT (pI B.isinstance zX B.bool zEz (pv 0))) (zG (zM zC)) zL)
  (zD (zQ (yT (pI B.isinstance zX B.int xH (pv 0))) (zG (zM zC)) zL)
  (zD (zQ (yT (pI B.isinstance zX B.str gP (pv 0))) (zG (zM zC)) zL)
  (zD (zQ (yT (pI B.isinstance zX B.list kH (pv 0))) (zG (zM zC)) zL)
  (zD (zQ (yT (pI B.isinstance zX B.dict zAz (pv 0))) (zG (zM zC)) zL)
  (zG (zM kZ)))))))), ?_⟩
 walk_at "st";walk_at "rd6";exact zRi ht (q H (Same.refl H))
theorem iP{c A B:Prop} [Decidable c] (h:c) (a:A):if c then A else B:=by rw[mL h];exact a
theorem iN{c A B:Prop} [Decidable c] (h:¬c) (b:B):if c then A else B:=by rw[mG h];exact b
abbrev yAb:Stmt:=top 12
abbrev zXx:Stmt:=top 24
abbrev zVr:Stmt:=top 22
abbrev zMe:Stmt:=top 25
structure Ms(mg:Str->Option Value):Prop where
 LETTERS:∃t,mg "LETTERS" =some (.str (Str.ofString "abcdefghijklmnopqrstuvwxyz") t)
 FIGURES:∃t,mg "FIGURES" =some (.str (Str.ofString "0123456789") t)
 NAME_SIGNS:∃t,mg "NAME_SIGNS" =some (.str (Str.ofString "abcdefghijklmnopqrstuvwxyz0123456789") t)
 MARKS:∃t,mg "MARKS" =some (.str (Str.ofString "[]{},:") t)
 MOST_IN_NAME:∃t,mg "MOST_IN_NAME" =some (.int 12 t)
 MOST_IN_TEXT:∃t,mg "MOST_IN_TEXT" =some (.int 30 t)
 MOST_IN_ROW:∃t,mg "MOST_IN_ROW" =some (.int 60 t)
 MOST_IN_RECORD:∃t,mg "MOST_IN_RECORD" =some (.int 30 t)
 MOST_DEPTH:∃t,mg "MOST_DEPTH" =some (.int 8 t)
 MOST_SIZE:∃t,mg "MOST_SIZE" =some (.int 200 t)
 MOST_SIGNS:∃t,mg "MOST_SIGNS" =some (.int 20000 t)
 MOST_IN_NUMBER:∃t,mg "MOST_IN_NUMBER" =some (.int 14 t)
theorem zUe:Str.ofString "abcdefghijklmnopqrstuvwxyz" =tx vB:=by decide+kernel
theorem zFu:Str.ofString "0123456789" =tx xD:=by decide+kernel
theorem zSf:Str.ofString "abcdefghijklmnopqrstuvwxyz0123456789" =tx (vB++xD):=by decide+kernel
theorem zPt:Str.ofString "[]{},:" =tx mkL:=by decide+kernel
theorem zBr:Str.ofString "'" =tx [39]:=by decide+kernel
theorem zWw:Str.ofString "''" =tx [39,39]:=by decide+kernel
theorem zEo:Str.ofString "-" =tx [45]:=by decide+kernel
theorem zXb:Str.ofString " " =tx [32]:=by decide+kernel
noncomputable def kS:Nat->Str
 | 0=>Str.ofString "number"
 | 1=>Str.ofString "word"
 | 2=>Str.ofString "text"
 | _=>Str.ofString "mark"
def zHy:Sp:=λvs H Q _=>∃c:Nat,vs= [.str (tx [c])]/\∀H',Same H H'->Q (.bl (decide (c∈vE))) H'
theorem zFi(c:Nat):c∈vE↔32<=c/\c<=126/\c≠37:=by
 unfold vE;rw[dC,sU];constructor
 ·rintro⟨⟨i,hi,rfl⟩,h⟩
  have:=List.mem_range.mp hi;simp at h
  lia
 ·rintro⟨h1,h2,h3⟩
  exact⟨⟨c - 32,List.mem_range.mpr (by lia),by lia⟩,by simp[h3]⟩
theorem scSgn:zV ["sign"] ["sign"] (zO yAb):=by walk_at "sc"
theorem zZo(F:Fun K "is_text_sign" "is_text_sign" yAb f fd)(B:Bl5 mg):FnOkH P w K mg base 1 f fd ["sign"] zHy:=by
 refine F.okh scSgn (by walk_at "ln") λc A o s H vs Q E hr h=>?_;obtain⟨c,rfl,q⟩:=h;have nd:=scSgn.nd;refine⟨_,(zG (zM (xV (zTe zDv zDv zC (pv 0) zC) (xI (zW qD (zP zTr rfl B.ord zXy (zA (pv 0) zB)) zE (zJ _)))))), ?_⟩;walk_at "st";walk_at "rd6";have e1:ts (Str.ofString " ")= [32]:=by decide+kernel
 have e2:ts (Str.ofString "~")= [126]:=by decide+kernel
 have e3:ts (tx [c])= [c]:=rfl;have e4:(↑((#[c]:Array Nat).getD 0 0):Int)=(c:Int):=rfl;have l1:∀a b:Nat,([a]:List Nat)< [b]↔a<b:=λa b=>by
  constructor
  ·intro h
   cases h with
   | rel h=>exact h
   | cons h=>cases h
  ·exact λh=>.rel h
 have z:=q H (Same.refl H);rw[e1,e2,e3,e4]
 by_cases c1:c<32
 ·refine⟨false,by rw[nB ((l1 _ _).mpr c1)];rfl,gL ?_⟩
  rw[mM (λh=>by have:=(zFi c).mp h;lia)] at z;exact z
 ·refine⟨true,by rw[mM (λh=>c1 ((l1 _ _).mp h))];rfl,zDl ?_⟩
  by_cases c2:126<c
  ·refine⟨false,by rw[nB ((l1 _ _).mpr c2)];rfl,gL ?_⟩
   rw[mM (λh=>by have:=(zFi c).mp h;lia)] at z;exact z
  ·refine⟨true,by rw[mM (λh=>c2 ((l1 _ _).mp h))];rfl,zDl ⟨rfl, ?_⟩⟩
   have e:decide (c∈vE)= !decide ((c:Int)=37):=by
    rw[tQ,cQ,zFi];simp
    lia
   rw[e] at z;exact z
def zCe:Sp:=λvs H Q _=>∃(L S:List Nat)(n:Nat),vs= [.str (tx L), .int n, .str (tx S)]/\n<=L.length/\L.length<=100000/\Q (.int ((n+jJ S (L.drop n):Nat):Int)) H
theorem scRun:zV ["text","at","signs","end"] ["text","at","signs"] (zO zXx):=by walk_at "sc"
theorem zYz(F:Fun K "run_end" "run_end" zXx f fd)(B:Bl mg):FnOkH P w K mg base 1 f fd ["text","at","signs"] zCe:=by
 refine F.okh scRun (by walk_at "ln") λc A o s H vs Q E hr h=>?_;obtain⟨L,S,n,rfl,hn,hL,q⟩:=h;have nd:=scRun.nd;refine⟨_,(zD (pS 3 nd (pv 1))
  (zD (wH PassesOwn.never (PW.pt (qJ (zK zEu (pv 3) (zP yE rfl B.len yH (zA (pv 0) zB)) (zJ _)) (vJ (zK wS (zR vO (pv 0) (pv 3) (λ_ _=>rfl)) (pv 2) (by with_unfolding_all rfl))))) (zG (zZh (i:=3) nd rfl (pR rfl) zE zZk)))
  (zG (zM (pv 3))))), ?_⟩
 walk_at "st";walk_at "rd6";refine⟨λm σ H'=>∃j:Nat,j<=jJ S (L.drop n)/\σ= [some (.str (tx L)),some (.int n),some (.str (tx S)),some (.int ((n+j:Nat):Int))]/\H'=H/\m=L.length - (n+j),⟨_,0,pW _,rfl,rfl,rfl⟩, ?_⟩;rintro m σ H' ⟨j,hj,rfl,rfl,rfl⟩;have hr1:=zVg S (L.drop n);rw[nG] at hr1;walk_at "rd6";have hlen:(tx L).length=L.length:=zU L;rw[hlen];refine⟨by lia, ?_⟩
 by_cases c:((n+j:Nat):Int)<(L.length:Int)
 ·obtain⟨d,hd⟩:∃d,L[n+j]? =some d:=⟨_,pY (by lia)⟩
  have hd2:(L.drop n)[j]? =some d:=by rw[rV];exact hd
  have hlt:=zVk hd2 hj;refine iP c (xU (by rw[hlen,mJ];lia) (yF (j:=n+j) hd) ⟨d,rfl, ?_⟩);rw[yK]
  by_cases hm:d∈S
  ·refine iP hm ⟨λσ' H''=>σ'= [some (.str (tx L)),some (.int n),some (.str (tx S)),some (.int ((n+(j+1):Nat):Int))]/\H''=H', ?_, ?_⟩
   ·rintro σ' H'' ⟨rfl,rfl⟩
    exact⟨_,by have:=hlt.mp hm;lia,j+1,hlt.mp hm,rfl,rfl,rfl⟩
   ·simp only[tAug,ipI]
    walk_at "rd6"
    lia
  ·have e:j=jJ S (L.drop n):=by
    have:¬j<jJ S (L.drop n):=λz=>hm (hlt.mpr z)
    lia
   refine iN hm ?_;rw[e];exact q
 ·have e:j=jJ S (L.drop n):=by lia
  refine iN c ?_;rw[e];exact q
def zSm:Sp:=λvs H Q _=>∃(L r:List Nat)(n c k:Nat),vs= [.str (tx L), .int n]/\L.drop n=c::r/\zLs k c/\L.length<=100000/\Q (.str (kS k)) H
theorem scKAt:zV ["text","at","sign"] ["text","at"] (zO zVr):=by walk_at "sc"
theorem tx1{c d:Nat}:V.str (tx [c])=V.str (tx [d])↔c=d:=by
 constructor
 ·intro h
  have:=congrArg ts (V.str.inj h);rw[yK,yK] at this;exact(List.cons.inj this).1
 ·rintro rfl;rfl
theorem uK{L r:List Nat}{n c:Nat}(h:L.drop n=c::r):L[n]? =some c:=by
 have:=congrArg (λl:List Nat=>l[0]?) h
 simpa [rV] using this
theorem zUd(F:Fun K "kind_at" "kind_at" zVr f fd)(B:Bl mg)(M:Ms mg):FnOkH P w K mg base 1 f fd ["text","at"] zSm:=by
 refine F.okh scKAt (by walk_at "ln") λc A o s H vs Q E hr h=>?_;obtain⟨L,r,n,c,k,rfl,hd,hk,hL,q⟩:=h;have nd:=scKAt.nd;refine⟨_,(zD (pS 2 nd (zR vO (pv 0) (pv 1) (λ_ _=>rfl)))
  (zD (zQ (PW.pt (jV (zK zS (pv 2) zC (zJ _)) (vZ (zK wS (pv 2) (kQ rfl M.FIGURES) (by with_unfolding_all rfl))))) (zG (zM zC)) zL)
  (zD (zQ (zK wS (pv 2) (kQ rfl M.LETTERS) (by with_unfolding_all rfl)) (zG (zM zC)) zL)
  (zD (zQ (zK zS (pv 2) zC (zJ _)) (zG (zM zC)) zL)
  (zD (zQ (zK wS (pv 2) (kQ rfl M.MARKS) (by with_unfolding_all rfl)) (zG (zM zC)) zL)
  (zG zZt)))))), ?_⟩
 walk_at "st";walk_at "rd6";refine xU (by rw[zU,mJ];lia) (yF (j:=n) (uK hd)) ?_;rw[zUe,zFu,zPt,zBr,zEo];simp only[tx1,yK];refine⟨nJ, ?_⟩;rcases hk with⟨rfl,hc⟩|⟨rfl,hc⟩|⟨rfl,rfl⟩|⟨rfl,hc⟩
 ·by_cases h45:c=45
  ·exact iP h45 q
  ·exact iN h45 ⟨c,rfl,iP (hc.resolve_left h45) q⟩
 ·have:=zPe c hc
  exact iN this.1 ⟨c,rfl,iN this.2.1 ⟨c,rfl,iP hc q⟩⟩
 ·exact iN zOq.1 ⟨_,rfl,iN zOq.2.1 ⟨_,rfl,iN zOq.2.2 ⟨nJ,iP rfl q⟩⟩⟩
 ·have:=zWx c hc
  exact iN this.1 ⟨c,rfl,iN this.2.1 ⟨c,rfl,iN this.2.2.1 ⟨nJ,iN this.2.2.2 ⟨c,rfl,iP hc q⟩⟩⟩⟩
def zSc:Sp:=λvs H Q _=>∃(L s fs r:List Nat)(n:Nat),vs= [.str (tx L), .int n]/\L.drop n=s++fs++r/\(s= []\/s= [45])/\fs≠ []/\(∀c∈fs,c∈xD)/\Stops 0 r/\L.length<=100000/\∀H',Same H H'->Q (.int ((n+(s++fs).length:Nat):Int)) H'
theorem scNEnd:zV ["text","at","first","end"] ["text","at"] (zO zMe):=by walk_at "sc"
theorem zUq(F:Fun K "number_end" "number_end" zMe f fd)(B:Bl mg)(M:Ms mg)(Grun_end:Dh P w K mg base 1 "run_end" ["text","at","signs"] zCe):FnOkH P w K mg base 2 f fd ["text","at"] zSc:=by
 refine F.okh scNEnd (by walk_at "ln") λc A o s H vs Q E hr h=>?_;obtain⟨L,s,fs,r,n,rfl,hd,hs,hn,hf,hst,hL,q⟩:=h;have nd:=scNEnd.nd;refine⟨_,(zD (pS 2 nd (qO (zK zS (zR vO (pv 0) (pv 1) (λ_ _=>rfl)) zC (zJ _)) (zI yL (pv 1) zE) (pv 1)))
  (zD (pS 3 nd (kO Grun_end hr (by lia) rfl (zA (pv 0) (zA (pv 2) (zA (kQ rfl M.FIGURES) zB)))))
  (zD (zQ (zK zS (pv 3) (pv 2) (zJ _)) zAc zL)
  (zG (zM (pv 3)))))), ?_⟩
 walk_at "st";walk_at "rd6";rw[zEo,zFu];have hst':∀c r',r=c::r'->c∉xD:=λc r' e=>hst c r' e;have hfl:0<fs.length:=cF.mpr hn;have hdl:=congrArg List.length hd;rw[nG,mC,mC] at hdl;have q:=q _ (Same.refl _);rcases hs with rfl | rfl
 ·obtain⟨d,fs',rfl⟩:=rG hn
  have hd':L.drop n=d::(fs'++r):=hd;refine xU (by rw[zU,mJ];lia) (yF (j:=n) (uK hd')) ⟨rfl, ?_⟩;simp only[tx1];refine iN (zKi d (hf d mH)).1 ⟨L,xD,n,rfl,by lia,hL,rfl, ?_⟩;rw[hd,nH,xZ hf hst'];exact iN (λz=>by have:=V.int.inj z;simp only[mE] at this;lia) q
 ·have hd':L.drop n=45::(fs++r):=hd
  simp only[mE,nL] at hdl;refine xU (by rw[zU,mJ];lia) (yF (j:=n) (uK hd')) ⟨rfl, ?_⟩;simp only[tx1];refine iP nJ ⟨L,xD,n+1,by rw[dE];rfl,by lia,hL,rfl, ?_⟩;have e:L.drop (n+1)=fs++r:=by
   rw[<-nS,hd'];rfl
  rw[e,xZ hf hst'];have e2:n+1+fs.length=n+([45]++fs).length:=by rw[mC];simp only[mE,nL];lia
  rw[e2];exact iN (λz=>by have:=V.int.inj z;rw[mC] at this;simp only[mE,nL] at this;lia) q
abbrev zHq:Stmt:=top 26
abbrev zGd:Stmt:=top 23
abbrev zJo:Stmt:=top 27
abbrev zMa:Stmt:=top 21
theorem jG:∀y:List Nat,∃u x2,y=u++x2/\39∉u/\(x2= []\/∃y',x2=39::y')
 | []=>⟨[],[],rfl,(λh=>nomatch h), .inl rfl⟩
 | c::y=>by
  by_cases h:c=39
  ·exact⟨[],c::y,rfl,(λh=>nomatch h), .inr ⟨y,by rw[h]⟩⟩
  ·obtain⟨u,x2,e,hu,hx⟩:=jG y
   exact⟨c::u,x2,by rw[e];rfl,λz=>(mF.mp z).elim (λz=>h z.symm) hu,hx⟩
theorem zBj(y:List Nat):dbl (39::y)=39::39::dbl y:=by rw[zCx];rfl
theorem dq{u x2:List Nat}(hu:39∉u)(hx:x2= []\/∃y',x2=39::y')(r:List Nat):∃rest,dbl (u++x2)++39::r=u++39::rest:=by
 rw[xC,xK hu];rcases hx with rfl |⟨y,rfl⟩
 ·exact⟨r,by rw[zMf,mN]⟩
 ·exact⟨39::dbl y++39::r,by rw[zBj,mY];rfl⟩
def zPu:Sp:=λvs H Q _=>∃(L x r:List Nat)(n:Nat),vs= [.str (tx L), .int n]/\L.drop n=39::(dbl x++39::r)/\(∀c∈x,c∈vE)/\Stops 2 r/\L.length<=100000/\∀H',Same H H'->Q (.int ((n+2+(dbl x).length:Nat):Int)) H'
theorem scTEnd:zV ["text","at","close"] ["text","at"] (zO zHq):=by walk_at "sc"
theorem zWh(F:Fun K "text_end" "text_end" zHq f fd)(B:Bl mg)(Gis_text_sign:Dh P w K mg base 1 "is_text_sign" ["sign"] zHy):FnOkH P w K mg base 2 f fd ["text","at"] zPu:=by
 refine F.okh scTEnd (by walk_at "ln") λc A o s H vs Q E hr h=>?_;obtain⟨L,x,r,n,rfl,hd,hx,hst,hL,q⟩:=h;have nd:=scTEnd.nd;refine⟨_,(zD (pS 2 nd (wG pT sC sD kA (pv 0) (zA zC (zA (zI yL (pv 1) zE) zB))))
  (zD (wH PassesOwn.never (PW.pt (qJ (zK zTf (pv 2) zE (zJ _)) (vJ (zK zS (yV wO (pv 0) (yQ (zI yL (pv 2) zE)) (yQ (zI yL (pv 2) zE))) zC (zJ _))))) (zG (pS 2 nd (wG pT sC sD kA (pv 0) (zA zC (zA (zI yL (pv 2) zE) zB))))))
  (zD (zQ (zK zEu (pv 2) zE (zJ _)) zAc zL)
  (zD (zQ (vY (yT (zP (wB rfl) rfl B.all qY (zA (vF (own:=["sign"]) (F:=[]) ⟨rfl,by walk_at "wu",by walk_at "wu",by walk_at "wu", .nil⟩ rfl (zCb (yV wO (pv 0) (yQ (zI yL (pv 1) zE)) (yQ (pv 2)))) (λ_ _ _ _=>yO (i:=0) (by show(qR ["sign"] []).Nodup;decide+kernel) rfl (pR rfl)) (λ_ _ _ _=>wR) (λ_ _ _ _=>(kO Gis_text_sign hr (by lia) rfl (zA (pv 0) zB)))) zB)))) zAc zL)
  (zG (zM (zI yL (pv 2) zE))))))), ?_⟩
 walk_at "st";walk_at "rd6";have hd1:L.drop (n+1)=dbl x++39::r:=by rw[<-nS,hd];rfl
 have hln:(tx L).length=L.length:=zU L;have hdl:=congrArg List.length hd1;rw[nG,mC,mE] at hdl;have hsz:(tx L).length<=sizeLine:=by rw[hln,mJ];lia
 obtain⟨u0,x20,e0,hu0,hx0⟩:=jG x;obtain⟨rest0,hr0⟩:=dq hu0 hx0 r;refine⟨rfl,tx L,tx [39],n+1,rfl,by rw[zBr], ?_⟩;rw[show((n:Int)+1)=((n+1:Nat):Int) by lia,qA (hd1.trans (by rw[e0];exact hr0)) hu0];refine⟨λm σ H'=>∃x1 u x2,x=x1++(u++x2)/\39∉u/\(x2= []\/∃y,x2=39::y)/\σ= [some (.str (tx L)),some (.int n),some (.int ((n+1+(dbl x1).length+u.length:Nat):Int))]/\H'=H/\m=x2.length,⟨_,[],u0,x20,e0,hu0,hx0,rfl,rfl,rfl⟩, ?_⟩;rintro m σ H' ⟨x1,u,x2,ex,hu,hx2,rfl,rfl,rfl⟩;walk_at "rd6";generalize hk:n+1+(dbl x1).length+u.length=k;have hdk:L.drop k=dbl x2++39::r:=by
  rw[<-hk,<-nS,<-nS,hd1,ex,xC,xC,xK hu];simp only[mY,tF]
 refine iP (by lia) ⟨_,rfl,hsz,rfl, ?_⟩;rw[show((k:Int)+1)=((k+1:Nat):Int) by lia,show((k:Int)+2)=((k+2:Nat):Int) by lia,xL,yK,zBr];have hsl:(L.take (k+2)).drop (k+1)=(L.drop (k+1)).take 1:=by
  rw[sP];congr 1;lia
 have hd2:L.drop (k+1)=(dbl x2++39::r).drop 1:=by rw[<-nS,hdk]
 rw[hsl,hd2];rcases hx2 with rfl |⟨y,rfl⟩
 ·refine iN ?_ ?_
  ·intro z
   have z:=congrArg ts (V.str.inj z);rw[yK,yK] at z;have z:r.take 1= [39]:=z
   cases r with
   | nil=>cases z
   | cons c r'=>
    have:c=39:=by simpa using z
    exact hst c r' rfl (by rw[this];decide)
  rw[mN] at ex;have hdx:dbl x=dbl x1++u:=by rw[ex,xC,xK hu]
  refine iN (by lia) ⟨_,rfl,hsz, ?_⟩;rw[show((n:Int)+1)=((n+1:Nat):Int) by lia,xL,yK];have hsl2:(L.take k).drop (n+1)=dbl x:=by
   rw[sP,hd1,<-hk,hdx,show n+1+(dbl x1).length+u.length - (n+1)=(dbl x1++u).length by rw[mC];lia,tG]
  rw[hsl2];have hds:∀c∈dbl x,c∈vE:=λc hc=>by
   obtain⟨d,hd',hc⟩:=List.mem_flatMap.mp hc;unfold rpl at hc;split at hc
   ·have:c=39:=by simpa using hc
    rw[this];exact zQp
   ·rw[mS.mp hc];exact hx d hd'
  have hdl2:(ts (tx (dbl x))).length<=100000:=by rw[yK];lia
  refine⟨_,rfl,zBe (λi ys H''=>Same H' H''/\ys=(((ts (tx (dbl x))).take i).map λc=>decide (c∈vE)).map V.bl) (by rw[mJ];lia) ⟨Same.refl _,rfl⟩ ?_ ?_⟩
  ·rintro i d ys H'' hd' _ ⟨hS,rfl⟩
   walk_at "rd6";refine⟨d,rfl,λH3 g3=>⟨hS.trans g3, ?_⟩⟩;rw[vH hd'];simp only[pL,nD,pV]
  ·rintro ys H'' hl' ⟨hS,rfl⟩ p hp
   rw[sQ];refine⟨p,rfl,_,SqL.of zF,iN ?_ ?_⟩
   ·rw[yK]
    intro z;rw[aT] at z;have:(dbl x).all (_root_.id∘λc=>decide (c∈vE))=true:=pX.mpr λc hc=>nB (hds c hc);rw[this] at z;cases z
   ·have z:=q _ (hS.trans (zH hp (.lst (((ts (tx (dbl x))).map λc=>decide (c∈vE)).map V.bl))))
    have e:n+2+(dbl x).length=k+1:=by rw[hdx,mC,<-hk];lia
    rw[e] at z;exact z
 ·obtain⟨u',x2',e',hu',hx'⟩:=jG y
  obtain⟨rest',hr'⟩:=dq hu' hx' r;have hd3:L.drop (k+2)=u'++39::rest':=by
   rw[<-nS,hdk,zBj,<-hr',<-e'];rfl
  refine iP (by rfl) ⟨λσ' H''=>σ'= [some (.str (tx L)),some (.int n),some (.int ((k+2+u'.length:Nat):Int))]/\H''=H', ?_,rfl,tx L,tx [39],_,rfl,rfl, ?_⟩
  ·rintro σ' H'' ⟨rfl,rfl⟩
   have hl:=congrArg List.length e';rw[mC] at hl;refine⟨x2'.length,by rw[mE];lia,x1++(u++ [39]),u',x2', ?_,hu',hx', ?_,rfl,rfl⟩
   ·rw[ex,e'];simp only[mY,nP,nH]
   ·congr 5
    rw[xC,xC,xK hu,<-hk,mC,mC];rw[show(dbl [39]).length=2 from rfl]
    lia
  ·rw[qA hd3 hu']
   exact⟨rfl,rfl⟩
theorem jO:(kS 1≠kS 0)/\(kS 2≠kS 0)/\(kS 3≠kS 0)/\(kS 0≠kS 1)/\(kS 2≠kS 1)/\(kS 3≠kS 1)/\(kS 0≠kS 2)/\(kS 1≠kS 2)/\(kS 3≠kS 2):=by decide+kernel
def zGb:Sp:=λvs H Q _=>∃(L r:List Nat)(t:Tk)(n:Nat),vs= [.str (kS t.1), .str (tx L), .int n]/\L.drop n=shw t++r/\OkTk t/\Stops t.1 r/\L.length<=100000/\∀H',Same H H'->Q (.int ((n+(shw t).length:Nat):Int)) H'
theorem scTkEnd:zV ["kind","text","at"] ["kind","text","at"] (zO zGd):=by walk_at "sc"
theorem zHj(F:Fun K "token_end" "token_end" zGd f fd)(M:Ms mg)(Gnumber_end:Dh P w K mg base 2 "number_end" ["text","at"] zSc)(Grun_end:Dh P w K mg base 1 "run_end" ["text","at","signs"] zCe)(Gtext_end:Dh P w K mg base 2 "text_end" ["text","at"] zPu):FnOkH P w K mg base 3 f fd ["kind","text","at"] zGb:=by
 refine F.okh scTkEnd (by walk_at "ln") λc A o s H vs Q E hr h=>?_;obtain⟨L,r,t,n,rfl,hd,hok,hst,hL,q⟩:=h;have nd:=scTkEnd.nd;refine⟨_,(zD (zQ (zK zS (pv 0) zC (zJ _)) (zG (zM (kO Gnumber_end hr (by lia) rfl (zA (pv 1) (zA (pv 2) zB))))) zL)
  (zD (zQ (zK zS (pv 0) zC (zJ _)) (zG (zM (kO Grun_end hr (by lia) rfl (zA (pv 1) (zA (pv 2) (zA (kQ rfl M.NAME_SIGNS) zB)))))) zL)
  (zD (zQ (zK zS (pv 0) zC (zJ _)) (zG (zM (kO Gtext_end hr (by lia) rfl (zA (pv 1) (zA (pv 2) zB))))) zL)
  (zG (zM (zI yL (pv 2) zE)))))), ?_⟩
 walk_at "st";walk_at "rd6";rw[show Str.ofString "number" =kS 0 from rfl,show Str.ofString "word" =kS 1 from rfl,show Str.ofString "text" =kS 2 from rfl,zSf];obtain⟨k,x⟩:=t;obtain⟨_,h⟩:=hok;have hdl:=congrArg List.length hd;rw[nG,mC] at hdl;rcases h with⟨hk,s,fs,e,hs,hn,hf⟩|⟨hk,c,r',e,hc,hr'⟩|⟨hk,hx⟩|⟨hk,c,e,hc⟩
 ·have hk:k=0:=hk
  have e:x=s++fs:=e;subst hk e;exact iP rfl ⟨L,s,fs,r,n,rfl,hd,hs,hn,hf,hst,hL,q⟩
 ·have hk:k=1:=hk
  have e:x=c::r':=e;subst hk e;refine iN jO.1 (iP rfl ⟨L,vB++xD,n,rfl, ?_,hL, ?_⟩)
  ·have:0<(shw (1,c::r')).length:=pO _
   lia
  ·have hd:L.drop n=(c::r')++r:=hd
   rw[hd,xZ (λd hd=>(mF.mp hd).elim (λz=>by rw[z];exact zRd hc) (hr' d)) λd r'' e=>hst d r'' e];exact q _ (Same.refl _)
 ·have hk:k=2:=hk
  subst hk;have hd:L.drop n=39::(dbl x++39::r):=by rw[hd];show 39::(dbl x++ [39])++r=_;rw[nP,mY];rfl
  refine iN jO.2.1 (iN jO.2.2.2.2.1 (iP rfl ⟨L,x,r,n,rfl,hd,hx,hst,hL,λH' g=>?_⟩));have e:n+2+(dbl x).length=n+(shw (2,x)).length:=by
   show _=n+(39::(dbl x++ [39])).length;rw[mE,mC];simp only[mE,nL];lia
  rw[e];exact q _ g
 ·have hk:k=3:=hk
  have e:x= [c]:=e;subst hk e;refine iN jO.2.2.1 (iN jO.2.2.2.2.2.1 (iN jO.2.2.2.2.2.2.2.2 ?_));exact q _ (Same.refl _)
def zFe:Sp:=λvs H Q _=>∃t:Tk,vs= [.str (kS t.1), .str (tx (shw t))]/\OkTk t/\Q (.str (tx t.2)) H
theorem scStrOf:zV ["kind","signs"] ["kind","signs"] (zO zJo):=by walk_at "sc"
theorem zRg(L:List Nat):Txt.slice (tx (39::(L++ [39]))) (some 1) (some (-1))=tx L:=by
 have e:Txt.slice (tx (39::(L++ [39]))) (some 1) (some (-1))=Txt.slice (tx (39::(L++ [39]))) (some ((1:Nat):Int)) (some ((L.length+1:Nat):Int)):=by
  unfold Txt.slice;have:PySem.Builtin.Str.strSliceIndices (some 1) (some (-1)) 1 (tx (39::(L++ [39]))).length=PySem.Builtin.Str.strSliceIndices (some ((1:Nat):Int)) (some ((L.length+1:Nat):Int)) 1 (tx (39::(L++ [39]))).length:=by
   rw[zU];unfold PySem.Builtin.Str.strSliceIndices;have hl:((39::(L++ [39])).length:Int)=L.length+2:=by
    rw[mE,mC];simp only[mE,nL];lia
   dsimp only;rw[hl]
   congr 1
   simp only[show(1:Int)>0 from by decide,tO,show((-1:Int)<0) from by decide,mG (show¬(((L.length+1:Nat):Int)<0) by lia)]
   lia
  rw[this]
 rw[e,xL,yK]
 congr 1
 rw[tJ,List.drop_succ_cons,sA,tG]
theorem zQj(F:Fun K "string_of" "string_of" zJo f fd):FnOkH P w K mg base 1 f fd ["kind","signs"] zFe:=by
 refine F.okh scStrOf (by walk_at "ln") λc A o s H vs Q E hr h=>?_;obtain⟨t,rfl,hok,q⟩:=h;have nd:=scStrOf.nd;refine⟨_,(zD (zQ (zK zS (pv 0) zC (zJ _)) (zG (zM (zKl (i:=1) rfl (by first | exact pR rfl | exact Or.inr (pR rfl)| exact Or.inr (Or.inr rfl)) (by decide+kernel) (by decide+kernel)))) zL)
  (zG (zM (pv 1)))), ?_⟩
 walk_at "st";walk_at "rd6";rw[show Str.ofString "text" =kS 2 from rfl];have hln:=hok.len;obtain⟨k,x⟩:=t;obtain⟨hl,h⟩:=hok
 by_cases c:k=2
 ·subst c
  refine iP rfl ⟨_,rfl,by rw[zU];lia, ?_⟩;rw[zWw,zBr];show Q (V.str (Txt.replace (Txt.slice (tx (39::(dbl x++ [39]))) (some 1) (some (-1))) (tx [39,39]) (tx [39]))) H;rw[zRg,zOk];exact q
 ·have e:shw (k,x)=x:=by unfold shw;rw[mG c]
  rw[e];refine iN ?_ q;rcases h with⟨a,_⟩|⟨a,_⟩|⟨a,_⟩|⟨a,_⟩
  ·have a:k=0:=a
   subst a;exact jO.2.2.2.2.2.2.1
  ·have a:k=1:=a
   subst a;exact jO.2.2.2.2.2.2.2.1
  ·exact absurd a c
  ·have a:k=3:=a
   subst a;exact jO.2.2.2.2.2.2.2.2
noncomputable def tkT(t:Tk)(n:Nat):T:=.tup [.str (ts (kS t.1)), .str t.2, .int n]
noncomputable def endT(n:Nat):T:=.tup [.str (ts (Str.ofString "end")), .str [], .int n]
noncomputable def wM:Nat->List (Nat×Tk)->List T
 | _,[]=>[]
 | n,x::r=>tkT x.2 (n+x.1)::wM (n+x.1+(shw x.2).length) r
theorem uP(x:Nat×Tk)(r:List (Nat×Tk)):(lay (x::r)).length=x.1+(shw x.2).length+(lay r).length:=by
 show(List.replicate x.1 32++(shw x.2++lay r)).length=_;rw[mC,mC,mU];lia
theorem zCy:∀(n:Nat)(a b:List (Nat×Tk)),wM n (a++b)=wM n a++wM (n+(lay a).length) b
 | n,[],b=>rfl
 | n,x::a,b=>by
  show tkT x.2 (n+x.1)::wM (n+x.1+(shw x.2).length) (a++b)=_;rw[zCy,uP];show _=tkT x.2 (n+x.1)::(wM (n+x.1+(shw x.2).length) a++_)
  congr 3
  lia
theorem zLf{k c:Nat}(h:zLs k c):c∉ [32]:=by
 have hl:(32:Nat)∉vB/\(32:Nat)∉xD/\(32:Nat)∉mkL:=by decide+kernel
 intro z;rw[mS] at z;subst z;rcases h with⟨_,h | h⟩|⟨_,h⟩|⟨_,h⟩|⟨_,h⟩
 ·cases h
 ·exact hl.2.1 h
 ·exact hl.1 h
 ·cases h
 ·exact hl.2.2 h
noncomputable def jP(c:List (Nat×Tk))(e:Nat):Nat:=match c with
 | []=>e
 | x::_=>x.1
theorem zEh{c:List (Nat×Tk)}{e:Nat}(hok:∀y∈c,OkTk y.2):jJ [32] (lay c++List.replicate e 32)=jP c e:=by
 cases c with
 | nil=>
  have:=xZ (S:=[32]) (x:=List.replicate e 32) (r:=[]) (λc hc=>by rw[(sE.mp hc).2];exact mH) (λc r' e=>nomatch e);rw[mN,mU] at this;exact this
 | cons x c=>
  have e1:lay (x::c)++List.replicate e 32=List.replicate x.1 32++(shw x.2++lay c++List.replicate e 32):=by
   show List.replicate x.1 32++(shw x.2++lay c)++_=_;rw[mY]
  rw[e1,xZ (λc hc=>by rw[(sE.mp hc).2];exact mH) ?_,mU];rfl;intro d r' e2;obtain⟨h,r,e3,hk,_⟩:=qT (hok x mH);rw[e3] at e2;rw[<-(List.cons.inj e2).1];exact zLf hk
theorem gO{H:Hp}{d:Addr}{o:HO}{t:T}{xs:List V}{us:List T}(hd:Rep H (.ref d) t)(hs:T.szs us<T.sz t)(h:Reps H xs us):Reps (upd H d o) xs us:=
 Reps.away _ _ h λz=>by
  obtain⟨t',h1,h2⟩:=Occs.sub _ _ h z;have e:=Rep.one _ _ _ hd h1;subst e
  lia
theorem zGp{H0 H':Hp}{p0 p:Addr}{xs ys:List V}{us ts:List T}(g:Same H0 H')(h0:H0 p0=none)(hp0:H' p0=some (.lst xs))(hR:Reps H' xs us)(hp:H' p=none)(hy:∀Hx:Hp,Reps Hx ys ts):
  Same H0 (upd (upd H' p (.tup ys)) p0 (.lst (xs++ [.ref p])))/\Reps (upd (upd H' p (.tup ys)) p0 (.lst (xs++ [.ref p]))) (xs++ [.ref p]) (us++ [.tup ts]):=by
 have s1:=zH hp (.tup ys);have hne:p≠p0:=λz=>by subst z;rw[hp] at hp0;cases hp0
 refine⟨(g.trans s1).put h0 _,Reps.append ?_ (gO (t:=.lst us) ⟨p0,xs,rfl,s1 _ _ hp0,Reps.same s1 _ _ hR⟩ (sO _) (Reps.same s1 _ _ hR))⟩;exact(show Reps _ [V.ref p] [T.tup ts] from⟨_,[],rfl,⟨p,ys,rfl,by rw[zN hne];exact zF,hy _⟩,rfl⟩)
theorem zAw(Hx:Hp)(z:Str)(y:List Nat)(n:Nat):Reps Hx [V.str z,V.str (tx y),V.int n] [.str (ts z), .str y, .int n]:=⟨_,_,rfl,(show V.str z=V.str (tx (ts z)) by rw[qP]),_,_,rfl,rfl,_,_,rfl,rfl,rfl⟩
def zJq:Sp:=λvs H Q _=>∃(r:List (Nat×Tk))(e:Nat),vs= [.str (tx (lay r++List.replicate e 32))]/\(∀y∈r,OkTk y.2)/\Chn r/\r.length<=1000/\(lay r++List.replicate e 32).length<=100000/\∀v H',Same H H'->Rep H' v (.lst (wM 0 r++ [endT (lay r++List.replicate e 32).length]))->Q v H'
theorem scToks:zV ["text","found","at","kind","end"] ["text"] (zO zMa):=by walk_at "sc"
theorem zLt(F:Fun K "tokens" "tokens" zMa f fd)(B:Bl mg)(Grun_end:Dh P w K mg base 1 "run_end" ["text","at","signs"] zCe)(Gkind_at:Dh P w K mg base 1 "kind_at" ["text","at"] zSm)(Gtoken_end:Dh P w K mg base 3 "token_end" ["kind","text","at"] zGb)(Gstring_of:Dh P w K mg base 1 "string_of" ["kind","signs"] zFe):FnOkH P w K mg base 4 f fd ["text"] zJq:=by
 refine F.okh scToks (by walk_at "ln") λc A o s H vs Q E hr h=>?_;obtain⟨r,e,rfl,hok,hch,hr1,hL,q⟩:=h;have nd:=scToks.nd;refine⟨_,(zD (pS 1 nd (zT zB))
  (zD (pS 2 nd (kO Grun_end hr (by lia) rfl (zA (pv 0) (zA zE (zA zC zB)))))
  (zD (wH PassesOwn.never (zK zEu (pv 2) (zP yE rfl B.len yH (zA (pv 0) zB)) (zJ _)) (zD (pS 3 nd (kO Gkind_at hr (by lia) rfl (zA (pv 0) (zA (pv 2) zB))))
  (zD (pS 4 nd (kO Gtoken_end hr (by lia) rfl (zA (pv 3) (zA (pv 0) (zA (pv 2) zB)))))
  (zD (xF (wG nX pH pP xP (pv 1) (zA (yA (zA (pv 3) (zA (kO Gstring_of hr (by lia) rfl (zA (pv 3) (zA (yV wO (pv 0) (yQ (pv 2)) (yQ (pv 4))) zB))) (zA (pv 2) zB)))) zB)))
  (zG (pS 2 nd (kO Grun_end hr (by lia) rfl (zA (pv 0) (zA (pv 4) (zA zC zB))))))))))
  (zD (xF (wG nX pH pP xP (pv 1) (zA (yA (zA zC (zA zC (zA (zP yE rfl B.len yH (zA (pv 0) zB)) zB)))) zB)))
  (zG (zM (pv 1))))))), ?_⟩
 generalize hLL:lay r++List.replicate e 32=L at hL q⊢;walk_at "st";walk_at "rd6";rw[zXb];intro p0 hp0;refine⟨L,[32],0,rfl,pW _,hL, ?_⟩;have hln:(tx L).length=L.length:=zU L;have hsz:(tx L).length<=sizeLine:=by rw[hln,mJ];lia
 rw[sA,rY,<-hLL,zEh hok,hLL];refine⟨λm σ H'=>∃a c k o1 o2 xs,r=a++c/\k=(lay a).length+jP c e/\σ= [some (.str (tx L)),some (.ref p0),some (.int ((k:Nat):Int)),o1,o2]/\Same H H'/\H' p0=some (.lst xs)/\Reps H' xs (wM 0 a)/\xs.length=a.length/\m=c.length,⟨_,[],r,jP r e,none,none,[],rfl,(rY _).symm,rfl,zH hp0 _,zF,rfl,rfl,rfl⟩, ?_⟩;rintro m σ H' ⟨a,c,k,o1,o2,xs,rfl,hk,rfl,g,hp,hR,hxl,rfl⟩;have hdk:L.drop (lay a).length=lay c++List.replicate e 32:=by rw[<-hLL,jB,mY,tF]
 have hdl:=congrArg List.length hdk;rw[nG,mC,mU] at hdl;rw[mC] at hr1;walk_at "rd6";rw[hln]
 cases c with
 | nil=>
  have hk:k=(lay a).length+e:=hk;have e0:(lay ([]:List (Nat×Tk))).length=0:=rfl;have hkL:k=L.length:=by
   have:=congrArg List.length hLL;rw[mN,mC,mU] at this
   lia
  refine⟨by lia,iN (by lia) ⟨.inl ⟨rfl,_,SqL.of hp⟩,by lia,λp hpn=>?_⟩⟩;obtain⟨g1,g2⟩:=zGp g hp0 hp hR hpn (λHx=>zAw Hx (Str.ofString "end") [] L.length);refine⟨p0,xs,_,rfl,rfl,zH hpn _ _ _ hp,by rw[mJ];lia,q _ _ g1 ⟨p0,_,rfl,zF, ?_⟩⟩;rw[mN];exact g2
 | cons x c=>
  have hk:k=(lay a).length+x.1:=hk;have hx:=hok x (by simp);have hst:Stops x.2.1 (lay c++List.replicate e 32):=zCf hok hch;obtain⟨h1,r1,e1,hhk,_⟩:=qT hx;have hdk2:L.drop k=shw x.2++(lay c++List.replicate e 32):=by
   rw[hk,<-nS,hdk];show List.drop x.1 (List.replicate x.1 32++(shw x.2++lay c)++List.replicate e 32)=_;rw[mY,mY];exact dF mU
  have hpos:0<(shw x.2).length:=by rw[e1];exact pO _
  have hdl2:=congrArg List.length hdk2;rw[nG,mC] at hdl2;have hk2:(lay (a++ [x])).length=k+(shw x.2).length:=by
   rw[jB,mC,uP,hk];show _+(_+_+0)=_
   lia
  refine⟨by lia,iP (by lia) ⟨λσ' H''=>∃o1 o2 ys,σ'= [some (.str (tx L)),some (.ref p0),some (.int (((lay (a++ [x])).length+jP c e:Nat):Int)),o1,o2]/\Same H H''/\H'' p0=some (.lst ys)/\Reps H'' ys (wM 0 (a++ [x]))/\ys.length=(a++ [x]).length, ?_, ?_⟩⟩
  ·rintro σ' H'' ⟨o1,o2,ys,rfl,g',h1,h2,h3⟩
   exact⟨c.length,sO _,a++ [x],c,by rw[mY];rfl,⟨_,_,rfl⟩,g',_,h1,h2,h3,rfl⟩
  ·refine⟨L,_,k,h1,x.2.1,rfl,by rw[hdk2,e1];rfl,hhk,hL,L,_,x.2,k,rfl,hdk2,hx,hst,hL,λH1 g1=>⟨.inl ⟨rfl,_,SqL.of (g1 _ _ hp)⟩,_,rfl,tx L,rfl,hsz, ?_⟩⟩
   rw[xL,yK];have hsl:(L.take (k+(shw x.2).length)).drop k=shw x.2:=by
    rw[sP,hdk2,show k+(shw x.2).length - k=(shw x.2).length by lia,tG]
   rw[hsl];refine⟨x.2,rfl,hx,λp hpn=>?_⟩;obtain⟨g3,g4⟩:=zGp (g.trans g1) hp0 (g1 _ _ hp) (Reps.same g1 _ _ hR) hpn (λHx=>zAw Hx (kS x.2.1) x.2.2 k);refine⟨p0,xs,_,rfl,rfl,zH hpn _ _ _ (g1 _ _ hp),by rw[mJ];simp only[mE] at hr1;lia,L,[32],k+(shw x.2).length,rfl,by lia,hL, ?_⟩;have hd3:L.drop (k+(shw x.2).length)=lay c++List.replicate e 32:=by rw[<-nS,hdk2,tF]
   rw[hd3,zEh λy hy=>hok y (by simp[hy]),<-hk2];refine⟨_,_,_,rfl,g3,zF, ?_,by rw[mC,mC,hxl];rfl⟩;rw[zCy];have e5:wM (0+(lay a).length) [x]= [.tup [.str (ts (kS x.2.1)), .str x.2.2, .int k]]:=by
    show[tkT x.2 (0+(lay a).length+x.1)]=_;rw[rY,<-hk];rfl
   rw[e5];exact g4
end
theorem zEe:∀c∈ [48,49,50,51,52,53,54,55,56,57],c∈xD:=by decide+kernel
noncomputable def zDg(i:Int):List Nat:=ts (Str.ofString (toString i))
theorem zHg(n:Nat):zDg n=(Nat.toDigits 10 n).map Char.toNat:=by
 show ts (Str.ofString (Nat.repr n))=_;rw[Nat.repr_eq_ofList_toDigits,W.Fast.ofString_ofList]
theorem uG{i:Int}(h:0<=i):zDg i≠ []/\∀c∈zDg i,c∈xD:=by
 obtain⟨n,rfl⟩:=tL h;rw[zHg];refine⟨λz=>Nat.toDigits_ne_nil (List.map_eq_nil_iff.mp z),λc hc=>?_⟩;obtain⟨d,hd,rfl⟩:=sU.mp hc;have h:=Nat.isDigit_of_mem_toDigits (by decide) (by decide) hd;have:48<=d.toNat/\d.toNat<=57:=by
  unfold Char.isDigit at h;simp only[bH,sY] at h;exact⟨h.1,h.2⟩
 refine zEe _ ?_;simp only[mF,nM,pZ]
 lia
theorem qQ{i:Int}(h:0<=i)(h1:i<10 ^ 60):(zDg i).length<=60:=by
 obtain⟨n,rfl⟩:=tL h;rw[zHg,nA];exact(Nat.length_toDigits_le_iff (by decide) (by decide)).mpr (by lia)
theorem zCv(i:Int):Str.ofString (toString i)=tx (zDg i):=(qP _).symm
theorem zBz{i:Int}(h0:0<=i)(h:i<10 ^ 60):i.natAbs.log2<1920:=by
 by_cases hz:i.natAbs=0
 ·rw[hz];decide
 ·rw[Nat.log2_lt hz]
  have:i.natAbs<10 ^ 60:=by lia
  exact mX (Nat.lt_trans this (show 10 ^ 60<2 ^ 200 by decide)) (aH (n:=2) (by decide) (by decide))
theorem yD{K:W.Frag}{H:Hp}{a:Addr}{xs:List V}{i:Int}{v:V}{Q:VK}(h1:SqT K H a xs)(h2:atI xs i=some v)(q:Q v H):zNb K (.ref a) (.int i) H Q:=⟨a,xs,i,v,rfl,rfl,h1,h2,q⟩
theorem OkTk.k{t:Tk}(h:OkTk t):t.1∈ [0,1,2,3]:=by
 rcases h.2 with⟨a,_⟩|⟨a,_⟩|⟨a,_⟩|⟨a,_⟩<;>rw[a]<;>decide
end K26
namespace K26
open PySem L2 PySem.W
def clsFn(s:Stmt):Stmt:=match s with
 | .ClassDef _ _ _ (f::_) _ _ _ _ _ _ _=>f
 | _=>s
abbrev wN:Stmt:=clsFn (top 17)
theorem zWe:zV ["self","text","at"] ["self","text","at"] (zO wN):=by walk_at "sc"
section
variable{P:Program}{w:World}{K:PySem.W.Frag}{mg:Str->Option Value}{base:Heap}{C B fI dT:Addr}{nm:Str}{oc kV doc pm cdv ct:Value}{od an:Option Addr}{osl:Array (Option Value)}
theorem zUn(lk:K.lookup fI=some ⟨oc,od, .func (fnOf "__init__" "BadText.__init__" (yZ wN) (yU wN) (zO wN) (.ref dT) kV doc pm an cdv ct),osl⟩)(hcd:codeIn K cdv "BadText.__init__" =true)(c:zKv K nm C B fI)(b:zPp K B)(hmB:mg "CabinetError" =some (.ref B)):
  FnOk P w K mg base CX0 1 fI (fnOf "__init__" "BadText.__init__" (yZ wN) (yU wN) (zO wN) (.ref dT) kV doc pm an cdv ct) ["self","text","at"] (zBb C):=by
 refine zSj (k:=0) lk hcd zWe (λvs H Q E h=>?_) λA outer s H vs Q E hr h=>?_
 ·obtain⟨x,v0,v,rfl,_⟩:=h
  rfl
 obtain⟨x,v0,v,rfl,hx,q⟩:=h;refine⟨_,(zD (xF (zTn c b rfl hmB (zA (pv 0) (zA (pv 1) zB)))) (zG (zVa c (pv 2) (pv 0)))), ?_⟩;refine⟨.ref x,rfl,v0,rfl,x,v0,rfl,hx,v,rfl, .ref x,rfl,x,rfl,hx,λd hd=>q d hd⟩
theorem zJl{o:Obj}{items:Array Value}{n:Nat}(hd:K.lookup dT=some o)(hs:o.data= .seq items n)(h1:items.size=1):Binds K (fnOf "__init__" "BadText.__init__" (yZ wN) (yU wN) (zO wN) (.ref dT) kV doc pm an cdv ct) ["self","text","at"] []:=λs us hK hl=>by
 rw[mN] at hl⊢;obtain⟨l⟩:=items
 match l,h1 with
 | [i0],_=>
  match us,hl with
  | [a,b,c],_=>exact binds_K hK rfl hd hs rfl rfl
end
end K26
namespace K26
open PySem L2
seal L2.PSs L2.PS L2.PE L2.PT L2.PW L2.PA L2.PI L2.PG L2.PGs L2.PPs L2.PTs
def XBad(C:Addr)(n:Nat)(H:Hp)(E:XK):Prop:=∀d H',Same H H'->H' d=some (.xd [("at", .int n)])->E (.ref C) (some d) H'
theorem XBad.of{C:Addr}{n:Nat}{H H1:Hp}{E:XK}{d:Addr}(h:XBad C n H E)(g:Same H H1)(hd:H1 d=none):E (.ref C) (some d) (upd H1 d (.xd [("at", .int n)])):=h d _ (g.trans (zH hd _)) zF
theorem XBad.same{C:Addr}{n:Nat}{H H1:Hp}{E:XK}(h:XBad C n H E)(g:Same H H1):XBad C n H1 E:=λd H' g'=>h d H' (g.trans g')
def zDa(c:Nat):Prop:=c≠45/\c∉xD/\c∉vB/\c≠39/\c∉mkL
section
variable{P:Program}{w:World}{K:W.Frag}{mg:Str->Option Value}{base:Heap}{f:Addr}{fd:FuncData}{C:Addr}
def zQn(C:Addr):Sp:=λvs H _ E=>∃(L r:List Nat)(n c:Nat),vs= [.str (tx L), .int n]/\L.drop n=c::r/\zDa c/\L.length<=100000/\XBad C n H E
theorem zWn(F:Fun K "kind_at" "kind_at" zVr f fd)(B:Bl mg)(M:Ms mg)(RBadText:Xr P w K mg base 1 "BadText" C):FnOk P w K mg base (CXE nC P w) 3 f fd ["text","at"] (zQn C):=by
 refine F.okx scKAt (by walk_at "ln") λc A o s H vs Q E hr h=>?_;obtain⟨L,r,n,c,rfl,hd,hc,hL,q⟩:=h;have nd:=scKAt.nd;refine⟨_,(zD (pS 2 nd (zR vO (pv 0) (pv 1) (λ_ _=>rfl)))
  (zD (zQ (PW.pt (jV (zK zS (pv 2) zC (zJ _)) (vZ (zK wS (pv 2) (kQ rfl M.FIGURES) (by with_unfolding_all rfl))))) (zG (zM zC)) zL)
  (zD (zQ (zK wS (pv 2) (kQ rfl M.LETTERS) (by with_unfolding_all rfl)) (zG (zM zC)) zL)
  (zD (zQ (zK zS (pv 2) zC (zJ _)) (zG (zM zC)) zL)
  (zD (zQ (zK wS (pv 2) (kQ rfl M.MARKS) (by with_unfolding_all rfl)) (zG (zM zC)) zL)
  (zG (xQ RBadText hr (by lia) rfl rfl lvs (zA zC (zA (pv 1) zB))))))))), ?_⟩
 walk_at "st";walk_at "rd6";refine xU (by rw[zU,mJ];lia) (yF (j:=n) (uK hd)) ?_;rw[zUe,zFu,zPt,zBr,zEo];simp only[tx1,yK];obtain⟨h1,h2,h3,h4,h5⟩:=hc;refine⟨nJ,iN h1 ⟨c,rfl,iN h2 ⟨c,rfl,iN h3 ⟨nJ,iN h4 ⟨c,rfl,iN h5 ?_⟩⟩⟩⟩⟩;exact⟨_,rfl,_,_,rfl,λd hd=>q.of (Same.refl _) hd⟩
def zGf(C:Addr):Sp:=λvs H _ E=>∃(L r:List Nat)(n:Nat),vs= [.str (tx L), .int n]/\L.drop n=45::r/\(∀c r',r=c::r'->c∉xD)/\L.length<=100000/\XBad C n H E
theorem run0{S r:List Nat}(h:∀c r',r=c::r'->c∉S):jJ S r=0:=by
 have:=xZ (S:=S) (x:=[]) (r:=r) (λc hc=>nomatch hc) h;exact this
theorem zTt(F:Fun K "number_end" "number_end" zMe f fd)(B:Bl mg)(M:Ms mg)(Grun_end:Dn P w K mg base 1 "run_end" ["text","at","signs"] zCe)(RBadText:Xr P w K mg base 1 "BadText" C):FnOk P w K mg base (CXE nC P w) 3 f fd ["text","at"] (zGf C):=by
 refine F.okx scNEnd (by walk_at "ln") λc A o s H vs Q E hr h=>?_;obtain⟨L,r,n,rfl,hd,hst,hL,q⟩:=h;have nd:=scNEnd.nd;refine⟨_,(zD (pS 2 nd (qO (zK zS (zR vO (pv 0) (pv 1) (λ_ _=>rfl)) zC (zJ _)) (zI yL (pv 1) zE) (pv 1)))
  (zD (pS 3 nd (pD Grun_end hr (zA (pv 0) (zA (pv 2) (zA (kQ rfl M.FIGURES) zB)))))
  (zD (zQ (zK zS (pv 3) (pv 2) (zJ _)) (zG (xQ RBadText hr (by lia) rfl rfl lvs (zA zC (zA (pv 1) zB)))) zL)
  (zG (zM (pv 3)))))), ?_⟩
 walk_at "st";walk_at "rd6";rw[zEo,zFu];have hdl:=congrArg List.length hd;rw[nG,mE] at hdl;refine xU (by rw[zU,mJ];lia) (yF (j:=n) (uK hd)) ⟨rfl, ?_⟩;simp only[tx1];refine iP nJ ⟨L,xD,n+1,by rw[dE];rfl,by lia,hL,rfl, ?_⟩;have e:L.drop (n+1)=r:=by
  rw[<-nS,hd];rfl
 rw[e,run0 hst];refine iP (by rw[dE];rfl) ?_;exact⟨_,rfl,_,_,rfl,λd hd=>q.of (Same.refl _) hd⟩
theorem zOi{L u:List Nat}{lo:Nat}(h:L.drop lo=u)(hlo:lo<=L.length)(hu:39∉u):Txt.find3 (tx L) (tx [39]) (lo:Int)= -1:=by
 have hln:(tx L).length=L.length:=zU L;have hl:fromIndex (tx L).length (lo:Int)=lo:=by
  unfold fromIndex;rw[mG (by lia)]
  lia
 have hg:∀j,(tx L).cps.getD (lo+j) 0=u.getD j 0:=λj=>by
  rw[<-h];show L.toArray.getD (lo+j) 0=_;simp[rZ]
 have hul:=congrArg List.length h;rw[nG] at hul;rcases StrLaws.find3_spec (tx L) 39 (lo:Int) with⟨e,_⟩|⟨k,e,k1,k2,k3,k4⟩
 ·exact e
 ·rw[hl] at k1
  obtain⟨j,rfl⟩:=Nat.exists_eq_add_of_le k1;have hj:j<u.length:=by lia
  rw[hg,rZ,pY hj] at k3;exact absurd (by rw[<-show u[j]=39 from k3];exact cW hj) hu
theorem zQz{L u x2:List Nat}{lo:Nat}(h:L.drop lo=u++dbl x2)(hlo:lo<=L.length)(hu:39∉u)(hx2:x2= []\/∃y,x2=39::y):Txt.find3 (tx L) (tx [39]) (lo:Int)=if x2= [] then -1 else((lo+u.length:Nat):Int):=by
 rcases hx2 with rfl |⟨y,rfl⟩
 ·rw[mL rfl]
  rw[zMf,mN] at h;exact zOi h hlo hu
 ·rw[mG (by simp)]
  rw[zBj] at h;exact qA h hu
def zMs(C:Addr):Sp:=λvs H _ E=>∃(L x r:List Nat)(n:Nat),vs= [.str (tx L), .int n]/\L.drop n=39::(dbl x++39::r)/\(∃c∈x,c∉vE)/\Stops 2 r/\L.length<=100000/\XBad C n H E
theorem zRt(F:Fun K "text_end" "text_end" zHq f fd)(B:Bl mg)(Gis_text_sign:Dn P w K mg base 1 "is_text_sign" ["sign"] zHy)(RBadText:Xr P w K mg base 1 "BadText" C):FnOk P w K mg base (CXE nC P w) 3 f fd ["text","at"] (zMs C):=by
 refine F.okx scTEnd (by walk_at "ln") λc A o s H vs Q E hr h=>?_;obtain⟨L,x,r,n,rfl,hd,hx,hst,hL,q⟩:=h;have nd:=scTEnd.nd;refine⟨_,(zD (pS 2 nd (wG pT sC sD kA (pv 0) (zA zC (zA (zI yL (pv 1) zE) zB))))
  (zD (wH PassesOwn.leaving (PW.pt (qJ (zK zTf (pv 2) zE (zJ _)) (vJ (zK zS (yV wO (pv 0) (yQ (zI yL (pv 2) zE)) (yQ (zI yL (pv 2) zE))) zC (zJ _))))) (zG (pS 2 nd (wG pT sC sD kA (pv 0) (zA zC (zA (zI yL (pv 2) zE) zB))))))
  (zD (zQ (zK zEu (pv 2) zE (zJ _)) (zG (xQ RBadText hr (by lia) rfl rfl lvs (zA zC (zA (pv 1) zB)))) zL)
  (zD (zQ (vY (yT (zP (wB rfl) rfl B.all qY (zA (vF (own:=["sign"]) (F:=[]) ⟨rfl,by walk_at "wu",by walk_at "wu",by walk_at "wu", .nil⟩ rfl (zCb (yV wO (pv 0) (yQ (zI yL (pv 1) zE)) (yQ (pv 2)))) (λ_ _ _ _=>yO (i:=0) (by show(qR ["sign"] []).Nodup;decide+kernel) rfl (pR rfl)) (λ_ _ _ _=>wR) (λ_ _ _ _=>(pD Gis_text_sign hr (zA (pv 0) zB)))) zB)))) (zG (xQ RBadText hr (by lia) rfl rfl lvs (zA zC (zA (pv 1) zB)))) zL)
  (zG (zM (zI yL (pv 2) zE))))))), ?_⟩
 walk_at "st";walk_at "rd6";have hd1:L.drop (n+1)=dbl x++39::r:=by rw[<-nS,hd];rfl
 have hln:(tx L).length=L.length:=zU L;have hdl:=congrArg List.length hd1;rw[nG,mC,mE] at hdl;have hsz:(tx L).length<=sizeLine:=by rw[hln,mJ];lia
 obtain⟨u0,x20,e0,hu0,hx0⟩:=jG x;obtain⟨rest0,hr0⟩:=dq hu0 hx0 r;refine⟨rfl,tx L,tx [39],n+1,rfl,by rw[zBr], ?_⟩;rw[show((n:Int)+1)=((n+1:Nat):Int) by lia,qA (hd1.trans (by rw[e0];exact hr0)) hu0];refine⟨λm σ H'=>∃x1 u x2,x=x1++(u++x2)/\39∉u/\(x2= []\/∃y,x2=39::y)/\σ= [some (.str (tx L)),some (.int n),some (.int ((n+1+(dbl x1).length+u.length:Nat):Int))]/\H'=H/\m=x2.length,⟨_,[],u0,x20,e0,hu0,hx0,rfl,rfl,rfl⟩, ?_⟩;rintro m σ H' ⟨x1,u,x2,ex,hu,hx2,rfl,rfl,rfl⟩;walk_at "rd6";generalize hk:n+1+(dbl x1).length+u.length=k;have hdk:L.drop k=dbl x2++39::r:=by
  rw[<-hk,<-nS,<-nS,hd1,ex,xC,xC,xK hu];simp only[mY,tF]
 refine iP (by lia) ⟨_,rfl,hsz,rfl, ?_⟩;rw[show((k:Int)+1)=((k+1:Nat):Int) by lia,show((k:Int)+2)=((k+2:Nat):Int) by lia,xL,yK,zBr];have hsl:(L.take (k+2)).drop (k+1)=(L.drop (k+1)).take 1:=by
  rw[sP];congr 1;lia
 have hd2:L.drop (k+1)=(dbl x2++39::r).drop 1:=by rw[<-nS,hdk]
 rw[hsl,hd2];rcases hx2 with rfl |⟨y,rfl⟩
 ·refine iN ?_ ?_
  ·intro z
   have z:=congrArg ts (V.str.inj z);rw[yK,yK] at z;have z:r.take 1= [39]:=z
   cases r with
   | nil=>cases z
   | cons c r'=>
    have:c=39:=by simpa using z
    exact hst c r' rfl (by rw[this];decide)
  rw[mN] at ex;have hdx:dbl x=dbl x1++u:=by rw[ex,xC,xK hu]
  refine iN (by lia) ⟨_,rfl,hsz, ?_⟩;rw[show((n:Int)+1)=((n+1:Nat):Int) by lia,xL,yK];have hsl2:(L.take k).drop (n+1)=dbl x:=by
   rw[sP,hd1,<-hk,hdx,show n+1+(dbl x1).length+u.length - (n+1)=(dbl x1++u).length by rw[mC];lia,tG]
  rw[hsl2];have hds:¬∀c∈dbl x,c∈vE:=λz=>by
   obtain⟨c,hc,hn⟩:=hx;refine hn (z c (List.mem_flatMap.mpr ⟨c,hc, ?_⟩));unfold rpl;split
   ·rename_i e;exact absurd zQp (by rw[e] at hn;exact hn)
   ·exact List.mem_singleton_self c
  have hdl2:(ts (tx (dbl x))).length<=100000:=by rw[yK];lia
  refine⟨_,rfl,zBe (λi ys H''=>Same H' H''/\ys=(((ts (tx (dbl x))).take i).map λc=>decide (c∈vE)).map V.bl) (by rw[mJ];lia) ⟨Same.refl _,rfl⟩ ?_ ?_⟩
  ·rintro i d ys H'' hd' _ ⟨hS,rfl⟩
   walk_at "rd6";refine⟨d,rfl,λH3 g3=>⟨hS.trans g3, ?_⟩⟩;rw[vH hd'];simp only[pL,nD,pV]
  ·rintro ys H'' hl' ⟨hS,rfl⟩ p hp
   rw[sQ];refine⟨p,rfl,_,SqL.of zF,iP ?_ ?_⟩
   ·rw[yK]
    have:(dbl x).all (_root_.id∘λc=>decide (c∈vE))=false:=by
     rw[List.all_eq_false];refine Classical.byContradiction λz=>hds λc hc=>Classical.byContradiction λhn=>z ⟨c,hc, ?_⟩;show¬(decide (c∈vE)=true);rw[cQ];exact hn
    rw[aT,this]
   ·exact⟨_,rfl,_,_,rfl,λd hd=>q.of (hS.trans (zH hp _)) hd⟩
 ·obtain⟨u',x2',e',hu',hx'⟩:=jG y
  obtain⟨rest',hr'⟩:=dq hu' hx' r;have hd3:L.drop (k+2)=u'++39::rest':=by
   rw[<-nS,hdk,zBj,<-hr',<-e'];rfl
  refine iP (by rfl) ⟨λσ' H''=>σ'= [some (.str (tx L)),some (.int n),some (.int ((k+2+u'.length:Nat):Int))]/\H''=H', ?_,rfl,tx L,tx [39],_,rfl,rfl, ?_⟩
  ·rintro σ' H'' ⟨rfl,rfl⟩
   have hl:=congrArg List.length e';rw[mC] at hl;refine⟨x2'.length,by rw[mE];lia,x1++(u++ [39]),u',x2', ?_,hu',hx', ?_,rfl,rfl⟩
   ·rw[ex,e'];simp only[mY,nP,nH]
   ·congr 5
    rw[xC,xC,xK hu,<-hk,mC,mC];rw[show(dbl [39]).length=2 from rfl]
    lia
  ·rw[qA hd3 hu']
   exact⟨rfl,rfl⟩
def zLu(C:Addr):Sp:=λvs H _ E=>∃(L x:List Nat)(n:Nat),vs= [.str (tx L), .int n]/\L.drop n=39::dbl x/\L.length<=100000/\XBad C n H E
theorem zTu(F:Fun K "text_end" "text_end" zHq f fd)(B:Bl mg)(Gis_text_sign:Dn P w K mg base 1 "is_text_sign" ["sign"] zHy)(RBadText:Xr P w K mg base 1 "BadText" C):FnOk P w K mg base (CXE nC P w) 3 f fd ["text","at"] (zLu C):=by
 refine F.okx scTEnd (by walk_at "ln") λc A o s H vs Q E hr h=>?_;obtain⟨L,x,n,rfl,hd,hL,q⟩:=h;have nd:=scTEnd.nd;refine⟨_,(zD (pS 2 nd (wG pT sC sD kA (pv 0) (zA zC (zA (zI yL (pv 1) zE) zB))))
  (zD (wH PassesOwn.leaving (PW.pt (qJ (zK zTf (pv 2) zE (zJ _)) (vJ (zK zS (yV wO (pv 0) (yQ (zI yL (pv 2) zE)) (yQ (zI yL (pv 2) zE))) zC (zJ _))))) (zG (pS 2 nd (wG pT sC sD kA (pv 0) (zA zC (zA (zI yL (pv 2) zE) zB))))))
  (zD (zQ (zK zEu (pv 2) zE (zJ _)) (zG (xQ RBadText hr (by lia) rfl rfl lvs (zA zC (zA (pv 1) zB)))) zL)
  (zD (zQ (vY (yT (zP (wB rfl) rfl B.all qY (zA (vF (own:=["sign"]) (F:=[]) ⟨rfl,by walk_at "wu",by walk_at "wu",by walk_at "wu", .nil⟩ rfl (zCb (yV wO (pv 0) (yQ (zI yL (pv 1) zE)) (yQ (pv 2)))) (λ_ _ _ _=>yO (i:=0) (by show(qR ["sign"] []).Nodup;decide+kernel) rfl (pR rfl)) (λ_ _ _ _=>wR) (λ_ _ _ _=>(pD Gis_text_sign hr (zA (pv 0) zB)))) zB)))) (zG (xQ RBadText hr (by lia) rfl rfl lvs (zA zC (zA (pv 1) zB)))) zL)
  (zG (zM (zI yL (pv 2) zE))))))), ?_⟩
 walk_at "st";walk_at "rd6";have hd1:L.drop (n+1)=dbl x:=by rw[<-nS,hd];rfl
 have hln:(tx L).length=L.length:=zU L;have hdl:=congrArg List.length hd;rw[nG,mE] at hdl;have hsz:(tx L).length<=sizeLine:=by rw[hln,mJ];lia
 obtain⟨u0,x20,e0,hu0,hx0⟩:=jG x;refine⟨rfl,tx L,tx [39],n+1,rfl,by rw[zBr], ?_⟩;rw[show((n:Int)+1)=((n+1:Nat):Int) by lia,zQz (hd1.trans (by rw[e0,xC,xK hu0])) (by lia) hu0 hx0];refine⟨λm σ H'=>∃x1 u x2,x=x1++(u++x2)/\39∉u/\(x2= []\/∃y,x2=39::y)/\σ= [some (.str (tx L)),some (.int n),some (.int (if x2= [] then -1 else((n+1+(dbl x1).length+u.length:Nat):Int)))]/\H'=H/\m=x2.length,⟨_,[],u0,x20,e0,hu0,hx0,rfl,rfl,rfl⟩, ?_⟩;rintro m σ H' ⟨x1,u,x2,ex,hu,hx2,rfl,rfl,rfl⟩;walk_at "rd6";generalize hk:n+1+(dbl x1).length+u.length=k;have hdk:L.drop k=dbl x2:=by
  rw[<-hk,<-nS,<-nS,hd1,ex,xC,xC,xK hu];simp only[tF]
 rcases hx2 with rfl |⟨y,rfl⟩
 ·rw[mL rfl]
  refine iN (by decide) (iP (by decide) ?_);exact⟨_,rfl,_,_,rfl,λd hd=>q.of (Same.refl _) hd⟩
 ·rw[mG (show¬(39::y=([]:List Nat)) by simp)]
  refine iP (by lia) ⟨_,rfl,hsz,rfl, ?_⟩;rw[show((k:Int)+1)=((k+1:Nat):Int) by lia,show((k:Int)+2)=((k+2:Nat):Int) by lia,xL,yK,zBr];have hsl:(L.take (k+2)).drop (k+1)=(L.drop (k+1)).take 1:=by
   rw[sP];congr 1;lia
  have hd2:L.drop (k+1)=(dbl (39::y)).drop 1:=by rw[<-nS,hdk]
  rw[hsl,hd2,zBj];obtain⟨u',x2',e',hu',hx'⟩:=jG y;have hd3:L.drop (k+2)=u'++dbl x2':=by
   rw[<-nS,hdk,zBj,e',xC,xK hu'];rfl
  have hk2:k+2<=L.length:=by
   have:=congrArg List.length hdk;rw[zBj,nG,mE,mE] at this
   lia
  refine iP (by rfl) ⟨λσ' H''=>σ'= [some (.str (tx L)),some (.int n),some (.int (if x2'= [] then -1 else((k+2+u'.length:Nat):Int)))]/\H''=H', ?_,rfl,tx L,tx [39],_,rfl,rfl, ?_⟩
  ·rintro σ' H'' ⟨rfl,rfl⟩
   have hl:=congrArg List.length e';rw[mC] at hl;refine⟨x2'.length,by rw[mE];lia,x1++(u++ [39]),u',x2', ?_,hu',hx', ?_,rfl,rfl⟩
   ·rw[ex,e'];simp only[mY,nP,nH]
   ·have e5:n+1+(dbl (x1++(u++ [39]))).length+u'.length=k+2+u'.length:=by
     rw[xC,xC,xK hu,<-hk,mC,mC];rw[show(dbl [39]).length=2 from rfl]
     lia
    rw[e5]
  ·rw[zQz hd3 hk2 hu' hx']
   exact⟨rfl,rfl⟩
abbrev zMm(C:Addr):Sp:=λvs H Q E=>zMs C vs H Q E\/zLu C vs H Q E
def zJm(C:Addr):Sp:=λvs H Q E=>∃(k:Nat)(L:List Nat)(n:Nat),vs= [.str (kS k), .str (tx L), .int n]/\((k=0/\zGf C [.str (tx L), .int n] H Q E)\/(k=2/\zMm C [.str (tx L), .int n] H Q E))
theorem zNv(F:Fun K "token_end" "token_end" zGd f fd)(M:Ms mg)(Gnumber_endx:Dx nC P w K mg base 3 "number_end" ["text","at"] (zGf C))(Grun_end:Dn P w K mg base 1 "run_end" ["text","at","signs"] zCe)(Gtext_endx:Dx nC P w K mg base 3 "text_end" ["text","at"] (zMm C)):FnOk P w K mg base (CXE nC P w) 4 f fd ["kind","text","at"] (zJm C):=by
 refine F.okx scTkEnd (by walk_at "ln") λc A o s H vs Q E hr h=>?_;obtain⟨k,L,n,rfl,h⟩:=h;have nd:=scTkEnd.nd;refine⟨_,(zD (zQ (zK zS (pv 0) zC (zJ _)) (zG (zM (zHk Gnumber_endx hr (by lia) rfl lvs (zA (pv 1) (zA (pv 2) zB))))) zL)
  (zD (zQ (zK zS (pv 0) zC (zJ _)) (zG (zM (pD Grun_end hr (zA (pv 1) (zA (pv 2) (zA (kQ rfl M.NAME_SIGNS) zB)))))) zL)
  (zD (zQ (zK zS (pv 0) zC (zJ _)) (zG (zM (zHk Gtext_endx hr (by lia) rfl lvs (zA (pv 1) (zA (pv 2) zB))))) zL)
  (zG (zM (zI yL (pv 2) zE)))))), ?_⟩
 walk_at "st";walk_at "rd6";rw[show Str.ofString "number" =kS 0 from rfl,show Str.ofString "word" =kS 1 from rfl,show Str.ofString "text" =kS 2 from rfl,zSf];rcases h with⟨rfl,h⟩|⟨rfl,h⟩
 ·exact iP rfl h
 ·exact iN jO.2.1 (iN jO.2.2.2.2.1 (iP rfl h))
theorem Stops.head{k:Nat}{u A B:List Nat}(h:Stops k (u++A))(hu:u≠ []):Stops k (u++B):=by
 obtain⟨d,u',rfl⟩:=rG hu;intro c r' e;rw[nP] at e;rw[<-(List.cons.inj e).1];exact h d (u'++A) rfl
def BadT(y:List Nat):Prop:=(∃c r,y=c::r/\zDa c/\c≠32)\/(∃r,y=45::r/\∀c r',r=c::r'->c∉xD)\/(∃x r,y=39::(dbl x++39::r)/\(∃c∈x,c∉vE)/\Stops 2 r)\/(∃x,y=39::dbl x)
theorem BadT.head{y:List Nat}(h:BadT y):∃c r,y=c::r/\c≠32:=by
 rcases h with⟨c,r,e,_,h⟩|⟨r,e,_⟩|⟨x,r,e,_⟩|⟨x,e⟩
 ·exact⟨c,r,e,h⟩
 ·exact⟨_,_,e,by decide⟩
 ·exact⟨_,_,e,by decide⟩
 ·exact⟨_,_,e,by decide⟩
theorem zCo{c:List (Nat×Tk)}{e:Nat}{y:List Nat}(hok:∀y∈c,OkTk y.2)(hy:BadT y):jJ [32] (lay c++List.replicate e 32++y)=jP c e:=by
 cases c with
 | nil=>
  obtain⟨d,r,rfl,hd⟩:=hy.head;have:=xZ (S:=[32]) (x:=List.replicate e 32) (r:=d::r) (λc hc=>by rw[(sE.mp hc).2];exact mH) (λc r' e=>by rw[<-(List.cons.inj e).1,mS];exact hd);rw[mU] at this;exact this
 | cons x c=>
  have e1:lay (x::c)++List.replicate e 32++y=List.replicate x.1 32++(shw x.2++lay c++List.replicate e 32++y):=by
   show List.replicate x.1 32++(shw x.2++lay c)++_++_=_;simp only[mY]
  rw[e1,xZ (λc hc=>by rw[(sE.mp hc).2];exact mH) ?_,mU];rfl;intro d r' e2;obtain⟨h,r,e3,hk,_⟩:=qT (hok x mH);rw[e3] at e2;rw[<-(List.cons.inj e2).1];exact zLf hk
theorem zYd{x:Nat×Tk}{c:List (Nat×Tk)}(hx:OkTk x.2):lay (x::c)≠ []:=λz=>by
 have:=congrArg List.length z;rw[uP] at this;obtain⟨h,r,e3,_⟩:=qT hx;rw[e3] at this;simp only[mE,nL] at this
 lia
theorem zUy{a c:List (Nat×Tk)}{x:Nat×Tk}{e:Nat}{y:List Nat}(hok:∀y∈a++x::c,OkTk y.2)(hc:Chn (a++x::c))(hy:e=0->∀z,(a++x::c).getLast? =some z->Stops z.2.1 y):Stops x.2.1 (lay c++List.replicate e 32++y):=by
 cases c with
 | nil=>
  cases e with
  | zero=>exact hy rfl x (by simp)
  | succ e=>
   have h:=zCf (e:=e+1) hok hc;exact Stops.head (u:=List.replicate (e+1) 32) (A:=[]) (by rw[mN];exact h) (by simp)
 | cons z c=>
  have h:=zCf (e:=e) hok hc;rw[mY];exact Stops.head h (zYd (hok z (by simp)))
def zLw(C:Addr):Sp:=λvs H _ E=>∃(r:List (Nat×Tk))(e:Nat)(y:List Nat),vs= [.str (tx (lay r++List.replicate e 32++y))]/\(∀y∈r,OkTk y.2)/\Chn r/\r.length<=1000/\(lay r++List.replicate e 32++y).length<=100000/\BadT y/\
 (e=0->∀z,r.getLast? =some z->Stops z.2.1 y)/\XBad C ((lay r).length+e) H E
theorem zSs(F:Fun K "tokens" "tokens" zMa f fd)(B:Bl mg)(Grun_end:Dn P w K mg base 1 "run_end" ["text","at","signs"] zCe)(Gkind_atx:Dx nC P w K mg base 3 "kind_at" ["text","at"] λvs H Q E=>zSm vs H Q E\/zQn C vs H Q E)(Gtoken_endx:Dx nC P w K mg base 4 "token_end" ["kind","text","at"] λvs H Q E=>zGb vs H Q E\/zJm C vs H Q E)(Gstring_of:Dn P w K mg base 1 "string_of" ["kind","signs"] zFe):FnOk P w K mg base (CXE nC P w) 5 f fd ["text"] (zLw C):=by
 refine F.okx scToks (by walk_at "ln") λc A o s H vs Q E hr h=>?_;obtain⟨r,e,y,rfl,hok,hch,hr1,hL,hy,hyst,q⟩:=h;have nd:=scToks.nd;refine⟨_,(zD (pS 1 nd (zT zB))
  (zD (pS 2 nd (pD Grun_end hr (zA (pv 0) (zA zE (zA zC zB)))))
  (zD (wH PassesOwn.leaving (zK zEu (pv 2) (zP yE rfl B.len yH (zA (pv 0) zB)) (zJ _)) (zD (pS 3 nd (zHk Gkind_atx hr (by lia) rfl lvs (zA (pv 0) (zA (pv 2) zB))))
  (zD (pS 4 nd (zHk Gtoken_endx hr (by lia) rfl lvs (zA (pv 3) (zA (pv 0) (zA (pv 2) zB)))))
  (zD (xF (wG nX pH pP xP (pv 1) (zA (yA (zA (pv 3) (zA (pD Gstring_of hr (zA (pv 3) (zA (yV wO (pv 0) (yQ (pv 2)) (yQ (pv 4))) zB))) (zA (pv 2) zB)))) zB)))
  (zG (pS 2 nd (pD Grun_end hr (zA (pv 0) (zA (pv 4) (zA zC zB))))))))))
  (zD (xF (wG nX pH pP xP (pv 1) (zA (yA (zA zC (zA zC (zA (zP yE rfl B.len yH (zA (pv 0) zB)) zB)))) zB)))
  (zG (zM (pv 1))))))), ?_⟩
 generalize hLL:lay r++List.replicate e 32++y=L at hL q⊢;walk_at "st";walk_at "rd6";rw[zXb];intro p0 hp0;refine⟨L,[32],0,rfl,pW _,hL, ?_⟩;have hln:(tx L).length=L.length:=zU L;have hsz:(tx L).length<=sizeLine:=by rw[hln,mJ];lia
 rw[sA,rY,<-hLL,zCo hok hy,hLL];refine⟨λm σ H'=>∃a c k o1 o2 xs,r=a++c/\k=(lay a).length+jP c e/\σ= [some (.str (tx L)),some (.ref p0),some (.int ((k:Nat):Int)),o1,o2]/\Same H H'/\H' p0=some (.lst xs)/\Reps H' xs (wM 0 a)/\xs.length=a.length/\m=c.length,⟨_,[],r,jP r e,none,none,[],rfl,(rY _).symm,rfl,zH hp0 _,zF,rfl,rfl,rfl⟩, ?_⟩;rintro m σ H' ⟨a,c,k,o1,o2,xs,rfl,hk,rfl,g,hp,hR,hxl,rfl⟩;have hdk:L.drop (lay a).length=lay c++List.replicate e 32++y:=by
  rw[<-hLL,jB];simp only[mY,tF]
 have hdl:=congrArg List.length hdk;rw[nG,mC,mC,mU] at hdl;rw[mC] at hr1;walk_at "rd6";rw[hln]
 cases c with
 | nil=>
  have hk:k=(lay a).length+e:=hk;have e0:(lay ([]:List (Nat×Tk))).length=0:=rfl;rw[mN] at q;have hdk2:L.drop k=y:=by
   rw[hk,<-nS,hdk];show List.drop e (List.replicate e 32++y)=_;exact dF mU
  have hyl:0<y.length:=by
   obtain⟨d,r,rfl,_⟩:=hy.head;exact pO _
  rw[<-hk] at q;have q':XBad C k H' E:=q.same g;refine⟨by lia,iP (by lia) ⟨λ_ _=>False,(λ_ _ z=>False.elim z), ?_⟩⟩;rcases hy with⟨d,r,rfl,hd,_⟩|⟨r,rfl,hr'⟩|⟨x,r,rfl,hx,hst⟩|⟨x,rfl⟩
  ·exact .inr ⟨L,r,k,d,rfl,hdk2,hd,hL,q'⟩
  ·exact .inl ⟨L,r,k,45,0,rfl,hdk2, .inl ⟨rfl, .inl rfl⟩,hL, .inr ⟨0,L,k,rfl, .inl ⟨rfl,L,r,k,rfl,hdk2,hr',hL,q'⟩⟩⟩
  ·exact .inl ⟨L,_,k,39,2,rfl,hdk2, .inr (.inr (.inl ⟨rfl,rfl⟩)),hL, .inr ⟨2,L,k,rfl, .inr ⟨rfl, .inl ⟨L,x,r,k,rfl,hdk2,hx,hst,hL,q'⟩⟩⟩⟩
  ·exact .inl ⟨L,_,k,39,2,rfl,hdk2, .inr (.inr (.inl ⟨rfl,rfl⟩)),hL, .inr ⟨2,L,k,rfl, .inr ⟨rfl, .inr ⟨L,x,k,rfl,hdk2,hL,q'⟩⟩⟩⟩
 | cons x c=>
  have hk:k=(lay a).length+x.1:=hk;have hx:=hok x (by simp);have hst:Stops x.2.1 (lay c++List.replicate e 32++y):=zUy hok hch hyst;obtain⟨h1,r1,e1,hhk,_⟩:=qT hx;have hdk2:L.drop k=shw x.2++(lay c++List.replicate e 32++y):=by
   rw[hk,<-nS,hdk];show List.drop x.1 (List.replicate x.1 32++(shw x.2++lay c)++List.replicate e 32++y)=_;simp only[mY];exact dF mU
  have hpos:0<(shw x.2).length:=by rw[e1];exact pO _
  have hdl2:=congrArg List.length hdk2;rw[nG,mC] at hdl2;have hk2:(lay (a++ [x])).length=k+(shw x.2).length:=by
   rw[jB,mC,uP,hk];show _+(_+_+0)=_
   lia
  refine⟨by lia,iP (by lia) ⟨λσ' H''=>∃o1 o2 ys,σ'= [some (.str (tx L)),some (.ref p0),some (.int (((lay (a++ [x])).length+jP c e:Nat):Int)),o1,o2]/\Same H H''/\H'' p0=some (.lst ys)/\Reps H'' ys (wM 0 (a++ [x]))/\ys.length=(a++ [x]).length, ?_, ?_⟩⟩
  ·rintro σ' H'' ⟨o1,o2,ys,rfl,g',h1,h2,h3⟩
   exact⟨c.length,sO _,a++ [x],c,by rw[mY];rfl,⟨_,_,rfl⟩,g',_,h1,h2,h3,rfl⟩
  ·refine .inl ⟨L,_,k,h1,x.2.1,rfl,by rw[hdk2,e1];rfl,hhk,hL, .inl ⟨L,_,x.2,k,rfl,hdk2,hx,hst,hL,λH1 g1=>⟨.inl ⟨rfl,_,SqL.of (g1 _ _ hp)⟩,_,rfl,tx L,rfl,hsz, ?_⟩⟩⟩
   rw[xL,yK];have hsl:(L.take (k+(shw x.2).length)).drop k=shw x.2:=by
    rw[sP,hdk2,show k+(shw x.2).length - k=(shw x.2).length by lia,tG]
   rw[hsl];refine⟨x.2,rfl,hx,λp hpn=>?_⟩;obtain⟨g3,g4⟩:=zGp (g.trans g1) hp0 (g1 _ _ hp) (Reps.same g1 _ _ hR) hpn (λHx=>zAw Hx (kS x.2.1) x.2.2 k);refine⟨p0,xs,_,rfl,rfl,zH hpn _ _ _ (g1 _ _ hp),by rw[mJ];simp only[mE] at hr1;lia,L,[32],k+(shw x.2).length,rfl,by lia,hL, ?_⟩;have hd3:L.drop (k+(shw x.2).length)=lay c++List.replicate e 32++y:=by rw[<-nS,hdk2,tF]
   rw[hd3,zCo (λy hy=>hok y (by simp[hy])) hy,<-hk2];refine⟨_,_,_,rfl,g3,zF, ?_,by rw[mC,mC,hxl];rfl⟩;rw[zCy];have e5:wM (0+(lay a).length) [x]= [.tup [.str (ts (kS x.2.1)), .str x.2.2, .int k]]:=by
    show[tkT x.2 (0+(lay a).length+x.1)]=_;rw[rY,<-hk];rfl
   rw[e5];exact g4
end
abbrev zZs:Stmt:=top 65
def uO(b:List Nat)(last:Bool):Prop:=b.length<=20/\(∃c b',b=c::b'/\c∉vB++xD)/\(∀e,BadT (b++List.replicate e 32))/\(last=false->∀rest,BadT (b++32::rest))
noncomputable def someS:List Str:=[Str.ofString "!",Str.ofString "A",Str.ofString "_",Str.ofString "-",Str.ofString "--1",Str.ofString "\n",Str.ofString "\t",Str.ofString ".",Str.ofString "~",Str.ofString "(",Str.ofString "+1",Str.ofString "=",Str.ofString "-a",Str.ofString "- 1",Str.ofString "&",Str.ofString "|",Str.ofString "-'a'",Str.ofString "Z9",Str.ofString "-[",Str.ofString "'a\nb'",Str.ofString "'\t'",Str.ofString "'it''s \n'"]
noncomputable def lastS:List Str:=[Str.ofString "'",Str.ofString "'abc",Str.ofString "'''",Str.ofString "'a''",Str.ofString "'a b, [1",Str.ofString "'\n"]
theorem zIg(e:Nat):List.replicate e 32= []\/∃r,List.replicate e 32=32::r:=by
 cases e with
 | zero=>exact .inl rfl
 | succ e=>exact .inr ⟨_,rfl⟩
theorem wL{c:Nat}{b:List Nat}{last:Bool}(hl:(c::b).length<=20)(hc:zDa c/\c≠32):uO (c::b) last:=⟨hl,⟨c,b,rfl,λz=>(pG.mp z).elim hc.1.2.2.1 hc.1.2.1⟩,(λe=>.inl ⟨c,_,rfl,hc.1,hc.2⟩),λ_ rest=>.inl ⟨c,_,rfl,hc.1,hc.2⟩⟩
theorem zAg{b:List Nat}(hl:(45::b).length<=20)(hb:∀c r',b=c::r'->c∉xD):uO (45::b) false:=by
 have key:∀X:List Nat,(X= []\/∃r,X=32::r)->BadT (45::b++X):=λX hX=>.inr (.inl ⟨_,rfl,λc r' e=>by
  cases b with
  | nil=>
   rcases hX with rfl |⟨r,rfl⟩
   ·cases e
   ·rw[<-(List.cons.inj e).1];decide+kernel
  | cons d b=>rw[<-(List.cons.inj e).1];exact hb d b rfl⟩)
 exact⟨hl,⟨45,b,rfl,by decide+kernel⟩,(λe=>key _ (zIg e)),λ_ rest=>key _ (.inr ⟨rest,rfl⟩)⟩
theorem zKg{x:List Nat}(hl:(39::(dbl x++ [39])).length<=20)(hx:∃c∈x,c∉vE):uO (39::(dbl x++ [39])) false:=by
 have key:∀X:List Nat,(X= []\/∃r,X=32::r)->BadT (39::(dbl x++ [39])++X):=λX hX=>.inr (.inr (.inl ⟨x,X,by simp,hx,λc r' e=>by
  rcases hX with rfl |⟨r,rfl⟩
  ·cases e
  ·rw[<-(List.cons.inj e).1];exact zTh 2⟩))
 exact⟨hl,⟨39,_,rfl,by decide+kernel⟩,(λe=>key _ (zIg e)),λ_ rest=>key _ (.inr ⟨rest,rfl⟩)⟩
theorem zXj{x:List Nat}(hl:(39::dbl x).length<=20):uO (39::dbl x) true:=⟨hl,⟨39,_,rfl,by decide+kernel⟩,(λe=>.inr (.inr (.inr ⟨x++List.replicate e 32,by
 rw[xC,xK (x:=List.replicate e 32) (λz=>by rw[sE] at z;exact absurd z.2 (by decide))];rfl⟩))),λz=>nomatch z⟩
noncomputable instance (c:Nat):Decidable (zDa c):=by unfold zDa;infer_instance
theorem zOu:∀z∈someS,uO (ts z) false:=by
 have e:someS.map ts= [[33],[65],[95],[45],[45,45,49],[10],[9],[46],[126],[40],[43,49],[61],[45,97],[45,32,49],[38],[124],[45,39,97,39],[90,57],[45,91],39::(dbl [97,10,98]++ [39]),39::(dbl [9]++ [39]),39::(dbl [105,116,39,115,32,10]++ [39])]:=by decide+kernel
 intro z hz;have hz':ts z∈someS.map ts:=sM hz;rw[e] at hz';generalize ts z=b at hz'⊢;simp only[mF,nM,pZ] at hz';have nf:∀d:Nat,d∉xD->∀l:List Nat,∀c r',d::l=c::r'->c∉xD:=λd hd l c r' e=>by rw[<-(List.cons.inj e).1];exact hd
 rcases hz' with rfl | rfl | rfl | rfl | rfl | rfl | rfl | rfl | rfl | rfl | rfl | rfl | rfl | rfl | rfl | rfl | rfl | rfl | rfl | rfl | rfl | rfl
 ·exact wL (by decide) (by decide+kernel)
 ·exact wL (by decide) (by decide+kernel)
 ·exact wL (by decide) (by decide+kernel)
 ·exact zAg (by decide) (λc r' e=>nomatch e)
 ·exact zAg (by decide) (nf _ (by decide+kernel) _)
 ·exact wL (by decide) (by decide+kernel)
 ·exact wL (by decide) (by decide+kernel)
 ·exact wL (by decide) (by decide+kernel)
 ·exact wL (by decide) (by decide+kernel)
 ·exact wL (by decide) (by decide+kernel)
 ·exact wL (by decide) (by decide+kernel)
 ·exact wL (by decide) (by decide+kernel)
 ·exact zAg (by decide) (nf _ (by decide+kernel) _)
 ·exact zAg (by decide) (nf _ (by decide+kernel) _)
 ·exact wL (by decide) (by decide+kernel)
 ·exact wL (by decide) (by decide+kernel)
 ·exact zAg (by decide) (nf _ (by decide+kernel) _)
 ·exact wL (by decide) (by decide+kernel)
 ·exact zAg (by decide) (nf _ (by decide+kernel) _)
 ·exact zKg (by decide+kernel) ⟨10,by decide,by decide+kernel⟩
 ·exact zKg (by decide+kernel) ⟨9,by decide,by decide+kernel⟩
 ·exact zKg (by decide+kernel) ⟨10,by decide,by decide+kernel⟩
theorem zNk:∀z∈lastS,uO (ts z) true:=by
 have e:lastS.map ts= [39::dbl [],39::dbl [97,98,99],39::dbl [39],39::dbl [97,39],39::dbl [97,32,98,44,32,91,49],39::dbl [10]]:=by decide+kernel
 intro z hz;have hz':ts z∈lastS.map ts:=sM hz;rw[e] at hz';generalize ts z=b at hz'⊢;simp only[mF,nM,pZ] at hz';rcases hz' with rfl | rfl | rfl | rfl | rfl | rfl<;>exact zXj (by decide+kernel)
section
variable{P:Program}{w:World}{K:W.Frag}{mg:Str->Option Value}{base:Heap}{f:Addr}{fd:FuncData}
def zWv:Sp:=λvs H Q _=>∃c:Int,vs= [.int c]/\0<=c/\∀(p:Addr)(b:List Nat)(l:Bool)(H':Hp),Same H H'->H' p=some (.tup [.str (tx b), .bl l])->uO b l->Q (.ref p) H'
theorem scBad:zV ["_law_cell_here","_law_some","_law_last"] ["_law_cell_here"] (zO zZs):=by walk_at "sc"
theorem zZa(F:Fun K "_law_bad" "_law_bad" zZs f fd):FnOk P w K mg base CX0 1 f fd ["_law_cell_here"] zWv:=by
 refine F.ok scBad (by walk_at "ln") λc A o s H vs Q E hr h=>?_;obtain⟨c,rfl,hc,q⟩:=h;have nd:=scBad.nd;refine⟨_,(zD (pS 1 nd (zT (zA zC (zA zC (zA zC (zA zC (zA zC (zA zC (zA zC (zA zC (zA zC (zA zC (zA zC (zA zC (zA zC (zA zC (zA zC (zA zC (zA zC (zA zC (zA zC zB)))))))))))))))))))))
  (zD (pS 1 nd (zI yW (pv 1) (zT (zA zC (zA zC (zA zC zB))))))
  (zD (pS 2 nd (zT (zA zC (zA zC (zA zC (zA zC (zA zC (zA zC zB))))))))
  (zD (zQ (zK zS (zI yB (pv 0) zE) zE (zJ _)) (zG (zM (yA (zA (zR zY (pv 2) (zI yB (zI yG (pv 0) zE) zE) (λ_ _=>rfl)) (zA vQ zB))))) zL)
  (zG (zM (yA (zA (zR zY (pv 1) (zI yB (zI yG (pv 0) zE) zE) (λ_ _=>rfl)) (zA vQ zB))))))))), ?_⟩
 walk_at "st";walk_at "rd6";intro p1 hp1 p2 hp2;change upd H p1 (.lst ((someS.take 19).map V.str)) p2=none at hp2;change zGs (V.ref p1) (V.ref p2) (upd (upd H p1 (.lst ((someS.take 19).map V.str))) p2 (.lst ((someS.drop 19).map V.str))) _;have s1:=zH hp1 (.lst ((someS.take 19).map V.str));have e1:=zF (H:=H) (a:=p1) (o:=.lst ((someS.take 19).map V.str));generalize upd H p1 (.lst ((someS.take 19).map V.str))=H1 at s1 e1 hp2⊢;have s2:=zH hp2 (.lst ((someS.drop 19).map V.str));have e2:=zF (H:=H1) (a:=p2) (o:=.lst ((someS.drop 19).map V.str));generalize upd H1 p2 (.lst ((someS.drop 19).map V.str))=H2 at s2 e2⊢;refine⟨p1,p2,_,_,rfl,rfl,s2 _ _ e1,e2,by rw[mJ];exact bM rfl,λp3 hp3=>?_⟩;change∀(p:Addr),upd H2 p3 (.lst (someS.map V.str)) p=none->_;have s3:=zH hp3 (.lst (someS.map V.str));have e3:=zF (H:=H2) (a:=p3) (o:=.lst (someS.map V.str));intro p4 hp4;change if c % 4=3 then zDi K (V.ref p4) (V.int (c / 4 % 6)) (upd (upd H2 p3 (.lst (someS.map V.str))) p4 (.lst (lastS.map V.str))) _ else zDi K (V.ref p3) (V.int (c / 4 % 22)) (upd (upd H2 p3 (.lst (someS.map V.str))) p4 (.lst (lastS.map V.str))) _;generalize upd H2 p3 (.lst (someS.map V.str))=H3 at s3 e3 hp4⊢;have s4:=zH hp4 (.lst (lastS.map V.str));have e4:=zF (H:=H3) (a:=p4) (o:=.lst (lastS.map V.str));generalize upd H3 p4 (.lst (lastS.map V.str))=H4 at s4 e4⊢;have g:=s1.trans (s2.trans (s3.trans s4));have at_:∀(zs:List Str)(i:Int),0<=i->i<zs.length->∃z,atI (zs.map V.str) i=some (.str z)/\z∈zs:=λzs i h0 h1=>by
  obtain⟨v,hv,hm⟩:=wD (xs:=zs.map V.str) (i:=i) h0 (by rw[nA];exact h1);obtain⟨z,hz,rfl⟩:=sU.mp hm;exact⟨z,hv,hz⟩
 split
 ·obtain⟨z,hz,hm⟩:=at_ lastS (c / 4 % 6) (by lia) (by show _<(6:Int);lia)
  refine zZ (SqL.of e4) hz λp5 hp5=>?_;exact q p5 (ts z) true _ (g.trans (zH hp5 _)) (by rw[qP];exact zF) (zNk z hm)
 ·obtain⟨z,hz,hm⟩:=at_ someS (c / 4 % 22) (by lia) (by show _<(22:Int);lia)
  refine zZ (SqL.of (s4 _ _ e3)) hz λp5 hp5=>?_;exact q p5 (ts z) false _ (g.trans (zH hp5 _)) (by rw[qP];exact zF) (zOu z hm)
end
end K26
namespace K26
open PySem L2 PySem.W
noncomputable def zEf:List Nat:=ts (Str.ofString "none")
noncomputable def zNc:List Nat:=ts (Str.ofString "yes")
noncomputable def wNo:List Nat:=ts (Str.ofString "no")
structure Lk where
 k:Nat
 s:List Nat
 n:Nat
noncomputable def zSw:List Nat->List Nat
 | 45::r=>r
 | s=>s
noncomputable def gU:List Nat->Int
 | 45::r=>-((NumText.digitsVal r:Nat):Int)
 | s=>((NumText.digitsVal s:Nat):Int)
noncomputable def zCj(s:List Nat):Bool:=decide (s= [48])|| !decide ((zSw s).head? =some 48)
noncomputable def kM(k:Nat)(s:List Nat):Bool:=if k=0 then zCj s else if k=1 then decide (s=zEf\/s=zNc\/s=wNo) else if k=2 then true else if k=3 then decide (s= [91]\/s= [123]) else false
noncomputable def qW(k:Nat)(s:List Nat):Bool:=if k=0 then decide (10 ^ 12<(gU s).natAbs) else if k=2 then decide (30<s.length) else false
noncomputable def vM(k:Nat)(s:List Nat):T:=if k=0 then .int (gU s) else if k=1 then(if s=zEf then .non else .bl (decide (s=zNc))) else .str s
inductive Fr where
 | row (us:List T)
 | rcd (ks:List (List Nat)) (us:List T) (nm:List Nat)
inductive Du where
 | thing | first | behind | more | colon | done
structure Mc where
 stk:List Fr
 du:Du
 many:Nat
 whole:T
def Fr.add(t:T):Fr->Fr
 | .row us=>.row (us++ [t])
 | .rcd ks us nm=>.rcd (ks++ [nm]) (us++ [t]) nm
noncomputable def Fr.tree:Fr->T
 | .row us=>.lst us
 | .rcd ks us _=>.dic ks us
noncomputable def Fr.cls:Fr->List Nat
 | .row _=>[93]
 | .rcd _ _ _=>[125]
def xG(stk:List Fr)(m:Nat)(t:T):Mc:=match stk with
 | []=>⟨[], .done,m,t⟩
 | f::r=>⟨f.add t::r, .behind,m, .non⟩
inductive Res where
 | bad (n:Nat)| great | good (t:T)| no
inductive Nx where
 | go (S:Mc)| bad | great | good
noncomputable def zAs:List Fr->Bool
 | .row us::_=>decide (us.length=60)
 | _=>false
noncomputable def thg(stk:List Fr)(m k:Nat)(s:List Nat):Nx:=
 if kM k s=false then .bad
 else if(decide (m=200)||(zAs stk ||(decide (k=3/\stk.length=8)|| qW k s)))=true then .great
 else if k=3 then .go ⟨(if s= [91] then .row [] else .rcd [] [] [])::stk, .first,m+1, .non⟩
 else .go (xG stk (m+1) (vM k s))
def nmd(ks:List (List Nat))(us:List T)(stk:List Fr)(m k:Nat)(s:List Nat):Nx:=
 if k≠1\/s∈ks then .bad else if 12<s.length\/ks.length=30 then .great else .go ⟨.rcd ks us s::stk, .colon,m, .non⟩
noncomputable def inn(stk:List Fr)(m k:Nat)(s:List Nat):Nx:=match stk with
 | .rcd ks us _::r=>nmd ks us r m k s
 | st=>thg st m k s
noncomputable def nxt(S:Mc)(k:Nat)(s:List Nat):Nx:=match S.du with
 | .done=>if k=4 then .good else .bad
 | .colon=>if k=3/\s= [58] then .go {S with du:=.thing} else .bad
 | .thing=>thg S.stk S.many k s
 | .more=>inn S.stk S.many k s
 | .behind=>match S.stk with
  | []=>.bad
  | f::r=>if k=3/\s=f.cls then .go (xG r S.many f.tree) else if k=3/\s= [44] then .go {S with du:=.more} else .bad
 | .first=>match S.stk with
  | []=>.bad
  | f::r=>if k=3/\s=f.cls then .go (xG r S.many f.tree) else inn (f::r) S.many k s
noncomputable def run:Mc->List Lk->Res
 | _,[]=>.no
 | S,t::l=>match nxt S t.k t.s with
  | .go S'=>run S' l
  | .bad=>.bad t.n
  | .great=>.great
  | .good=>.good S.whole
noncomputable def gK(stk:List Fr)(m:Nat)(l:List Lk):Res:=run ⟨stk, .thing,m, .non⟩ l
theorem jA{S S':Mc}{t:Lk}{l:List Lk}(h:nxt S t.k t.s= .go S'):run S (t::l)=run S' l:=by
 show(match nxt S t.k t.s with | .go S'=>run S' l | .bad=>.bad t.n | .great=>.great | .good=>.good S.whole)=_
 rw[h]
theorem vI{S:Mc}{t:Lk}{l:List Lk}(h:nxt S t.k t.s= .bad):run S (t::l)= .bad t.n:=by
 show(match nxt S t.k t.s with | .go S'=>run S' l | .bad=>.bad t.n | .great=>.great | .good=>.good S.whole)=_
 rw[h]
theorem zAh{S:Mc}{t:Lk}{l:List Lk}(h:nxt S t.k t.s= .great):run S (t::l)= .great:=by
 show(match nxt S t.k t.s with | .go S'=>run S' l | .bad=>.bad t.n | .great=>.great | .good=>.good S.whole)=_
 rw[h]
theorem zGz{S:Mc}{t:Lk}{l:List Lk}(h:nxt S t.k t.s= .good):run S (t::l)= .good S.whole:=by
 show(match nxt S t.k t.s with | .go S'=>run S' l | .bad=>.bad t.n | .great=>.great | .good=>.good S.whole)=_
 rw[h]
theorem zQq{S S':Mc}{t:Lk}{l:List Lk}(h:nxt S t.k t.s=nxt S' t.k t.s)(hg:nxt S t.k t.s≠ .good):run S (t::l)=run S' (t::l):=by
 show(match nxt S t.k t.s with | .go S'=>run S' l | .bad=>.bad t.n | .great=>.great | .good=>.good S.whole)=(match nxt S' t.k t.s with | .go S'=>run S' l | .bad=>.bad t.n | .great=>.great | .good=>.good S'.whole)
 rw[<-h]
 cases e:nxt S t.k t.s with
 | good=>exact absurd e hg
 | _=>rfl
def OkL(t:Lk):Prop:=t.s.length<=20000/\(t.k=0/\(∃s fs,t.s=s++fs/\(s= []\/s= [45])/\fs≠ []/\∀c∈fs,c∈xD)\/t.k=1/\(∃c r,t.s=c::r/\c∈vB/\∀d∈r,d∈vB++xD)\/(t.k=2/\∀c∈t.s,c∈vE)\/(t.k=3/\∃c,t.s= [c]/\c∈mkL)\/(t.k=4/\t.s= [])\/t.k=5)
theorem zVt(c:Nat):c∈xD↔48<=c/\c<=57:=by
 constructor
 ·intro h
  have:∀c∈xD,48<=c/\c<=57:=by decide+kernel
  exact this c h
 ·rintro⟨h1,h2⟩
  have:∀c:Nat,c<58->48<=c->c∈xD:=by decide+kernel
  exact this c (by lia) h1
theorem vK{s:List Nat}(h:∃z fs,s=z++fs/\(z= []\/z= [45])/\fs≠ []/\∀c∈fs,c∈xD):∃fs,fs≠ []/\(∀c∈fs,48<=c/\c<=57)/\zSw s=fs/\((s=fs/\gU s=((NumText.digitsVal fs:Nat):Int))\/(s=45::fs/\gU s= -((NumText.digitsVal fs:Nat):Int))):=by
 obtain⟨z,fs,rfl,hz,hf,hc⟩:=h;have hc':∀c∈fs,48<=c/\c<=57:=λc h=>(zVt c).mp (hc c h);rcases hz with rfl | rfl
 ·rw[nH]
  cases fs with
  | nil=>exact absurd rfl hf
  | cons c r=>
   have h45:c≠45:=by have:=hc' c mH;lia
   have e1:zSw (c::r)=c::r:=by unfold zSw;split<;>simp_all
   have e2:gU (c::r)=((NumText.digitsVal (c::r):Nat):Int):=by unfold gU;split<;>simp_all
   exact⟨c::r,hf,hc',e1, .inl ⟨rfl,e2⟩⟩
 ·exact⟨fs,hf,hc',rfl, .inr ⟨rfl,rfl⟩⟩
theorem zEp{s:List Nat}(h:∃z fs,s=z++fs/\(z= []\/z= [45])/\fs≠ []/\∀c∈fs,c∈xD)(hl:s.length<=4300):PySem.intText? (tx s)=some (gU s):=by
 obtain⟨fs,hf,hc,_,⟨rfl,e⟩|⟨rfl,e⟩⟩:=vK h
 ·rw[e]
  exact PySem.intText_digits (x:=tx s) hc hf (by rw[zU];exact hl)
 ·rw[e]
  exact PySem.intText_neg (x:=tx (45::fs)) (cs:=fs) rfl hc hf (by rw[zU];exact hl)
end K26
namespace K26
open PySem L2 PySem.W
seal L2.PSs L2.PS L2.PE L2.PT L2.PW L2.PA L2.PI L2.PG L2.PGs L2.PPs L2.PTs
abbrev zYw:Stmt:=top 13
abbrev zZq:Stmt:=top 35
abbrev zZv:Stmt:=top 36
noncomputable def kR:Nat->Str
 | 4=>Str.ofString "end"
 | 5=>Str.ofString "stray"
 | k=>kS k
theorem zBa(fs:List Nat)(c:Nat):NumText.digitsVal (fs++ [c])=NumText.digitsVal fs*10+(c - 48):=by
 unfold NumText.digitsVal;rw[List.foldl_append];rfl
theorem zBi{P:List Nat->Prop}(h0:P [])(hs:∀r c,P r->P (r++ [c]))(r:List Nat):P r:=by
 have key:∀(n:Nat)(r:List Nat),r.length=n->P r:=by
  intro n
  induction n with
  | zero=>intro r h;rw[pB h];exact h0
  | succ n ih=>
   intro r h;rcases List.eq_nil_or_concat r with e |⟨r',c,e⟩
   ·rw[e] at h;cases h
   ·rw[List.concat_eq_append] at e
    rw[e];exact hs r' c (ih r' (by rw[e,mC] at h;simpa using h))
 exact key _ r rfl
theorem zTz{d:Nat}(hd:49<=d)(r:List Nat):10 ^ r.length<=NumText.digitsVal (d::r):=by
 refine zBi (P:=λr=>10 ^ r.length<=NumText.digitsVal (d::r)) ?_ (λr c ih=>?_) r
 ·show 1<=0*10+(d - 48);lia
 ·show 10 ^ (r++ [c]).length<=NumText.digitsVal (d::(r++ [c]))
  rw[<-nP,zBa,mC,sB,Nat.pow_succ]
  lia
theorem zUz(fs:List Nat):(∀c∈fs,c<=57)->NumText.digitsVal fs<10 ^ fs.length:=by
 refine zBi (P:=λfs=>(∀c∈fs,c<=57)->NumText.digitsVal fs<10 ^ fs.length) (λ_=>by show 0<1;lia) (λr c ih h=>?_) fs;have h1:=ih λc hc=>h c (sH _ hc);have h2:=h c (nV _ mH);rw[zBa,mC,sB,Nat.pow_succ]
 lia
theorem zLz{s:List Nat}(h:∃z fs,s=z++fs/\(z= []\/z= [45])/\fs≠ []/\∀c∈fs,c∈xD):(gU s).natAbs=NumText.digitsVal (zSw s):=by
 obtain⟨fs,hf,hc,e0,⟨rfl,e⟩|⟨rfl,e⟩⟩:=vK h
 ·rw[e,e0];lia
 ·rw[e,e0];lia
theorem zJk{s:List Nat}(h:∃z fs,s=z++fs/\(z= []\/z= [45])/\fs≠ []/\∀c∈fs,c∈xD)(hb:zCj s=true)(hl:14<s.length):qW 0 s=true:=by
 have ha:=zLz h;obtain⟨fs,hf,hc,e0,hs⟩:=vK h;have hfl:14<=fs.length:=by
  rcases hs with⟨rfl,_⟩|⟨rfl,_⟩
  ·lia
  ·rw[mE] at hl;lia
 cases fs with
 | nil=>exact absurd rfl hf
 | cons d r=>
  have hd:d≠48:=λz=>by
   unfold zCj at hb;rw[e0,z] at hb;have:s≠ [48]:=λw=>by rw[w] at hl;simp at hl
   simp[this] at hb
  have h1:=hc d mH;have h2:=zTz (d:=d) (by lia) r;have h3:10 ^ 13<=10 ^ r.length:=aH (by decide) (by rw[mE] at hfl;lia);show decide (10 ^ 12<(gU s).natAbs)=true;rw[ha,e0];exact nB (by lia)
section
variable{P:Program}{w:World}{K:PySem.W.Frag}{mg:Str->Option Value}{base:Heap}{f:Addr}{fd:FuncData}{wa C2:Addr}
def zZd:Sp:=λ_ _ _ _=>False
theorem ok_no{k:Nat}{ps:List Str}:FnOk P w K mg base CX0 k f fd ps zZd:=⟨λ_ _ _ _ h=>h.elim,λ_ _ _ _ _ _ _ _ _ _ _ _ _ h=>h.elim⟩
def zWr:Sp:=λvs H Q _=>(∃i:Int,vs= [.int i]/\∀H',Same H H'->Q (.bl (decide (i.natAbs<=10 ^ 12))) H')\/∃x,vs= [.str (tx x)]/\(∀c∈x,c∈vE)/\x.length<=20000/\∀H',Same H H'->Q (.bl (decide (x.length<=30))) H'
theorem scSnd:zV ["thing","kind"] ["thing"] (zO zYw):=by walk_at "sc"
theorem zYf(F:Fun K "is_sound_outside" "is_sound_outside" zYw f fd)(B:Bl5 mg)(M:Ms mg)(Gkind_of:Dn P w K mg base 1 "kind_of" ["thing"] zSh)(Gis_text_sign:Dn P w K mg base 1 "is_text_sign" ["sign"] zHy)(Gis_name:Dn P w K mg base 1 "is_name" ["thing"] zZd):FnOk P w K mg base CX0 2 f fd ["thing"] zWr:=by
 refine F.ok scSnd (λvs H Q E h=>?_) (λc A o s H vs Q E hr h=>?_)
 ·rcases h with⟨i,rfl,_⟩|⟨x,rfl,_⟩<;>rfl
 have nd:=scSnd.nd;rcases h with⟨i,rfl,q⟩|⟨x,rfl,hx,hl,q⟩
 ·refine⟨_,(zD (pS 1 nd (pD Gkind_of hr (zA (pv 0) zB)))
  (zD (zQ (zK zS (pv 1) zC (zJ _)) (zG (zM (zW zAp (zP zJg rfl B.abs zPq (zA (pv 0) zB)) (zI zCd zE zE) (zJ _)))) zL)
  (zD (zQ (zK zS (pv 1) zC (zJ _)) (zG (zM (xV (zW zAp (zP yE rfl B.len yH (zA (pv 0) zB)) (qN rfl M.MOST_IN_TEXT) (zJ _)) (xI (zP (wB rfl) rfl B.all qY (zA (vF (own:=["sign"]) (F:=[]) ⟨rfl,by walk_at "wu",by walk_at "wu",by walk_at "wu", .nil⟩ rfl (zCb (pv 0)) (λ_ _ _ _=>yO (i:=0) (by show(qR ["sign"] []).Nodup;decide+kernel) rfl (pR rfl)) (λ_ _ _ _=>wR) (λ_ _ _ _=>(pD Gis_text_sign hr (zA (pv 0) zB)))) zB)))))) zL)
  (zD (zQ (zK zS (pv 1) zC (zJ _)) (zG (zM (zW zAp (zP yI rfl B.len yH (zA (pv 0) zB)) (qN rfl M.MOST_IN_ROW) (zJ _)))) zL)
  (zD (zQ (zK zS (pv 1) zC (zJ _)) (zG (zM (xV (zW zAp (zP kI rfl B.len yH (zA (pv 0) zB)) (qN rfl M.MOST_IN_RECORD) (zJ _)) (xI (zP (wB rfl) rfl B.all qY (zA (zGl (vF (own:=["name"]) (F:=[]) ⟨rfl,by walk_at "wu",by walk_at "wu",by walk_at "wu", .nil⟩ rfl (zGk (pv 0)) (λ_ _ _ _=>yO (i:=0) (by show(qR ["name"] []).Nodup;decide+kernel) rfl (pR rfl)) (λ_ _ _ _=>wR) (λ_ _ _ _=>(pD Gis_name hr (zA (pv 0) zB))))) zB)))))) zL)
  (zG (zM (zTi (zMq (pv 1)))))))))), ?_⟩
  walk_at "st";walk_at "rd6";refine⟨_,"int",rfl,rfl,λH1 g1=>⟨by decide+kernel,iP (by decide+kernel) ?_⟩⟩;have z:=q _ g1;rw[show decide (i.natAbs<=10 ^ 12)=decide ((if i<0 then -i else i)<=1000000000000) from by
   rw[pJ];split<;>lia] at z
  exact z
 ·refine⟨_,(zD (pS 1 nd (pD Gkind_of hr (zA (pv 0) zB)))
  (zD (zQ (zK zS (pv 1) zC (zJ _)) (zG (zM (zW zAp (zP zJg rfl B.abs zPq (zA (pv 0) zB)) (zI zCd zE zE) (zJ _)))) zL)
  (zD (zQ (zK zS (pv 1) zC (zJ _)) (zG (zM (xV (zW zAp (zP yE rfl B.len yH (zA (pv 0) zB)) (qN rfl M.MOST_IN_TEXT) (zJ _)) (xI (zP (wB rfl) rfl B.all qY (zA (vF (own:=["sign"]) (F:=[]) ⟨rfl,by walk_at "wu",by walk_at "wu",by walk_at "wu", .nil⟩ rfl (zCb (pv 0)) (λ_ _ _ _=>yO (i:=0) (by show(qR ["sign"] []).Nodup;decide+kernel) rfl (pR rfl)) (λ_ _ _ _=>wR) (λ_ _ _ _=>(pD Gis_text_sign hr (zA (pv 0) zB)))) zB)))))) zL)
  (zD (zQ (zK zS (pv 1) zC (zJ _)) (zG (zM (zW zAp (zP yI rfl B.len yH (zA (pv 0) zB)) (qN rfl M.MOST_IN_ROW) (zJ _)))) zL)
  (zD (zQ (zK zS (pv 1) zC (zJ _)) (zG (zM (xV (zW zAp (zP kI rfl B.len yH (zA (pv 0) zB)) (qN rfl M.MOST_IN_RECORD) (zJ _)) (xI (zP (wB rfl) rfl B.all qY (zA (zGl (vF (own:=["name"]) (F:=[]) ⟨rfl,by walk_at "wu",by walk_at "wu",by walk_at "wu", .nil⟩ rfl (zGk (pv 0)) (λ_ _ _ _=>yO (i:=0) (by show(qR ["name"] []).Nodup;decide+kernel) rfl (pR rfl)) (λ_ _ _ _=>wR) (λ_ _ _ _=>(pD Gis_name hr (zA (pv 0) zB))))) zB)))))) zL)
  (zG (zM (zTi (zMq (pv 1)))))))))), ?_⟩
  walk_at "st";walk_at "rd6";refine⟨_,"str",rfl,rfl,λH1 g1=>⟨by decide+kernel,iN (by decide+kernel) ⟨by decide+kernel,iP (by decide+kernel) ⟨by rw[zU];lia, ?_⟩⟩⟩⟩
  by_cases hl30:x.length<=30
  ·rw[nB hl30] at q
   refine iP (by rw[zU];lia) (zBe (λi ys H'=>Same H1 H'/\ys=(((ts (tx x)).take i).map λc=>decide (c∈vE)).map V.bl) (by rw[yK,mJ];lia) ⟨Same.refl _,rfl⟩ ?_ ?_)
   ·rintro i d ys H' hd _ ⟨hS,rfl⟩
    walk_at "rd6";refine⟨d,rfl,λH3 g3=>⟨hS.trans g3, ?_⟩⟩;have e:(ts (tx x)).take (i+1)=(ts (tx x)).take i++ [d]:=by rw[List.take_add_one,hd];rfl
    rw[e];simp only[pL,nD,pV]
   ·rintro ys H' hl' ⟨hS,rfl⟩ p hp
    refine⟨p,rfl,_,SqL.of zF, ?_⟩;have z:=q _ (g1.trans (hS.trans (zH hp (.lst ((((ts (tx x)).take (ts (tx x)).length).map λc=>decide (c∈vE)).map V.bl)))));rw[sQ] at z⊢;rw[show(true:Bool)=((ts (tx x)).map λc=>decide (c∈vE)).all id from by
     rw[yK,aT];exact(pX.mpr λc hc=>nB (hx c hc)).symm] at z
    exact z
  ·rw[mM hl30] at q
   exact iN (by rw[zU];lia) (q _ g1)
def zPd:Sp:=λvs H Q _=>∃t:Lk,vs= [.str (kR t.k), .str (tx t.s)]/\OkL t/\Q (.bl (kM t.k t.s)) H
theorem scBeg:zV ["kind","string"] ["kind","string"] (zO zZq):=by walk_at "sc"
theorem tx_is{s:List Nat}{z:Str}:tx s=z↔s=ts z:=⟨λh=>by rw[<-h,yK],λh=>by rw[h,qP]⟩
theorem zYv(F:Fun K "begins_thing" "begins_thing" zZq f fd)(B:Bl mg)(W:Wd P w K mg wa):FnOk P w K mg base CX0 1 f fd ["kind","string"] zPd:=by
 refine F.ok scBeg (by walk_at "ln") λc A o s H vs Q E hr h=>?_;obtain⟨⟨k,z,n⟩,rfl,⟨hlen,hb⟩,q⟩:=h;have nd:=scBeg.nd;dsimp only at hb q hlen;refine⟨_,(zD (zQ (zK zS (pv 0) zC (zJ _)) (zG (zM (zAq (zW zS (pv 1) zC (zJ _)) (xI (zW qD (zR vO (wG pT PySem.F.slot_str_lstrip PySem.F.type_str_lstrip zNa (pv 1) (zA zC zB)) zE (λ_ _=>rfl)) zC (zJ _)))))) zL)
  (zD (zQ (zK zS (pv 0) zC (zJ _)) (zG (zM (zW (zPk W) (pv 1) (zXe rfl W.at_) (by with_unfolding_all rfl)))) zL)
  (zD (zQ (zK zS (pv 0) zC (zJ _)) (zG (zM (zW wS (pv 1) zC (by with_unfolding_all rfl)))) zL)
  (zG (zM (zW zS (pv 0) zC (zJ _))))))), ?_⟩
 walk_at "st";walk_at "rd6";rcases hb with⟨rfl,hz⟩|⟨rfl,hz⟩|⟨rfl,hz⟩|⟨rfl,c,rfl,hc⟩|⟨rfl,rfl⟩| rfl
 ·refine iP rfl ?_
  have hq:Q (.bl (zCj z)) H:=q
  by_cases h0:tx z=Str.ofString "0"
  ·refine iP h0 ?_
   have e:z= [48]:=(tx_is.mp h0).trans (by decide+kernel);rw[show zCj z=true from by rw[e];rfl] at hq;exact hq
  refine iN h0 ⟨rfl,tx z,Str.ofString "-",rfl,rfl,by rw[zU,mJ];lia, ?_⟩;have h0':z≠ [48]:=λe=>h0 (by rw[e];decide+kernel);obtain⟨fs,hf,hfc,em,hs⟩:=vK hz
  cases fs with
  | nil=>exact absurd rfl hf
  | cons d r=>
   have hd5:=hfc d mH;have ez:∃s0,(s0= []\/s0= [45])/\z=s0++d::r:=by
    rcases hs with⟨e,_⟩|⟨e,_⟩
    ·exact⟨[], .inl rfl,e⟩
    ·exact⟨[45], .inr rfl,e⟩
   obtain⟨s0,hs0,e⟩:=ez;rw[e,zEo,zFm hs0 (by lia)];have hl2:(d::r).length<=20000:=by rw[e,mC] at hlen;lia
   refine xU (by rw[zU,mJ];lia) (c:=d) (yF (j:=0) rfl) ⟨rfl, ?_⟩;rw[show(!decide (V.str (tx [d])=V.str (Str.ofString "0")))=zCj z from by
    unfold zCj;rw[em,mM h0',tP]
    congr 1
    rw[pJ];constructor
    ·intro y
     injection y with y;have:=tx_is.mp y;have e3:ts (Str.ofString "0")= [48]:=by decide+kernel
     rw[e3] at this;rw[(List.cons.inj this).1];rfl
    ·intro y
     have:d=48:=nU y;rw[this];exact congrArg V.str (by decide+kernel)]
   exact hq
 ·refine iN (by decide+kernel) (iP rfl ⟨_,rfl,rfl, ?_⟩)
  rw[show(xM zBd (Sum.inr (tx z))).isSome=kM 1 z from ?_]
  ·exact q
  ·show _=decide (z=zEf\/z=zNc\/z=wNo)
   rw[tQ,cQ];constructor
   ·intro y
    by_cases e1:tx z=Str.ofString "none"
    ·exact .inl (tx_is.mp e1)
    by_cases e2:tx z=Str.ofString "yes"
    ·exact .inr (.inl (tx_is.mp e2))
    by_cases e3:tx z=Str.ofString "no"
    ·exact .inr (.inr (tx_is.mp e3))
    exfalso
    have ne:∀a:Str,tx z≠a->decide ((Sum.inr a:Key)=Sum.inr (tx z))=false:=λa h=>mM λw=>h (Sum.inr.inj w).symm;unfold zBd xM at y;rw[bC (by rw[ne _ e1];decide),bC (by rw[ne _ e2];decide),bC (by rw[ne _ e3];decide)] at y;cases y
   ·rintro(e | e | e)<;>rw[e]<;>decide+kernel
 ·refine iN (show¬kS 2=Str.ofString "number" by decide+kernel) (iN (show¬kS 2=Str.ofString "word" by decide+kernel) (iN (show¬kS 2=Str.ofString "mark" by decide+kernel) ?_))
  rw[show decide (kR 2=Str.ofString "text")=true from nB rfl];exact q
 ·refine iN (by decide+kernel) (iN (by decide+kernel) (iP rfl ⟨c,rfl, ?_⟩))
  rw[show decide (c∈ts (Str.ofString "[{"))=kM 3 [c] from by
   show _=decide ([c]= [91]\/ [c]= [123]);rw[show ts (Str.ofString "[{")= [91,123] by decide+kernel,pJ];simp]
  exact q
 ·refine iN (by decide+kernel) (iN (by decide+kernel) (iN (by decide+kernel) ?_))
  rw[show decide (kR 4=Str.ofString "text")=false from by decide+kernel];exact q
 ·refine iN (by decide+kernel) (iN (by decide+kernel) (iN (by decide+kernel) ?_))
  rw[show decide (kR 5=Str.ofString "text")=false from by decide+kernel];exact q
end
end K26
namespace K26
open PySem L2 PySem.W
seal L2.PSs L2.PS L2.PE L2.PT L2.PW L2.PA L2.PI L2.PG L2.PGs L2.PPs L2.PTs
section
variable{P:Program}{w:World}{K:PySem.W.Frag}{mg:Str->Option Value}{base:Heap}{f:Addr}{fd:FuncData}{wa C2:Addr}
def XGr(C2:Addr)(H:Hp)(E:XK):Prop:=∀H',Same H H'->E (.ref C2) none H'
def zSb(C2:Addr):Sp:=λvs H Q E=>∃t:Lk,vs= [.str (kR t.k), .str (tx t.s)]/\OkL t/\kM t.k t.s=true/\t.k≠3/\(qW t.k t.s=false->∀v H',Same H H'->(∀Hx,Rep Hx v (vM t.k t.s))->Q v H')/\(qW t.k t.s=true->XGr C2 H E)
theorem scPln:zV ["kind","string","thing"] ["kind","string"] (zO zZv):=by walk_at "sc"
theorem zYp(F:Fun K "plain_thing" "plain_thing" zZv f fd)(B:Bl mg)(M:Ms mg)(W:Wd P w K mg wa)(Gis_sound_outside:Dn P w K mg base 2 "is_sound_outside" ["thing"] zWr)(RTooGreat:Xr0 K mg "TooGreat" C2):FnOk P w K mg base (CXE nC P w) 3 f fd ["kind","string"] (zSb C2):=by
 refine F.okx scPln (by walk_at "ln") λc A o s H vs Q E hr h=>?_;obtain⟨⟨k,z,n⟩,rfl,⟨hlen,hz⟩,hb,h3,q,qx⟩:=h;have nd:=scPln.nd;dsimp only at hz q hlen hb h3 qx;refine⟨_,(zD (zQ (zK zS (pv 0) zC (zJ _)) (zG (zM (pe_kd W (zXe rfl W.at_) (pv 1) (λ_ _=>rfl)))) zL)
  (zD (zQ (PW.pt (qJ (zK zS (pv 0) zC (zJ _)) (vJ (zK wW (zP yE rfl B.len yH (zA (pv 1) zB)) (qN rfl M.MOST_IN_NUMBER) (zJ _))))) (zG (vL RTooGreat rfl rfl lvs (zA zC zB))) zL)
  (zD (pS 2 nd (qO (zK zS (pv 0) zC (zJ _)) (yM uR rfl B.int xH (zA (pv 1) zB)) (pv 1)))
  (zD (zQ (vY (yT (pD Gis_sound_outside hr (zA (pv 2) zB)))) (zG (vL RTooGreat rfl rfl lvs (zA zC zB))) zL)
  (zG (zM (pv 2))))))), ?_⟩
 walk_at "st";unfold qL;walk_at "rd6";rcases hz with⟨rfl,hz⟩|⟨rfl,hz⟩|⟨rfl,hz⟩|⟨rfl,c,rfl,hc⟩|⟨rfl,rfl⟩| rfl
 ·refine iN (by decide+kernel) (iP rfl ⟨by rw[zU];lia, ?_⟩)
  rw[zU]
  by_cases h14:(14:Int)<(z.length:Int)
  ·exact iP h14 (qx (zJk hz hb (by lia)) _ (Same.refl _))
  refine iN h14 (iP rfl ⟨gU z,zEp hz (by lia),by lia, .inl ⟨gU z,rfl,λH1 g1=>⟨_,rfl, ?_⟩⟩⟩)
  by_cases hc:(gU z).natAbs<=10 ^ 12
  ·rw[nB hc]
   exact iN (by decide) (q (mM (by lia)) _ _ g1 λ_=>rfl)
  ·rw[mM hc]
   exact iP rfl (qx (nB (by lia)) _ g1)
 ·have hw:z=zEf\/z=zNc\/z=wNo:=tY hb
  have qq:=q rfl;rcases hw with rfl | rfl | rfl
  ·exact iP rfl ⟨_,_,rfl,rfl,by decide+kernel,qq .non _ (Same.refl _) λ_=>rfl⟩
  ·exact iP rfl ⟨_,_,rfl,rfl,by decide+kernel,qq (.bl true) _ (Same.refl _) λ_=>by
    show V.bl true=V.bl true;rfl⟩
  ·exact iP rfl ⟨_,_,rfl,rfl,by decide+kernel,qq (.bl false) _ (Same.refl _) λ_=>by
    show V.bl false=V.bl false;rfl⟩
 ·refine iN (show¬kS 2=Str.ofString "word" by decide+kernel) (iN (show¬kS 2=Str.ofString "number" by decide+kernel) (iN (show¬kS 2=Str.ofString "number" by decide+kernel) (.inr ⟨z,rfl,hz,hlen,λH1 g1=>⟨_,rfl, ?_⟩⟩)))
  by_cases hc:z.length<=30
  ·rw[nB hc]
   exact iN (by decide) (q (mM (by lia)) _ _ g1 λ_=>rfl)
  ·rw[mM hc]
   exact iP rfl (qx (nB (by lia)) _ g1)
 ·exact absurd rfl h3
 ·cases hb
 ·cases hb
end
end K26
namespace K26
open PySem L2 PySem.W
seal L2.PSs L2.PS L2.PE L2.PT L2.PW L2.PA L2.PI L2.PG L2.PGs L2.PPs L2.PTs
def zAm(s:Stmt)(i:Nat):Stmt:=match s with
 | .ClassDef _ _ _ b _ _ _ _ _ _ _=>b.getD i (.Pass ⟨0,0,0,0⟩)
 | _=>s
abbrev sRi:Stmt:=zAm (top 34) 0
abbrev sRp:Stmt:=zAm (top 34) 1
abbrev sRo:Stmt:=zAm (top 34) 2
noncomputable def rO(C dx fl:Addr)(p b:Nat):HO:=.ins C dx [("found", .ref fl),("place", .int p),("begun", .int b)]
structure Rc(K:PySem.W.Frag)(C:Addr):Prop where
 cls:Cls K C
 nf:NoAttr K C "found"
 np:NoAttr K C "place"
 nb:NoAttr K C "begun"
theorem zPz:((Str.ofString "place")==(Str.ofString "found"))=false:=by decide+kernel
theorem zRs:((Str.ofString "begun")==(Str.ofString "found"))=false:=by decide+kernel
theorem zRx:((Str.ofString "begun")==(Str.ofString "place"))=false:=by decide+kernel
theorem zVv{x y z:V}:List.lookup (Str.ofString "found") [(Str.ofString "found",x),(Str.ofString "place",y),(Str.ofString "begun",z)]=some x:=by
 rw[nZ,tI]
theorem zKh{x y z:V}:List.lookup (Str.ofString "place") [(Str.ofString "found",x),(Str.ofString "place",y),(Str.ofString "begun",z)]=some y:=by
 rw[nZ,zPz,nZ,tI]
theorem lk_b{x y z:V}:List.lookup (Str.ofString "begun") [(Str.ofString "found",x),(Str.ofString "place",y),(Str.ofString "begun",z)]=some z:=by
 rw[nZ,zRs,nZ,zRx,nZ,tI]
theorem qE{m:Str}{x y z:V}(h1:(m==(Str.ofString "found"))=false)(h2:(m==(Str.ofString "place"))=false)(h3:(m==(Str.ofString "begun"))=false):List.lookup m [(Str.ofString "found",x),(Str.ofString "place",y),(Str.ofString "begun",z)]=none:=by
 rw[nZ,h1,nZ,h2,nZ,h3];rfl
theorem zAi{a b:Str}(h:(a==b)=false):¬b=a:=λz=>by rw[z,tI] at h;cases h
theorem zXr{x y z v:V}:wC (Str.ofString "place") v [(Str.ofString "found",x),(Str.ofString "place",y),(Str.ofString "begun",z)]= [(Str.ofString "found",x),(Str.ofString "place",v),(Str.ofString "begun",z)]:=by
 unfold wC;rw[mG (zAi zPz)];unfold wC;rw[mL rfl]
theorem pf_b{x y z v:V}:wC (Str.ofString "begun") v [(Str.ofString "found",x),(Str.ofString "place",y),(Str.ofString "begun",z)]= [(Str.ofString "found",x),(Str.ofString "place",y),(Str.ofString "begun",v)]:=by
 unfold wC;rw[mG (zAi zRs)];unfold wC;rw[mG (zAi zRx)];unfold wC;rw[mL rfl]
theorem pf_1{x v:V}:wC (Str.ofString "place") v [(Str.ofString "found",x)]= [(Str.ofString "found",x),(Str.ofString "place",v)]:=by
 unfold wC;rw[mG (zAi zPz)];rfl
theorem pf_2{x y v:V}:wC (Str.ofString "begun") v [(Str.ofString "found",x),(Str.ofString "place",y)]= [(Str.ofString "found",x),(Str.ofString "place",y),(Str.ofString "begun",v)]:=by
 unfold wC;rw[mG (zAi zRs)];unfold wC;rw[mG (zAi zRx)];rfl
def TkAt(H:Hp)(xs:List V)(p:Nat)(k s:Str):Prop:=∃(a:Addr)(n:Int),xs[p]? =some (.ref a)/\H a=some (.tup [.str k, .str s, .int n])
def LkAt(H:Hp)(xs:List V)(p:Nat)(t:Lk):Prop:=∃a:Addr,xs[p]? =some (.ref a)/\H a=some (.tup [.str (kR t.k), .str (tx t.s), .int t.n])
def Lka(H:Hp)(xs:List V)(p:Nat)(l:List Lk):Prop:=∀(i:Nat) t,l[i]? =some t->LkAt H xs (p+i) t
theorem Lka.head{H:Hp}{xs:List V}{p:Nat}{t:Lk}{l:List Lk}(h:Lka H xs p (t::l)):LkAt H xs p t:=h 0 t rfl
theorem Lka.tail{H:Hp}{xs:List V}{p:Nat}{t:Lk}{l:List Lk}(h:Lka H xs p (t::l)):Lka H xs (p+1) l:=λi u e=>by
 have:=h (i+1) u (by simpa using e)
 rwa [show p+(i+1)=p+1+i by lia] at this
theorem LkAt.tk{H:Hp}{xs:List V}{p:Nat}{t:Lk}(h:LkAt H xs p t):TkAt H xs p (kR t.k) (tx t.s):=by
 obtain⟨a,h1,h2⟩:=h;exact⟨a,_,h1,h2⟩
section
variable{P:Program}{w:World}{K:PySem.W.Frag}{mg:Str->Option Value}{base:Heap}{f:Addr}{fd:FuncData}{C:Addr}
def zXu(C:Addr):Sp:=λvs H Q _=>∃(r dx fl:Addr),vs= [.ref r, .ref fl]/\H r=some (.ins C dx [])/\Q .non (upd (upd (upd H r (.ins C dx [("found", .ref fl)])) r (.ins C dx [("found", .ref fl),("place", .int 0)])) r (rO C dx fl 0 0))
theorem scRi:zV ["self","found"] ["self","found"] (zO sRi):=by walk_at "sc"
theorem ok_ri(F:Fun K "__init__" "Reader.__init__" sRi f fd)(R:Rc K C):FnOk P w K mg base CX0 1 f fd ["self","found"] (zXu C):=by
 refine F.ok scRi (by walk_at "ln") λc A o s H vs Q E hr h=>?_;obtain⟨r,dx,fl,rfl,hR,q⟩:=h;have nd:=scRi.nd;refine⟨_,(zD (zKr (pv 0) (pv 1) rfl)
  (zD (zKr (pv 0) zE rfl)
  (zG (zKr (pv 0) zE rfl)))), ?_⟩
 walk_at "st";walk_at "rd6";refine⟨C,dx,[],hR,R.cls,R.nf,by decide,C,dx,[(Str.ofString "found", .ref fl)],zF,R.cls,R.np,by simp, ?_⟩;rw[pf_1];refine⟨C,dx,[(Str.ofString "found", .ref fl),(Str.ofString "place", .int 0)],zF,R.cls,R.nb,by simp, ?_⟩;rw[pf_2];exact q
def zOa(C:Addr):Sp:=λvs H Q _=>∃(r dx fl:Addr)(p b:Nat)(xs:List V)(k s k' s':Str),vs= [.ref r, .str k, .str s]/\H r=some (rO C dx fl p b)/\H fl=some (.lst xs)/\TkAt H xs p k' s'/\
 (k'=k/\s'=s->Q (.bl true) (upd H r (rO C dx fl (p+1) b)))/\(¬(k'=k/\s'=s)->Q (.bl false) H)
theorem scRp:zV ["self","kind","string","token"] ["self","kind","string"] (zO sRp):=by walk_at "sc"
theorem ok_ps(F:Fun K "passes" "Reader.passes" sRp f fd)(R:Rc K C):FnOk P w K mg base CX0 1 f fd ["self","kind","string"] (zOa C):=by
 refine F.ok scRp (by walk_at "ln") λc A o s H vs Q E hr h=>?_;obtain⟨r,dx,fl,p,b,xs,k,s0,k',s',rfl,hR,hfl,⟨a,n,hxa,ha⟩,q1,q2⟩:=h;have nd:=scRp.nd;refine⟨_,(zD (pS 3 nd (zR zY (qZ (pv 0) rfl) (qZ (pv 0) rfl) (λ_ _=>rfl)))
  (zD (zQ (PW.pt (jV (zK qD (zR yC (pv 3) zE (λ_ _=>rfl)) (pv 1) (zJ _)) (vZ (zK qD (zR yC (pv 3) zE (λ_ _=>rfl)) (pv 2) (zJ _))))) (zG (zM vQ)) zL)
  (zD (kC (pv 0) zE zBo)
  (zG (zM vQ))))), ?_⟩
 walk_at "st";walk_at "rd6";refine⟨C,dx,_,hR,R.cls,R.nf,_,zVv,C,dx,_,hR,R.cls,R.np,_,zKh,zZ (SqL.of hfl) (yF hxa) (yD (SqT.of ha) (v:=.str k') rfl ⟨rfl, ?_⟩)⟩
 by_cases hk:k'=k
 ·subst hk
  refine⟨false,by simp,gL (yD (SqT.of ha) (v:=.str s') rfl ⟨rfl, ?_⟩)⟩
  by_cases hs:s'=s0
  ·subst hs
   refine⟨false,by simp,gL ?_⟩;refine⟨C,dx,_,hR,R.cls,R.np,_,zKh,p,rfl,dx,_,hR,by simp, ?_⟩;rw[zXr,show((p:Int)+1)=((p+1:Nat):Int) by lia];exact q1 ⟨rfl,rfl⟩
  ·exact⟨true,by simp[hs],zDl (q2 λz=>hs z.2)⟩
 ·exact⟨true,by simp[hk],zDl (q2 λz=>hk z.1)⟩
end
structure Rm(r:Addr)(H H':Hp):Prop where
 same:∀b o,b≠r->H b=some o->H' b=some o
 r0:∃o,H r=some o
 r1:∃o,H' r=some o
theorem Rm.refl{r:Addr}{H:Hp}{o:HO}(h:H r=some o):Rm r H H:=⟨λ_ _ _ e=>e,⟨o,h⟩,⟨o,h⟩⟩
theorem Rm.trans{r:Addr}{H H1 H2:Hp}(a:Rm r H H1)(b:Rm r H1 H2):Rm r H H2:=⟨λc o n e=>b.same c o n (a.same c o n e),a.r0,b.r1⟩
theorem Rm.put{r:Addr}{H:Hp}{o:HO}(h:H r=some o)(o':HO):Rm r H (upd H r o'):=⟨λb u n e=>by rw[zN n];exact e,⟨o,h⟩,⟨o',zF⟩⟩
theorem Rm.of{r:Addr}{H H':Hp}{o:HO}(h:H r=some o)(g:Same H H'):Rm r H H':=⟨λb u _ e=>g b u e,⟨o,h⟩,⟨o,g _ _ h⟩⟩
theorem Rm.dom{r:Addr}{H H':Hp}(g:Rm r H H'){b:Addr}(h:H' b=none):H b=none:=by
 cases e:H b with
 | none=>rfl
 | some o=>
  by_cases hb:b=r
  ·subst hb
   obtain⟨o',e'⟩:=g.r1;rw[h] at e';cases e'
  ·rw[g.same b o hb e] at h;cases h
theorem Rm.newL{r:Addr}{H H1:Hp}(g:Rm r H H1)(H2:Hp):Same (qV H1 H2) (qV H H2):=λb o e=>by
 have h:=jX e;rw[qC h] at e;rw[qC (g.dom h)];exact e
theorem Rm.newR{r:Addr}{H H1 H2:Hp}(h0:∃o,H r=some o)(g:Rm r H1 H2):Same (qV H H1) (qV H H2):=λb o e=>by
 have h:=jX e;rw[qC h] at e⊢;refine g.same b o (λz=>?_) e;obtain⟨o',h'⟩:=h0;rw[z,h'] at h;cases h
theorem wV{r:Addr}{H H':Hp}{C dx fl:Addr}{p0 b0:Nat}(hR:H r=some (rO C dx fl p0 b0))(g:Rm r H H'){b:Addr}{xs:List V}(h:H b=some (.lst xs)):H' b=some (.lst xs):=g.same b _ (λz=>by rw[z,hR] at h;cases h) h
theorem Rm.new{r a:Addr}{H H':Hp}(g:Rm r H H')(ha:H a=none)(hr:a≠r)(o:HO):Rm r H (upd H' a o):=
 ⟨λb u n e=>by rw[zN (λz=>by rw[z,ha] at e;cases e)];exact g.same b u n e,g.r0,by obtain⟨o',e⟩:=g.r1;exact⟨o',by rw[zN (Ne.symm hr)];exact e⟩⟩
theorem uA{H H':Hp}{a:Addr}{o:HO}:zAe (qV H (upd H' a o)) a=zAe (qV H H') a:=by
 funext b
 by_cases h:b=a
 ·subst h;rw[zAu,zAu]
 ·rw[uC h,uC h]
  unfold qV
  cases H b with
  | none=>show upd H' a o b=H' b;rw[zN h]
  | some _=>rfl
theorem Rm.newA{r a:Addr}{H H3 H4:Hp}{o:HO}(g:Rm r H H3)(ha:H3 a=some o):Same (qV H3 H4) (zAe (qV H H4) a):=λb u e=>by
 have h:=jX e;rw[uC (λz=>by rw[z,ha] at h;cases h)];exact g.newL H4 b u e
theorem LkAt.keep{r:Addr}{H H':Hp}{C dx fl:Addr}{p0 b0:Nat}(hR:H r=some (rO C dx fl p0 b0))(g:Rm r H H'){xs:List V}{p:Nat}{t:Lk}(h:LkAt H xs p t):LkAt H' xs p t:=by
 obtain⟨a,h1,h2⟩:=h;exact⟨a,h1,g.same a _ (λz=>by rw[z,hR] at h2;cases h2) h2⟩
theorem Lka.keep{r:Addr}{H H':Hp}{C dx fl:Addr}{p0 b0:Nat}(hR:H r=some (rO C dx fl p0 b0))(g:Rm r H H'){xs:List V}{p:Nat}{l:List Lk}(h:Lka H xs p l):Lka H' xs p l:=λi t e=>(h i t e).keep hR g
theorem Lka.upd{H:Hp}{xs:List V}{p:Nat}{l:List Lk}{a:Addr}{o o':HO}(h:Lka H xs p l)(ha:H a=some o)(ho:∀ys,o≠ .tup ys):Lka (upd H a o') xs p l:=λi t e=>by
 obtain⟨c,h1,h2⟩:=h i t e;exact⟨c,h1,by rw[zN (λz=>by rw[z,ha] at h2;injection h2 with h2;exact ho _ h2)];exact h2⟩
def XB(CB r:Addr)(n:Nat)(H:Hp)(E:XK):Prop:=∀d H',Rm r H H'->H' d=some (.xd [("at", .int n)])->E (.ref CB) (some d) H'
def XG(C2 r:Addr)(H:Hp)(E:XK):Prop:=∀H',Rm r H H'->E (.ref C2) none H'
theorem XB.rm{CB r:Addr}{n:Nat}{H H1:Hp}{E:XK}(h:XB CB r n H E)(g:Rm r H H1):XB CB r n H1 E:=λd H' g'=>h d H' (g.trans g')
theorem XG.rm{C2 r:Addr}{H H1:Hp}{E:XK}(h:XG C2 r H E)(g:Rm r H H1):XG C2 r H1 E:=λH' g'=>h H' (g.trans g')
theorem XB.of{CB r:Addr}{n:Nat}{H:Hp}{E:XK}{o:HO}(h:XB CB r n H E)(hR:H r=some o):∀d,H d=none->E (.ref CB) (some d) (upd H d (.xd [("at", .int n)])):=λd hd=>h d _ (Rm.of hR (zH hd _)) zF
structure Out(CB C2 r:Addr)(H:Hp)(E:XK)(R:Res):Prop where
 bad:∀n,R= .bad n->XB CB r n H E
 great:R= .great->XG C2 r H E
theorem Out.rm{CB C2 r:Addr}{H H1:Hp}{E:XK}{R:Res}(h:Out CB C2 r H E R)(g:Rm r H H1):Out CB C2 r H1 E R:=⟨λn e=>(h.bad n e).rm g,λe=>(h.great e).rm g⟩
theorem zZu:∀j∈ [0,1,2,3,4,5],∀k∈ [0,1,2,3,4,5],kR j=kR k->j=k:=by decide+kernel
theorem OkL.k{t:Lk}(h:OkL t):t.k∈ [0,1,2,3,4,5]:=by
 obtain⟨_,⟨h,_⟩|⟨h,_⟩|⟨h,_⟩|⟨h,_⟩|⟨h,_⟩| h⟩:=h<;>rw[h]<;>decide
theorem zAo{t:Lk}(h:OkL t){j:Nat}(hj:j∈ [0,1,2,3,4,5]):kR t.k=kR j↔t.k=j:=⟨λz=>zZu _ h.k _ hj z,λz=>by rw[z]⟩
section
variable{P:Program}{w:World}{K:PySem.W.Frag}{mg:Str->Option Value}{base:Heap}{f:Addr}{fd:FuncData}{C CB C2:Addr}
abbrev sRn:Stmt:=zAm (top 34) 7
def zJr(C CB:Addr):Sp:=λvs H Q E=>∃(r dx fl:Addr)(p b:Nat)(xs:List V)(k s:Str)(t:Lk),vs= [.ref r, .str k, .str s]/\H r=some (rO C dx fl p b)/\H fl=some (.lst xs)/\LkAt H xs p t/\(kR t.k=k/\tx t.s=s->Q .non (upd H r (rO C dx fl (p+1) b)))/\(¬(kR t.k=k/\tx t.s=s)->XB CB r t.n H E)
theorem scRo:zV ["self","kind","string"] ["self","kind","string"] (zO sRo):=by walk_at "sc"
theorem ok_po(F:Fun K "pass_over" "Reader.pass_over" sRo f fd)(R:Rc K C)(Dpasses:Dm P w K mg base 1 C "passes" ["self","kind","string"] (zOa C))(RBadText:Xr P w K mg base 1 "BadText" CB):FnOk P w K mg base (CXE nC P w) 3 f fd ["self","kind","string"] (zJr C CB):=by
 refine F.okx scRo (by walk_at "ln") λc A o s H vs Q E hr h=>?_;obtain⟨r,dx,fl,p,b,xs,k,s0,t,rfl,hR,hfl,ht,q,qx⟩:=h;have nd:=scRo.nd;refine⟨_,(zG (zQ (vY (yT (zQg Dpasses hr (by lia) (pv 0) (zA (pv 1) (zA (pv 2) zB))))) (zG (xQ RBadText hr (by lia) rfl rfl lvs (zA zC (zA (zR yC (zR zY (qZ (pv 0) rfl) (qZ (pv 0) rfl) (λ_ _=>rfl)) zE (λ_ _=>rfl)) zB)))) zL)), ?_⟩;walk_at "st";unfold zAy;walk_at "rd6";refine⟨dx,_,hR,qE (by decide+kernel) (by decide+kernel) (by decide+kernel),r,dx,fl,p,b,xs,k,s0,_,_,rfl,hR,hfl,ht.tk,λz=>⟨true,rfl,iN (by decide) (q z)⟩,λz=>⟨false,rfl,iP rfl ?_⟩⟩;obtain⟨a,hxa,ha⟩:=ht;exact⟨C,dx,_,hR,R.cls,R.nf,_,zVv,C,dx,_,hR,R.cls,R.np,_,zKh,zZ (SqL.of hfl) (yF hxa) (yD (SqT.of ha) (v:=.int t.n) rfl ⟨_,_,⟨rfl,rfl⟩,(qx z).of hR⟩)⟩
def zOy(C CB C2:Addr):Sp:=λvs H Q E=>∃(r dx fl q:Addr)(p b:Nat)(xs:List V)(ps:List (Key×V))(t:Lk),vs= [.ref r, .ref q]/\H r=some (rO C dx fl p b)/\H fl=some (.lst xs)/\LkAt H xs p t/\OkL t/\H q=some (.dK ps)/\ps.length<=30/\
 (t.k≠1\/(xM ps (nK t.s)).isSome=true->XB CB r t.n H E)/\(t.k=1->(xM ps (nK t.s)).isSome=false->12<t.s.length\/ps.length=30->XG C2 r H E)/\(t.k=1->(xM ps (nK t.s)).isSome=false->¬(12<t.s.length\/ps.length=30)->Q (.str (tx t.s)) (upd H r (rO C dx fl (p+1) b)))
theorem scRn:zV ["self","record","token"] ["self","record"] (zO sRn):=by walk_at "sc"
theorem ok_nm(F:Fun K "name_here" "Reader.name_here" sRn f fd)(B:Bl mg)(M:Ms mg)(R:Rc K C)(RBadText:Xr P w K mg base 1 "BadText" CB)(RTooGreat:Xr0 K mg "TooGreat" C2):FnOk P w K mg base (CXE nC P w) 3 f fd ["self","record"] (zOy C CB C2):=by
 refine F.okx scRn (by walk_at "ln") λc A o s H vs Q E hr h=>?_;obtain⟨r,dx,fl,q,p,b,xs,ps,t,rfl,hR,hfl,⟨a,hxa,ha⟩,hok,hq,hps,q1,q2,q3⟩:=h;have nd:=scRn.nd;have hu:=uI hr;refine⟨_,(zD (pS 2 nd (zR zY (qZ (pv 0) rfl) (qZ (pv 0) rfl) (λ_ _=>rfl)))
  (zD (zQ (PW.pt (jV (zK qD (zR yC (pv 2) zE (λ_ _=>rfl)) zC (zJ _)) (vZ (zEy (zPc hu (zR yC (pv 2) zE (λ_ _=>rfl)) (pv 1)))))) (zG (xQ RBadText hr (by lia) rfl rfl lvs (zA zC (zA (zR yC (pv 2) zE (λ_ _=>rfl)) zB)))) zL)
  (zD (zQ (PW.pt (jV (zK wW (zP yE rfl B.len yH (zA (zR yC (pv 2) zE (λ_ _=>rfl)) zB)) (qN rfl M.MOST_IN_NAME) (zJ _)) (vZ (zK zS (zP kI rfl B.len yH (zA (pv 1) zB)) (qN rfl M.MOST_IN_RECORD) (zJ _))))) (zG (vL RTooGreat rfl rfl lvs (zA zC zB))) zL)
  (zD (kC (pv 0) zE zBo)
  (zG (zM (zR yC (pv 2) zE (λ_ _=>rfl)))))))), ?_⟩
 walk_at "st";unfold zAy qL;walk_at "rd6";refine⟨C,dx,_,hR,R.cls,R.nf,_,zVv,C,dx,_,hR,R.cls,R.np,_,zKh,zZ (SqL.of hfl) (yF hxa) (yD (SqT.of ha) (v:=.str (kR t.k)) rfl ?_)⟩;have bad:(t.k≠1\/(xM ps (nK t.s)).isSome=true)->zNb K (.ref a) (.int 2) H λx H1=>∃v0 v,(V.str (Str.ofString "no name, or one that the record has already")=v0/\x=v)/\∀(d:Addr),H1 d=none->E (Value.ref CB) (some d) (upd H1 d (HO.xd [(Str.ofString "at",v)])):=λz=>yD (SqT.of ha) (v:=.int t.n) rfl ⟨_,_,⟨rfl,rfl⟩,(q1 z).of hR⟩
 by_cases hk:t.k=1
 ·have ek:kR t.k=Str.ofString "word":=by rw[hk];decide+kernel
  refine⟨rfl,false,by rw[ek];simp,gL ?_⟩;unfold zXw;walk_at "rd6";refine yD (SqT.of ha) (v:=.str (tx t.s)) rfl ⟨xM ps (nK t.s), .inl ⟨ps,nK t.s, .inl hq,rfl,rfl⟩, ?_⟩
  by_cases hv:(xM ps (nK t.s)).isSome=true
  ·exact iP hv (bad (.inr hv))
  refine iN hv ?_;have hv':(xM ps (nK t.s)).isSome=false:=by simpa using hv
  have gr:12<t.s.length\/ps.length=30->E (.ref C2) none H:=λz=>q2 hk hv' z H (Rm.refl hR);refine yD (SqT.of ha) (v:=.str (tx t.s)) rfl ⟨_,rfl,by rw[zU];have:=hok.1;lia, ?_⟩
  by_cases h12:12<t.s.length
  ·exact iP (by rw[zU];lia) (gr (.inl h12))
  refine iN (by rw[zU];lia) ⟨ps, .inl hq, ?_⟩
  by_cases h30:ps.length=30
  ·exact iP (by lia) (gr (.inr h30))
  refine iN (by lia) ⟨C,dx,_,hR,R.cls,R.np,_,zKh,p,rfl,dx,_,hR,by simp, ?_⟩;rw[zXr,show((p:Int)+1)=((p+1:Nat):Int) by lia];refine yD (xs:=[.str (kR t.k), .str (tx t.s), .int t.n]) (SqT.of ?_) (v:=.str (tx t.s)) rfl (q3 hk hv' (by lia));rw[zN (λz=>by rw[z,hR] at ha;cases ha)];exact ha
 ·exact⟨rfl,true,by rw[bF,sL];exact λz=>hk ((zAo hok (j:=1) (by decide)).mp (V.str.inj z)),zDl (bad (.inl hk))⟩
end
end K26
namespace K26
open PySem L2 PySem.W
seal L2.PSs L2.PS L2.PE L2.PT L2.PW L2.PA L2.PI L2.PG L2.PGs L2.PPs L2.PTs
abbrev sRt:Stmt:=zAm (top 34) 3
abbrev sRh:Stmt:=zAm (top 34) 4
abbrev sRr:Stmt:=zAm (top 34) 5
abbrev sRd:Stmt:=zAm (top 34) 6
def OkLs(l:List Lk):Prop:=∀t∈l,OkL t
theorem OkLs.head{t:Lk}{l:List Lk}(h:OkLs (t::l)):OkL t:=h t mH
theorem OkLs.tail{t:Lk}{l:List Lk}(h:OkLs (t::l)):OkLs l:=λu hu=>h u (mR _ hu)
def Gd(r:Addr)(C dx fl:Addr)(xs:List V)(stk:List Fr)(n:Nat)(R:Res)(H:Hp)(Q:VK):Prop:=
 ∀(v:V)(H':Hp)(t:T)(l':List Lk)(p' b':Nat),run (xG stk b' t) l'=R->H' r=some (rO C dx fl p' b')->Rm r H H'->Lka H' xs p' l'->OkLs l'->b'<=200->l'.length<n->Rep (qV H H') v t->Q v H'
theorem zGv{t:Lk}(h:OkL t)(c:List Nat):(kR t.k=Str.ofString "mark"/\tx t.s=tx c)↔(t.k=3/\t.s=c):=by
 constructor
 ·rintro⟨h1,h2⟩
  exact⟨(zAo h (j:=3) (by decide)).mp h1,by rw[<-yK t.s,h2,yK]⟩
 ·rintro⟨h1,h2⟩
  exact⟨by rw[h1];rfl,by rw[h2]⟩
theorem zTj{us:List T}{stk:List Fr}{b:Nat}:∀l:List Lk,run ⟨.row us::stk, .more,b, .non⟩ l=gK (.row us::stk) b l
 | []=>rfl
 | _::_=>rfl
theorem vN{stk:List Fr}{m k:Nat}{s:List Nat}:thg stk m k s≠ .good:=by
 unfold thg;intro h;split at h
 ·cases h
 split at h
 ·cases h
 split at h<;>cases h
def InvD(nl:Nat)(C dx fl r a:Addr)(xs:List V)(stk:List Fr)(R:Res)(H:Hp)(m:Nat)(H2:Hp):Prop:=∃(pl b2:Nat)(l2:List Lk)(ks:List (List Nat))(us:List T)(nm:List Nat)(ps:List (Key×V)),m=l2.length/\l2.length<=nl/\Rm r H H2/\H2 r=some (rO C dx fl pl b2)/\Lka H2 xs pl l2/\OkLs l2/\b2<=200/\ks.length<=30/\run ⟨.rcd ks us nm::stk,(if ks= [] then .first else .behind),b2, .non⟩ l2=R/\H2 a=some (.dK ps)/\ps.map (·.1)=ks.map nK/\Reps (zAe (qV H H2) a) (ps.map (·.2)) us
theorem jU{ks:List (List Nat)}{us:List T}{stk:List Fr}{m k:Nat}{s:List Nat}:nmd ks us stk m k s≠ .good:=by
 unfold nmd;intro h;split at h
 ·cases h
 split at h<;>cases h
section
variable{P:Program}{w:World}{K:PySem.W.Frag}{mg:Str->Option Value}{base:Heap}{f:Addr}{fd:FuncData}{C CB C2 wa:Addr}
def zDm(C CB C2:Addr)(n:Nat):Sp:=λvs H Q E=>∃(r dx fl:Addr)(p b:Nat)(xs:List V)(stk:List Fr)(l:List Lk),vs= [.ref r, .int stk.length, .bl (zAs stk)]/\H r=some (rO C dx fl p b)/\H fl=some (.lst xs)/\Lka H xs p l/\OkLs l/\l.length<=30000/\b<=200/\stk.length<=8/\8<stk.length+n/\gK stk b l≠ .no/\Out CB C2 r H E (gK stk b l)/\Gd r C dx fl xs stk l.length (gK stk b l) H Q
def zRe(C CB C2:Addr)(n:Nat):Sp:=λvs H Q E=>∃(r dx fl:Addr)(p b:Nat)(xs:List V)(stk:List Fr)(l:List Lk),vs= [.ref r, .int (stk.length+1:Nat)]/\H r=some (rO C dx fl p b)/\H fl=some (.lst xs)/\Lka H xs p l/\OkLs l/\l.length<=30000/\b<=200/\stk.length<8/\8<stk.length+1+n/\run ⟨.row []::stk, .first,b, .non⟩ l≠ .no/\Out CB C2 r H E (run ⟨.row []::stk, .first,b, .non⟩ l)/\Gd r C dx fl xs stk l.length (run ⟨.row []::stk, .first,b, .non⟩ l) H Q
theorem scRr:zV ["self","depth","row"] ["self","depth"] (zO sRr):=by walk_at "sc"
theorem zZj{n k:Nat}(F:Fun K "row_here" "Reader.row_here" sRr f fd)(B:Bl mg)(M:Ms mg)(Dpasses:Dm P w K mg base 1 C "passes" ["self","kind","string"] (zOa C))(Dpass_overx:Dmx nC P w K mg base 3 C "pass_over" ["self","kind","string"] (zJr C CB))
  (Dthing_herex:Dmx nC P w K mg base (4+k) C "thing_here" ["self","depth","crowded"] (zDm C CB C2 n)):FnOk P w K mg base (CXE nC P w) (4+k+1) f fd ["self","depth"] (zRe C CB C2 n):=by
 refine F.okx scRr (by walk_at "ln") λc A o s H vs Q E hr h=>?_;obtain⟨r,dx,fl,p,b,xs,stk,l,rfl,hR,hfl,ht,hok,h3,hb,hs8,hn,hno,out,q⟩:=h;have nd:=scRr.nd;refine⟨_,(zD (pS 2 nd (zT zB))
  (zD (wH PassesOwn.leaving (vY (yT (zQg Dpasses hr (by lia) (pv 0) (zA zC (zA zC zB))))) (zD (zQ (zHa (pv 2) (λ_=>rfl)) (zG (xF (vR Dpass_overx hr (by lia) (pv 0) lvs (zA zC (zA zC zB))))) zL)
  (zG (xF (wG nX pH pP xP (pv 2) (zA (vR Dthing_herex hr (by lia) (pv 0) lvs (zA (pv 1) (zA (zW zS (zP yI rfl B.len yH (zA (pv 2) zB)) (qN rfl M.MOST_IN_ROW) (zJ _)) zB))) zB))))))
  (zG (zM (pv 2))))), ?_⟩
 walk_at "st";generalize hRe:run ⟨.row []::stk, .first,b, .non⟩ l=R at hno out q;walk_at "rd6";intro a ha;have hra:a≠r:=λz=>by rw[z,hR] at ha;cases ha
 have g0:Rm r H (upd H a (.lst [])):=Rm.of hR (zH ha _);refine⟨λm σ H2=>∃(pl b2:Nat)(l2:List Lk)(us:List T)(vs:List V),m=l2.length/\us.length+l2.length<=l.length/\σ= [some (.ref r),some (.int (stk.length+1:Nat)),some (.ref a)]/\Rm r H H2/\H2 r=some (rO C dx fl pl b2)/\Lka H2 xs pl l2/\OkLs l2/\b2<=200/\run ⟨.row us::stk,(if us= [] then .first else .behind),b2, .non⟩ l2=R/\H2 a=some (.lst vs)/\Reps (zAe (qV H H2) a) vs us/\vs.length=us.length, ?_⟩;refine⟨⟨l.length,p,b,l,[],[],rfl,Nat.le_of_eq (rY _),rfl,g0,by rw[zN (Ne.symm hra)];exact hR,ht.keep hR g0,hok,hb,hRe,zF,rfl,rfl⟩, ?_⟩;rintro m σ H2 ⟨pl,b2,l2,us,vs,rfl,hll,rfl,g2,hR2,ht2,hok2,hb2,hrun,ha2,hv2,hvl⟩;walk_at "rd6";have hfl2:=wV hR g2 hfl
 cases l2 with
 | nil=>exact absurd hrun.symm hno
 | cons t l3=>
 have hhd:=ht2.head;have hkt:=hok2.head;have htl:=ht2.tail;have hls:l3.length<l.length:=by rw[mE] at hll;lia
 have cl:(kR t.k=Str.ofString "mark"/\tx t.s=Str.ofString "]")↔(t.k=3/\t.s= [93]):=zGv hkt [93];have cm:(kR t.k=Str.ofString "mark"/\tx t.s=Str.ofString ",")↔(t.k=3/\t.s= [44]):=zGv hkt [44];have step:∀(H3:Hp)(pl3:Nat)(l4:List Lk),Rm r H H3->H3 r=some (rO C dx fl pl3 b2)->Lka H3 xs pl3 l4->OkLs l4->l4.length<=l3.length+1->gK (.row us::stk) b2 l4=R->H3 a=some (.lst vs)->Reps (zAe (qV H H3) a) vs us->
   (tyV K "list" (V.ref a) H3/\∃x x_3,H3 r=some (HO.ins C x x_3)/\List.lookup (Str.ofString "thing_here") x_3=none/\∃ys,SqL K H3 a ys/\zDm C CB C2 n [V.ref r,V.int (stk.length+1:Nat),V.bl (decide ((ys.length:Int)=60))] H3 (λx H1=>zFk (V.ref a) [x] H1 λx H1=>
    (fun(σ':St) (H':Hp)=>∃m',m'<(t::l3).length/\∃(pl b2:Nat)(l2:List Lk),m'=l2.length/\∃us:List T,us.length+l2.length<=l.length/\σ'= [some (V.ref r),some (V.int (stk.length+1:Nat)),some (V.ref a)]/\Rm r H H'/\H' r=some (rO C dx fl pl b2)/\Lka H' xs pl l2/\OkLs l2/\b2<=200/\run ⟨.row us::stk,(if us= [] then .first else .behind),b2, .non⟩ l2=R/\∃vs:List V,H' a=some (.lst vs)/\Reps (zAe (qV H H') a) vs us/\vs.length=us.length) [some (.ref r),some (.int (stk.length+1:Nat)),some (.ref a)] H1) E):=by
  intro H3 pl3 l4 g3 hR3 ht3 hok3 hl4 hrun3 ha3 hv3;have hln:l4.length<=l.length:=by rw[mE] at hll;lia
  refine⟨.inl ⟨rfl,_,SqL.of ha3⟩,dx,_,hR3,qE (by decide+kernel) (by decide+kernel) (by decide+kernel),vs,SqL.of ha3, ?_⟩;rw[show decide ((vs.length:Int)=60)=zAs (.row us::stk) from by show _=decide (us.length=60);rw[hvl];exact pJ.mpr (by lia)];refine⟨r,dx,fl,pl3,b2,xs, .row us::stk,l4,rfl,hR3,wV hR g3 hfl,ht3,hok3,by lia,hb2,by rw[mE];lia,by rw[mE];lia,by rw[hrun3];exact hno,by rw[hrun3];exact out.rm g3, ?_⟩;intro v H4 t' l' p' b' hd hR4 g4 ht4 hok4 hb4 hl' hv4;rw[hrun3] at hd;have ha4:=g4.same a _ hra ha3;refine⟨a,vs,v,rfl,rfl,ha4,by rw[mJ];rw[mE] at hll;lia,l'.length,by rw[mE];lia,p',b',l',rfl,us++ [t'],by rw[mC];rw[mE] at hll;show _+1+_<=_;lia,rfl,(g3.trans g4).new ha hra _,by rw[zN (Ne.symm hra)];exact hR4,ht4.upd ha4 (λys z=>nomatch z),hok4,hb4, ?_,vs++ [v],zF, ?_,by simp[hvl]⟩
  ·rw[mG (by simp)];exact hd
  ·rw[uA]
   exact Reps.snoc (Rep.same (g3.newA ha3) _ _ hv4) (Reps.same (kF (Rm.newR ⟨_,hR⟩ g4)) _ _ hv3)
 refine⟨dx,_,hR2,qE (by decide+kernel) (by decide+kernel) (by decide+kernel),r,dx,fl,pl,b2,xs,_,_,_,_,rfl,hR2,hfl2,hhd.tk,λz=>⟨true,rfl,iN (by decide) ?_⟩,λz=>⟨false,rfl,iP rfl ⟨_,λ_ _ h=>h, ?_⟩⟩⟩
 ·have gE:=Rm.put hR2 (rO C dx fl (pl+1) b2)
  have z':=cl.mp z;refine q (.ref a) _ (.lst us) l3 (pl+1) b2 ?_ zF (g2.trans gE) (htl.keep hR2 gE) hok2.tail hb2 hls ⟨a,vs,rfl, ?_, ?_⟩
  ·rw[<-hrun]
   refine(jA ?_).symm
   cases us with
   | nil=>exact mL z'
   | cons _ _=>exact mL z'
  ·rw[qC ha,zN hra];exact ha2
  ·exact Reps.same (hide_self.trans (Rm.newR ⟨_,hR⟩ gE)) _ _ hv2
 have z':¬(t.k=3/\t.s= [93]):=λy=>z (cl.mpr y)
 cases us with
 | nil=>
  have:vs= []:=pB hvl;subst this;refine⟨false, .inl ⟨[],SqL.of ha2,rfl⟩,iN (by decide) (step H2 pl (t::l3) g2 hR2 ht2 hok2 (mK _) ?_ ha2 hv2)⟩;rw[<-hrun];have e:nxt ⟨.row []::stk, .first,b2, .non⟩ t.k t.s=thg (.row []::stk) b2 t.k t.s:=mG z';exact(zQq (S:=⟨.row []::stk, .first,b2, .non⟩) (S':=⟨.row []::stk, .thing,b2, .non⟩) e (by rw[e];exact vN)).symm
 | cons u us=>
  refine⟨true, .inl ⟨vs,SqL.of ha2, ?_⟩,iP rfl ⟨dx,_,hR2,qE (by decide+kernel) (by decide+kernel) (by decide+kernel),r,dx,fl,pl,b2,xs,_,_,t,rfl,hR2,hfl2,hhd,λy=>?_,λy=>?_⟩⟩
  ·cases vs with
   | nil=>cases hvl
   | cons _ _=>rfl
  ·have gE:=Rm.put hR2 (rO C dx fl (pl+1) b2)
   refine step _ (pl+1) l3 (g2.trans gE) zF (htl.keep hR2 gE) hok2.tail (by lia) ?_ (by rw[zN hra];exact ha2) (Reps.same (kF (Rm.newR ⟨_,hR⟩ gE)) _ _ hv2);rw[<-zTj,<-hrun];exact(jA (S:=⟨.row (u::us)::stk, .behind,b2, .non⟩) ((mG z').trans (mL (cm.mp y)))).symm
  ·refine(out.bad t.n ?_).rm g2
   rw[<-hrun];exact vI (S:=⟨.row (u::us)::stk, .behind,b2, .non⟩) ((mG z').trans (mG λx=>y (cm.mpr x)))
theorem kG{ps:List (Key×V)}{ks:List (List Nat)}(h:ps.map (·.1)=ks.map nK)(s:List Nat):(xM ps (nK s)).isSome=true↔s∈ks:=by
 constructor
 ·intro hs
  cases hm:decide (s∈ks) with
  | true=>exact tY hm
  | false=>
   rw[zEi (λz=>?_)] at hs
   ·cases hs
   rw[h] at z;obtain⟨y,hy,e⟩:=sU.mp z;rw[zKm e] at hy;exact of_decide_eq_false hm hy
 ·intro hs
  have:nK s∈ps.map (·.1):=by rw[h];exact sM hs
  obtain⟨y,hy,e⟩:=sU.mp this;rw[<-uH];exact List.any_eq_true.mpr ⟨y,hy,nB e⟩
def zQr(C CB C2:Addr)(n:Nat):Sp:=λvs H Q E=>∃(r dx fl:Addr)(p b:Nat)(xs:List V)(stk:List Fr)(l:List Lk),vs= [.ref r, .int (stk.length+1:Nat)]/\H r=some (rO C dx fl p b)/\H fl=some (.lst xs)/\Lka H xs p l/\OkLs l/\l.length<=30000/\b<=200/\stk.length<8/\8<stk.length+1+n/\run ⟨.rcd [] [] []::stk, .first,b, .non⟩ l≠ .no/\Out CB C2 r H E (run ⟨.rcd [] [] []::stk, .first,b, .non⟩ l)/\Gd r C dx fl xs stk l.length (run ⟨.rcd [] [] []::stk, .first,b, .non⟩ l) H Q
theorem scRd:zV ["self","depth","record","name"] ["self","depth"] (zO sRd):=by walk_at "sc"
theorem zXq{n k:Nat}(F:Fun K "record_here" "Reader.record_here" sRd f fd)(B:Bl mg)(M:Ms mg)(Dpasses:Dm P w K mg base 1 C "passes" ["self","kind","string"] (zOa C))(Dpass_overx:Dmx nC P w K mg base 3 C "pass_over" ["self","kind","string"] (zJr C CB))(Dname_herex:Dmx nC P w K mg base 3 C "name_here" ["self","record"] (zOy C CB C2))
  (Dthing_herex:Dmx nC P w K mg base (4+k) C "thing_here" ["self","depth","crowded"] (zDm C CB C2 n)):FnOk P w K mg base (CXE nC P w) (4+k+1) f fd ["self","depth"] (zQr C CB C2 n):=by
 refine F.okx scRd (by walk_at "ln") λc A o s H vs Q E hr h=>?_;obtain⟨r,dx,fl,p,b,xs,stk,l,rfl,hR,hfl,ht,hok,h3,hb,hs8,hn,hno,out,q⟩:=h;have nd:=scRd.nd;have hu:=uI hr;refine⟨_,(zD (pS 2 nd zIx)
  (zD (wH PassesOwn.leaving (vY (yT (zQg Dpasses hr (by lia) (pv 0) (zA zC (zA zC zB))))) (zD (zQ (zHa (pv 2) (λ_=>rfl)) (zG (xF (vR Dpass_overx hr (by lia) (pv 0) lvs (zA zC (zA zC zB))))) zL)
  (zD (pS 3 nd (vR Dname_herex hr (by lia) (pv 0) lvs (zA (pv 2) zB)))
  (zD (xF (vR Dpass_overx hr (by lia) (pv 0) lvs (zA zC (zA zC zB))))
  (zG (vG hu (pv 2) (pv 3) (vR Dthing_herex hr (by lia) (pv 0) lvs (zA (pv 1) (zA vQ zB))) rfl))))))
  (zG (zM (pv 2))))), ?_⟩
 walk_at "st";generalize hRe:run ⟨.rcd [] [] []::stk, .first,b, .non⟩ l=R at hno out q;walk_at "rd6";intro a ha;have hra:a≠r:=λz=>by rw[z,hR] at ha;cases ha
 have g0:Rm r H (upd H a (.dK [])):=Rm.of hR (zH ha _);refine⟨λm σ H2=>∃o,σ= [some (.ref r),some (.int (stk.length+1:Nat)),some (.ref a),o]/\InvD l.length C dx fl r a xs stk R H m H2, ?_⟩;refine⟨⟨l.length,none,rfl,p,b,l,[],[],[],[],rfl,mK _,g0,by rw[zN (Ne.symm hra)];exact hR,ht.keep hR g0,hok,hb,by decide,hRe,zF,rfl,rfl⟩, ?_⟩;rintro m σ H2 ⟨o,rfl,pl,b2,l2,ks,us,nm,ps,rfl,hll,g2,hR2,ht2,hok2,hb2,h30,hrun,ha2,hk2,hv2⟩;walk_at "rd6";have hfl2:=wV hR g2 hfl;have hpl:ps.length=ks.length:=by
  have:=congrArg List.length hk2
  rwa [nA,nA] at this
 cases l2 with
 | nil=>exact absurd hrun.symm hno
 | cons t l3=>
 have hhd:=ht2.head;have hkt:=hok2.head;have htl:=ht2.tail;have cl:(kR t.k=Str.ofString "mark"/\tx t.s=Str.ofString "}")↔(t.k=3/\t.s= [125]):=zGv hkt [125];have cm:(kR t.k=Str.ofString "mark"/\tx t.s=Str.ofString ",")↔(t.k=3/\t.s= [44]):=zGv hkt [44];have step:∀(H3:Hp)(pl3:Nat)(l4:List Lk),Rm r H H3->H3 r=some (rO C dx fl pl3 b2)->Lka H3 xs pl3 l4->OkLs l4->l4.length<=l3.length+1->run ⟨.rcd ks us nm::stk, .more,b2, .non⟩ l4=R->H3 a=some (.dK ps)->Reps (zAe (qV H H3) a) (ps.map (·.2)) us->
   ∃x x_1,H3 r=some (HO.ins C x x_1)/\List.lookup (Str.ofString "name_here") x_1=none/\zOy C CB C2 [V.ref r,V.ref a] H3 (λx H1=>∃x_2 x_3,H1 r=some (HO.ins C x_2 x_3)/\List.lookup (Str.ofString "pass_over") x_3=none/\
    zJr C CB [V.ref r,V.str (Str.ofString "mark"),V.str (Str.ofString ":")] H1 (λx_4 H1=>∃x_5 x_6,H1 r=some (HO.ins C x_5 x_6)/\List.lookup (Str.ofString "thing_here") x_6=none/\zDm C CB C2 n [V.ref r,V.int (stk.length+1:Nat),V.bl false] H1 (λv H1=>∃x_7,DPut H1 a x v x_7/\
    (fun(σ':St) (H':Hp)=>∃m',m'<(t::l3).length/\(∃x,σ'= [some (V.ref r),some (V.int (stk.length+1:Nat)),some (V.ref a),x])/\InvD l.length C dx fl r a xs stk R H m' H') [some (V.ref r),some (V.int (stk.length+1:Nat)),some (V.ref a),some x] x_7) E) E) E:=by
  intro H3 pl3 l4 g3 hR3 ht3 hok3 hl4 hrun3 ha3 hv3
  cases l4 with
  | nil=>exact absurd hrun3.symm hno
  | cons t4 l5=>
  have hn4:nxt ⟨.rcd ks us nm::stk, .more,b2, .non⟩ t4.k t4.s=nmd ks us stk b2 t4.k t4.s:=rfl;have hfl3:=wV hR g3 hfl;refine⟨dx,_,hR3,qE (by decide+kernel) (by decide+kernel) (by decide+kernel),r,dx,fl,a,pl3,b2,xs,ps,t4,rfl,hR3,hfl3,ht3.head,hok3.head,ha3,by lia,λz=>?_,λz1 z2 z3=>?_,λz1 z2 z3=>?_⟩
  ·refine(out.bad t4.n ?_).rm g3
   rw[<-hrun3];exact vI (hn4.trans (mL (z.imp id (kG hk2 _).mp)))
  ·refine(out.great ?_).rm g3
   rw[<-hrun3];exact zAh (hn4.trans ((mG (λy=>y.elim (λy=>y z1) λy=>by rw[(kG hk2 _).mpr y] at z2;cases z2)).trans (mL (by rw[hpl] at z3;exact z3))))
  have hrun4:run ⟨.rcd ks us t4.s::stk, .colon,b2, .non⟩ l5=R:=by
   rw[<-hrun3];exact(jA (hn4.trans ((mG (λy=>y.elim (λy=>y z1) λy=>by rw[(kG hk2 _).mpr y] at z2;cases z2)).trans (mG (by rw[hpl] at z3;exact z3))))).symm
  have gA:=Rm.put hR3 (rO C dx fl (pl3+1) b2);have hRA:upd H3 r (rO C dx fl (pl3+1) b2) r=some (rO C dx fl (pl3+1) b2):=zF;have haA:upd H3 r (rO C dx fl (pl3+1) b2) a=some (.dK ps):=by rw[zN hra];exact ha3
  generalize upd H3 r (rO C dx fl (pl3+1) b2)=HA at gA hRA haA⊢;have htA:=ht3.tail.keep hR3 gA;have hflA:=wV hR (g3.trans gA) hfl
  cases l5 with
  | nil=>exact absurd hrun4.symm hno
  | cons t5 l6=>
  have cc:(kR t5.k=Str.ofString "mark"/\tx t5.s=Str.ofString ":")↔(t5.k=3/\t5.s= [58]):=zGv hok3.tail.head [58];refine⟨dx,_,hRA,qE (by decide+kernel) (by decide+kernel) (by decide+kernel),r,dx,fl,pl3+1,b2,xs,_,_,t5,rfl,hRA,hflA,htA.head,λy=>?_,λy=>?_⟩
  case refine_2=>
   refine(out.bad t5.n ?_).rm (g3.trans gA);rw[<-hrun4];exact vI (S:=⟨.rcd ks us t4.s::stk, .colon,b2, .non⟩) (mG λx=>y (cc.mpr x))
  have hrun5:gK (.rcd ks us t4.s::stk) b2 l6=R:=by
   rw[<-hrun4];exact(jA (S:=⟨.rcd ks us t4.s::stk, .colon,b2, .non⟩) (mL (cc.mp y))).symm
  have gB:=Rm.put hRA (rO C dx fl (pl3+1+1) b2);have hRB:upd HA r (rO C dx fl (pl3+1+1) b2) r=some (rO C dx fl (pl3+1+1) b2):=zF;have haB:upd HA r (rO C dx fl (pl3+1+1) b2) a=some (.dK ps):=by rw[zN hra];exact haA
  generalize upd HA r (rO C dx fl (pl3+1+1) b2)=HB at gB hRB haB⊢;have htB:=htA.tail.keep hRA gB;have g3B:=g3.trans (gA.trans gB);have hl6:l6.length+2<=l3.length+1:=by rw[mE,mE] at hl4;lia
  have hl2':=hll;rw[mE] at hl2';refine⟨dx,_,hRB,qE (by decide+kernel) (by decide+kernel) (by decide+kernel),r,dx,fl,pl3+1+1,b2,xs, .rcd ks us t4.s::stk,l6,rfl,hRB,wV hR g3B hfl,htB,hok3.tail.tail,by lia,hb2,by rw[mE];lia,by rw[mE];lia,by rw[hrun5];exact hno,by rw[hrun5];exact out.rm g3B, ?_⟩;intro v H4 t' l' p' b' hd hR4 g4 ht4 hok4 hb4 hl' hv4;rw[hrun5] at hd;have ha4:=g4.same a _ hra haB;have hvn:xM ps (nK t4.s)=none:=by
   cases e:xM ps (nK t4.s) with
   | none=>rfl
   | some _=>rw[e] at z2;cases z2
  refine⟨_,DPut.k (k:=nK t4.s) ha4 (by rw[mJ];lia),l'.length,by rw[mE];lia,⟨_,rfl⟩,p',b',l',ks++ [t4.s],us++ [t'],t4.s,_,rfl,by lia,(g3B.trans g4).new ha hra _,by rw[zN (Ne.symm hra)];exact hR4,ht4.upd ha4 (λys z=>nomatch z),hok4,hb4,by rw[mC];show _+1<=_;lia, ?_,zF, ?_, ?_⟩
  ·rw[mG (by simp)];exact hd
  ·rw[wU v hvn,pL,hk2,pL];rfl
  ·rw[wU v hvn,uA,pL]
   exact Reps.snoc (Rep.same (g3B.newA haB) _ _ hv4) (Reps.same (kF (Rm.newR ⟨_,hR⟩ ((gA.trans gB).trans g4))) _ _ hv3)
 refine⟨dx,_,hR2,qE (by decide+kernel) (by decide+kernel) (by decide+kernel),r,dx,fl,pl,b2,xs,_,_,_,_,rfl,hR2,hfl2,hhd.tk,λz=>⟨true,rfl,iN (by decide) ?_⟩,λz=>⟨false,rfl,iP rfl ⟨_,λ_ _ h=>h, ?_⟩⟩⟩
 ·have gE:=Rm.put hR2 (rO C dx fl (pl+1) b2)
  have z':=cl.mp z;refine q (.ref a) _ (.dic ks us) l3 (pl+1) b2 ?_ zF (g2.trans gE) (htl.keep hR2 gE) hok2.tail hb2 (by rw[mE] at hll;lia) ⟨a,ps,rfl, ?_,hk2, ?_⟩
  ·rw[<-hrun]
   refine(jA ?_).symm
   cases ks with
   | nil=>exact mL z'
   | cons _ _=>exact mL z'
  ·rw[qC ha,zN hra];exact ha2
  ·exact Reps.same (hide_self.trans (Rm.newR ⟨_,hR⟩ gE)) _ _ hv2
 have z':¬(t.k=3/\t.s= [125]):=λy=>z (cl.mpr y)
 by_cases hks:ks= []
 ·subst hks
  have:ps= []:=pB hpl;subst this;refine⟨false, .inr (.inr ⟨[],ha2,rfl⟩),iN (by decide) (step H2 pl (t::l3) g2 hR2 ht2 hok2 (mK _) ?_ ha2 hv2)⟩;rw[<-hrun];have e:nxt ⟨.rcd [] us nm::stk, .first,b2, .non⟩ t.k t.s=nmd [] us stk b2 t.k t.s:=mG z';exact(zQq (S:=⟨.rcd [] us nm::stk, .first,b2, .non⟩) (S':=⟨.rcd [] us nm::stk, .more,b2, .non⟩) e (by rw[e];exact jU)).symm
 ·rw[mG hks] at hrun
  refine⟨true, .inr (.inr ⟨ps,ha2, ?_⟩),iP rfl ⟨dx,_,hR2,qE (by decide+kernel) (by decide+kernel) (by decide+kernel),r,dx,fl,pl,b2,xs,_,_,t,rfl,hR2,hfl2,hhd,λy=>?_,λy=>?_⟩⟩
  ·cases ps with
   | nil=>exact absurd (pB hpl.symm) hks
   | cons _ _=>rfl
  ·have gE:=Rm.put hR2 (rO C dx fl (pl+1) b2)
   refine step _ (pl+1) l3 (g2.trans gE) zF (htl.keep hR2 gE) hok2.tail (by lia) ?_ (by rw[zN hra];exact ha2) (Reps.same (kF (Rm.newR ⟨_,hR⟩ gE)) _ _ hv2);rw[<-hrun];exact(jA (S:=⟨.rcd ks us nm::stk, .behind,b2, .non⟩) ((mG z').trans (mL (cm.mp y)))).symm
  ·refine(out.bad t.n ?_).rm g2
   rw[<-hrun];exact vI (S:=⟨.rcd ks us nm::stk, .behind,b2, .non⟩) ((mG z').trans (mG λx=>y (cm.mpr x)))
def zSg(C CB C2:Addr)(n:Nat):Sp:=λvs H Q E=>∃(r dx fl:Addr)(p b:Nat)(xs:List V)(stk:List Fr)(l:List Lk)(z:List Nat),vs= [.ref r, .int stk.length, .str (tx z)]/\(z= [91]\/z= [123])/\H r=some (rO C dx fl p b)/\H fl=some (.lst xs)/\Lka H xs p l/\OkLs l/\l.length<=30000/\b<=200/\stk.length<=8/\8<stk.length+1+n/\(stk.length=8->XG C2 r H E)/\
 (stk.length<8->run ⟨(if z= [91] then .row [] else .rcd [] [] [])::stk, .first,b, .non⟩ l≠ .no/\Out CB C2 r H E (run ⟨(if z= [91] then .row [] else .rcd [] [] [])::stk, .first,b, .non⟩ l)/\Gd r C dx fl xs stk l.length (run ⟨(if z= [91] then .row [] else .rcd [] [] [])::stk, .first,b, .non⟩ l) H Q)
theorem scRh:zV ["self","depth","bracket"] ["self","depth","bracket"] (zO sRh):=by walk_at "sc"
theorem zZg{n k:Nat}(F:Fun K "holder_here" "Reader.holder_here" sRh f fd)(M:Ms mg)(RTooGreat:Xr0 K mg "TooGreat" C2)(Drow_herex:Dmx nC P w K mg base (4+k+1) C "row_here" ["self","depth"] (zRe C CB C2 n))(Drecord_herex:Dmx nC P w K mg base (4+k+1) C "record_here" ["self","depth"] (zQr C CB C2 n)):FnOk P w K mg base (CXE nC P w) (4+k+2) f fd ["self","depth","bracket"] (zSg C CB C2 n):=by
 refine F.okx scRh (by walk_at "ln") λc A o s H vs Q E hr h=>?_;obtain⟨r,dx,fl,p,b,xs,stk,l,z,rfl,hz,hR,hfl,ht,hok,h3,hb,hs8,hn,hg,hh⟩:=h;have nd:=scRh.nd;refine⟨_,(zD (zQ (zK zS (pv 1) (qN rfl M.MOST_DEPTH) (zJ _)) (zG (vL RTooGreat rfl rfl lvs (zA zC zB))) zL)
  (zD (zQ (zK zS (pv 2) zC (zJ _)) (zG (zM (vR Drow_herex hr (by lia) (pv 0) lvs (zA (zI yL (pv 1) zE) zB)))) zL)
  (zG (zM (vR Drecord_herex hr (by lia) (pv 0) lvs (zA (zI yL (pv 1) zE) zB)))))), ?_⟩
 walk_at "st";unfold qL;walk_at "rd6"
 by_cases h8:stk.length=8
 ·exact iP (by lia) (hg h8 H (Rm.refl hR))
 obtain⟨hno,out,q⟩:=hh (by lia);refine iN (by lia) ?_;rcases hz with rfl | rfl
 ·rw[mL rfl] at hno out q
  exact iP (by decide+kernel) ⟨dx,_,hR,qE (by decide+kernel) (by decide+kernel) (by decide+kernel),r,dx,fl,p,b,xs,stk,l,rfl,hR,hfl,ht,hok,h3,hb,by lia,by lia,hno,out,q⟩
 ·rw[mG (by decide)] at hno out q
  exact iN (by decide+kernel) ⟨dx,_,hR,qE (by decide+kernel) (by decide+kernel) (by decide+kernel),r,dx,fl,p,b,xs,stk,l,rfl,hR,hfl,ht,hok,h3,hb,by lia,by lia,hno,out,q⟩
theorem scRt:zV ["self","depth","crowded","token"] ["self","depth","crowded"] (zO sRt):=by walk_at "sc"
theorem zXm{n k:Nat}(F:Fun K "thing_here" "Reader.thing_here" sRt f fd)(M:Ms mg)(R:Rc K C)(RBadText:Xr P w K mg base 1 "BadText" CB)(RTooGreat:Xr0 K mg "TooGreat" C2)(Gbegins_thing:Dn P w K mg base 1 "begins_thing" ["kind","string"] zPd)(Gplain_thingx:Dx nC P w K mg base 3 "plain_thing" ["kind","string"] (zSb C2))(Dholder_herex:Dmx nC P w K mg base (4+k+2) C "holder_here" ["self","depth","bracket"] (zSg C CB C2 n)):FnOk P w K mg base (CXE nC P w) (4+k+3) f fd ["self","depth","crowded"] (zDm C CB C2 (n+1)):=by
 refine F.okx scRt (by walk_at "ln") λc A o s H vs Q E hr h=>?_;obtain⟨r,dx,fl,p,b,xs,stk,l,rfl,hR,hfl,ht,hok,h3,hb,hs8,hn,hno,out,q⟩:=h;have nd:=scRt.nd;refine⟨_,(zD (pS 3 nd (zR zY (qZ (pv 0) rfl) (qZ (pv 0) rfl) (λ_ _=>rfl)))
  (zD (zQ (vY (yT (pD Gbegins_thing hr (zA (zR yC (pv 3) zE (λ_ _=>rfl)) (zA (zR yC (pv 3) zE (λ_ _=>rfl)) zB))))) (zG (xQ RBadText hr (by lia) rfl rfl lvs (zA zC (zA (zR yC (pv 3) zE (λ_ _=>rfl)) zB)))) zL)
  (zD (zQ (PW.pt (jV (yT (pv 2)) (vZ (zK zS (qZ (pv 0) rfl) (qN rfl M.MOST_SIZE) (zJ _))))) (zG (vL RTooGreat rfl rfl lvs (zA zC zB))) zL)
  (zD (kC (pv 0) zE zBo)
  (zD (kC (pv 0) zE zBo)
  (zD (zQ (zK zS (zR yC (pv 3) zE (λ_ _=>rfl)) zC (zJ _)) (zG (zM (vR Dholder_herex hr (by lia) (pv 0) lvs (zA (pv 1) (zA (zR yC (pv 3) zE (λ_ _=>rfl)) zB))))) zL)
  (zG (zM (zHk Gplain_thingx hr (by lia) rfl lvs (zA (zR yC (pv 3) zE (λ_ _=>rfl)) (zA (zR yC (pv 3) zE (λ_ _=>rfl)) zB))))))))))), ?_⟩
 walk_at "st";unfold zAy qL;walk_at "rd6"
 cases l with
 | nil=>exact absurd rfl hno
 | cons t l1=>
 have hkt:=hok.head;obtain⟨a,hxa,ha⟩:=ht.head;refine⟨C,dx,_,hR,R.cls,R.nf,_,zVv,C,dx,_,hR,R.cls,R.np,_,zKh,zZ (SqL.of hfl) (yF hxa) (yD (SqT.of ha) (v:=.str (kR t.k)) rfl (yD (SqT.of ha) (v:=.str (tx t.s)) rfl ⟨t,rfl,hkt,kM t.k t.s,rfl, ?_⟩))⟩;have hT:nxt ⟨stk, .thing,b, .non⟩ t.k t.s=thg stk b t.k t.s:=rfl;have great:kM t.k t.s=true->(decide (b=200)||(zAs stk ||(decide (t.k=3/\stk.length=8)|| qW t.k t.s)))=true->XG C2 r H E:=λz1 z2=>out.great (zAh (hT.trans ((mG (by rw[z1];decide)).trans (mL z2))))
 cases hbg:kM t.k t.s with
 | false=>exact iP rfl (yD (SqT.of ha) (v:=.int t.n) rfl ⟨_,_,⟨rfl,rfl⟩,(out.bad t.n (vI (hT.trans (mL hbg)))).of hR⟩)
 | true=>
 refine iN (by decide) ?_
 cases hfu:zAs stk with
 | true=>exact iP rfl (great hbg (by rw[hfu];simp) H (Rm.refl hR))
 | false=>
 refine iN (by decide) ⟨C,dx,_,hR,R.cls,R.nb,_,lk_b,rfl, ?_⟩
 by_cases hb2:b=200
 ·exact iP (by rw[hb2];rfl) (great hbg (by rw[hb2];simp) H (Rm.refl hR))
 refine iN (λz=>by injection z with z;lia) ⟨C,dx,_,hR,R.cls,R.nb,_,lk_b,b,rfl,dx,_,hR,by simp, ?_⟩;rw[pf_b];refine⟨C,dx,[(Str.ofString "found", .ref fl),(Str.ofString "place", .int p),(Str.ofString "begun", .int ((b:Int)+1))],zF,R.cls,R.np,_,zKh,p,rfl,dx,[(Str.ofString "found", .ref fl),(Str.ofString "place", .int p),(Str.ofString "begun", .int ((b:Int)+1))],zF,by simp, ?_⟩;rw[zXr];have gE:Rm r H (upd (upd H r (.ins C dx [(Str.ofString "found", .ref fl),(Str.ofString "place", .int p),(Str.ofString "begun", .int ((b:Int)+1))])) r (.ins C dx [(Str.ofString "found", .ref fl),(Str.ofString "place", .int ((p:Int)+1)),(Str.ofString "begun", .int ((b:Int)+1))])):=(Rm.put hR _).trans (Rm.put zF _);have hRE:upd (upd H r (.ins C dx [(Str.ofString "found", .ref fl),(Str.ofString "place", .int p),(Str.ofString "begun", .int ((b:Int)+1))])) r (.ins C dx [(Str.ofString "found", .ref fl),(Str.ofString "place", .int ((p:Int)+1)),(Str.ofString "begun", .int ((b:Int)+1))]) r=some (rO C dx fl (p+1) (b+1)):=zF;generalize upd (upd H r (.ins C dx [(Str.ofString "found", .ref fl),(Str.ofString "place", .int p),(Str.ofString "begun", .int ((b:Int)+1))])) r (.ins C dx [(Str.ofString "found", .ref fl),(Str.ofString "place", .int ((p:Int)+1)),(Str.ofString "begun", .int ((b:Int)+1))])=HE at gE hRE⊢;have haE:HE a=some (.tup [.str (kR t.k), .str (tx t.s), .int t.n]):=gE.same a _ (λz=>by rw[z,hR] at ha;cases ha) ha;have htE:=ht.tail.keep hR gE;have hflE:=wV hR gE hfl;rw[mE] at h3;refine yD (SqT.of haE) (v:=.str (kR t.k)) rfl ⟨rfl, ?_⟩
 by_cases h3k:t.k=3
 ·have hz:t.s= [91]\/t.s= [123]:=by
   rw[h3k] at hbg;exact tY hbg
  refine iP (by rw[h3k];rfl) ⟨dx,_,hRE,qE (by decide+kernel) (by decide+kernel) (by decide+kernel),yD (SqT.of haE) (v:=.str (tx t.s)) rfl ⟨r,dx,fl,p+1,b+1,xs,stk,l1,t.s,rfl,hz,hRE,hflE,htE,hok.tail,by lia,by lia,hs8,by lia,λz=>?_,λz=>?_⟩⟩
  ·exact(great hbg (by rw[nB (show t.k=3/\stk.length=8 from⟨h3k,z⟩)];simp)).rm gE
  have hby:qW t.k t.s=false:=by rw[h3k];rfl
  have hc:¬(decide (b=200)||(zAs stk ||(decide (t.k=3/\stk.length=8)|| qW t.k t.s)))=true:=by
   rw[hby,hfu,mM hb2,mM (show¬(t.k=3/\stk.length=8) from λy=>by lia)]
   decide
  have e:gK stk b (t::l1)=run ⟨(if t.s= [91] then .row [] else .rcd [] [] [])::stk, .first,b+1, .non⟩ l1:=jA (hT.trans ((mG (by rw[hbg];decide)).trans ((mG hc).trans (mL h3k))));rw[<-e];refine⟨hno,out.rm gE, ?_⟩;intro v H' t' l' p' b' hd hR' g' ht' hok' hb' hl' hv';exact q v H' t' l' p' b' hd hR' (gE.trans g') ht' hok' hb' (by rw[mE];lia) (Rep.same (gE.newL H') _ _ hv')
 ·refine iN (λz=>h3k ((zAo hkt (j:=3) (by decide)).mp (V.str.inj z))) (yD (SqT.of haE) (v:=.str (kR t.k)) rfl (yD (SqT.of haE) (v:=.str (tx t.s)) rfl ⟨t,rfl,hkt,hbg,h3k,λhby=>?_,λhby=>?_⟩))
  ·have hc:¬(decide (b=200)||(zAs stk ||(decide (t.k=3/\stk.length=8)|| qW t.k t.s)))=true:=by
    rw[hby,hfu,mM hb2,mM (show¬(t.k=3/\stk.length=8) from λy=>h3k y.1)]
    decide
   have e:gK stk b (t::l1)=run (xG stk (b+1) (vM t.k t.s)) l1:=jA (hT.trans ((mG (by rw[hbg];decide)).trans ((mG hc).trans (mG h3k))));intro v H' g' hv';exact q v H' (vM t.k t.s) l1 (p+1) (b+1) e.symm (g' _ _ hRE) (gE.trans (Rm.of hRE g')) (htE.keep hRE (Rm.of hRE g')) hok.tail (by lia) (by rw[mE];lia) (hv' _)
  ·exact λH' g'=>great hbg (by rw[hby];simp) H' (gE.trans (Rm.of hRE g'))
theorem zYg(F:Fun K "thing_here" "Reader.thing_here" sRt f fd):FnOk P w K mg base (CXE nC P w) 4 f fd ["self","depth","crowded"] (zDm C CB C2 0):=by
 refine F.okx scRt (by walk_at "ln") λc A o s H vs Q E hr h=>?_;obtain⟨r,dx,fl,p,b,xs,stk,l,rfl,hR,hfl,ht,hok,h3,hb,hs8,hn,hno,out,q⟩:=h
 lia
theorem zUh{f1 f2 f3 f4:Addr}{fd1 fd2 fd3 fd4:FuncData}(F1:Fun K "thing_here" "Reader.thing_here" sRt f1 fd1)(F2:Fun K "holder_here" "Reader.holder_here" sRh f2 fd2)(F3:Fun K "row_here" "Reader.row_here" sRr f3 fd3)(F4:Fun K "record_here" "Reader.record_here" sRd f4 fd4)(B:Bl mg)(M:Ms mg)(R:Rc K C)(RB:Xr P w K mg base 1 "BadText" CB)(RT:Xr0 K mg "TooGreat" C2)
  (Gb:Dn P w K mg base 1 "begins_thing" ["kind","string"] zPd) (Gp:Dx nC P w K mg base 3 "plain_thing" ["kind","string"] (zSb C2)) (Dp:Dm P w K mg base 1 C "passes" ["self","kind","string"] (zOa C)) (Do:Dmx nC P w K mg base 3 C "pass_over" ["self","kind","string"] (zJr C CB)) (Dn:Dmx nC P w K mg base 3 C "name_here" ["self","record"] (zOy C CB C2))
  (m1:zGy K C "thing_here" f1) (m2:zGy K C "holder_here" f2) (m3:zGy K C "row_here" f3) (m4:zGy K C "record_here" f4) (b1:Binds K fd1 ["self","depth","crowded"] []) (b2:Binds K fd2 ["self","depth","bracket"] []) (b3:Binds K fd3 ["self","depth"] []) (b4:Binds K fd4 ["self","depth"] []):
  ∀n:Nat,FnOk P w K mg base (CXE nC P w) (4+3*n) f1 fd1 ["self","depth","crowded"] (zDm C CB C2 n)
 | 0=>zYg F1
 | n+1=>by
  have ih:Dmx nC P w K mg base (4+3*n) C "thing_here" ["self","depth","crowded"] (zDm C CB C2 n):=⟨f1,fd1,R.cls,m1,zUh F1 F2 F3 F4 B M R RB RT Gb Gp Dp Do Dn m1 m2 m3 m4 b1 b2 b3 b4 n,b1⟩;have hr:Dmx nC P w K mg base (4+3*n+1) C "row_here" ["self","depth"] (zRe C CB C2 n):=⟨f3,fd3,R.cls,m3,zZj F3 B M Dp Do ih,b3⟩;have hc:Dmx nC P w K mg base (4+3*n+1) C "record_here" ["self","depth"] (zQr C CB C2 n):=⟨f4,fd4,R.cls,m4,zXq F4 B M Dp Do Dn ih,b4⟩;have hh:Dmx nC P w K mg base (4+3*n+2) C "holder_here" ["self","depth","bracket"] (zSg C CB C2 n):=⟨f2,fd2,R.cls,m2,zZg F2 M RT hr hc,b2⟩;exact zXm F1 M R RB RT Gb Gp hh
end
end K26
namespace K26
open PySem L2 PySem.W
seal L2.PSs L2.PS L2.PE L2.PT L2.PW L2.PA L2.PI L2.PG L2.PGs L2.PPs L2.PTs
abbrev zYl:Stmt:=top 33
theorem zLc:∀(n:Nat)(r:List (Nat×Tk)),(wM n r).length=r.length
 | _,[]=>rfl
 | n,y::r=>congrArg (· +1) (zLc _ r)
section
variable{P:Program}{w:World}{K:PySem.W.Frag}{mg:Str->Option Value}{base:Heap}{f:Addr}{fd:FuncData}{C CB C2:Addr}
noncomputable def strT(n:Nat):T:=.tup [.str (ts (kR 5)), .str [], .int n]
theorem scStr:zV ["text","refusal"] ["text"] (zO zYl):=by walk_at "sc"
def zUa:Sp:=λvs H Q _=>(∃(r:List (Nat×Tk))(e:Nat),vs= [.str (tx (lay r++List.replicate e 32))]/\(∀y∈r,OkTk y.2)/\Chn r/\r.length<=1000/\(lay r++List.replicate e 32).length<=100000/\∀v H',Same H H'->Rep H' v (.lst (wM 0 r++ [endT (lay r++List.replicate e 32).length]))->Q v H')\/
 ∃(r:List (Nat×Tk))(e:Nat)(y:List Nat),vs= [.str (tx (lay r++List.replicate e 32++y))]/\(∀y∈r,OkTk y.2)/\Chn r/\r.length<=1000/\(lay r++List.replicate e 32++y).length<=100000/\BadT y/\(e=0->∀z,r.getLast? =some z->Stops z.2.1 y)/\∀v H',Same H H'->Rep H' v (.lst (wM 0 r++ [strT ((lay r).length+e)]))->Q v H'
theorem zZy(F:Fun K "tokens_to_stray" "tokens_to_stray" zYl f fd)(B:Bl mg)(hmBadText:mg "BadText" =some (.ref CB))(hxm:exmOne K (.ref CB) (.ref CB)=some true)(XGat:uT K CB)(Xfat:findIn K (.ref CB) "at" =some none)(Gtokensx:Dx nC P w K mg base 5 "tokens" ["text"] λvs H Q E=>zJq vs H Q E\/zLw CB vs H Q E)(Gtokensh:Dh P w K mg base 4 "tokens" ["text"] zJq):FnOk P w K mg base CX0 6 f fd ["text"] zUa:=by
 refine F.ok scStr (λvs H Q E h=>?_) (λc A o s H vs Q E hr h=>?_)
 ·rcases h with⟨r,e,rfl,_⟩|⟨r,e,y,rfl,_⟩<;>rfl
 have nd:=scStr.nd;refine⟨_,(zG (zPj rfl rfl hmBadText nd (i:=1) rfl rfl rfl rfl rfl (λ_ _ _ _ hpa=>(zJh (zPx Gtokensx hr (by lia) rfl hpa (zA (pv 0) zB)))) (λ_ h=>h) (λ_=>(zG (zM (zI yW (yV uF (zXa Gtokensh rfl hr.h (by lia) rfl (zA (yV wO (pv 0) wP (yQ (zGe XGat Xfat (pv 1)))) zB)) wP (yQ (jT vU zE))) (zT (zA (yA (zA zC (zA zC (zA (zGe XGat Xfat (pv 1)) zB)))) zB)))))))), ?_⟩;rcases h with⟨r,e,rfl,h⟩|⟨r,e,y,rfl,hok,hch,hr1,hL,hy,hyst,q⟩
 ·walk_at "st"
  unfold zWa;walk_at "rd6";exact .inl ⟨r,e,rfl,h⟩
 walk_at "st";unfold zWa zPw zKx zQt;walk_at "rd6";refine .inr ⟨r,e,y,rfl,hok,hch,hr1,hL,hy,hyst,λd H1 g1 hd=>⟨CB,rfl,hxm,λx o hx=>?_⟩⟩;have hdx:d≠x:=λz=>by rw[z,hx] at hd;cases hd
 have g2:Same H1 (upd H1 x (HO.frz o (exN x CB (some d)))):=zH hx _;have hx2:upd H1 x (HO.frz o (exN x CB (some d))) x=some (HO.frz o (exN x CB (some d))):=zF;generalize upd H1 x (HO.frz o (exN x CB (some d)))=H2 at g2 hx2⊢;have hd2:=g2 _ _ hd;have hlt:(lay r++List.replicate e 32).length=(lay r).length+e:=by rw[mC,mU]
 refine⟨o,d,hx2,_,hd2,((lay r).length+e:Nat),rfl,_,rfl,by rw[zU,mJ];lia, ?_⟩;rw[zBn,yK,<-hlt,tG];refine⟨⟨o,CB,some d,hx2⟩,r,e,rfl,hok,hch,hr1,by rw[mC] at hL;lia,λv H3 g3 hv=>?_⟩;obtain⟨fl,xs,rfl,hfl,hxs⟩:=hv;refine⟨fl,xs,rfl,SqL.of hfl,λp4 hp4=>?_⟩;have hxl:=hxs.length;rw[mC] at hxl;have hxl:xs.length=(wM 0 r).length+1:=hxl;rw[zPm,hxl,cO];have hxs':Reps H3 (xs.take (wM 0 r).length) (wM 0 r):=by
  have:=Reps.take (wM 0 r).length hxs
  rwa [tG] at this
 have g4:Same H3 (upd H3 p4 (.lst (xs.take (wM 0 r).length))):=zH hp4 _;have h4:upd H3 p4 (.lst (xs.take (wM 0 r).length)) p4=some (.lst (xs.take (wM 0 r).length)):=zF;generalize upd H3 p4 (.lst (xs.take (wM 0 r).length))=H4 at g4 h4⊢;refine⟨o,d,g4 _ _ (g3 _ _ hx2),_,g4 _ _ (g3 _ _ hd2),((lay r).length+e:Nat),rfl,λp5 hp5=>?_⟩;have g5:=zH hp5 (HO.tup [V.str (Str.ofString "stray"),V.str (Str.ofString ""),V.int (((lay r).length+e:Nat):Int)]);have h5:upd H4 p5 (HO.tup [V.str (Str.ofString "stray"),V.str (Str.ofString ""),V.int (((lay r).length+e:Nat):Int)]) p5=_:=zF;generalize upd H4 p5 (HO.tup [V.str (Str.ofString "stray"),V.str (Str.ofString ""),V.int (((lay r).length+e:Nat):Int)])=H5 at g5 h5⊢;intro p6 hp6;have g6:=zH hp6 (HO.lst [V.ref p5]);have h6:upd H5 p6 (HO.lst [V.ref p5]) p6=_:=zF;generalize upd H5 p6 (HO.lst [V.ref p5])=H6 at g6 h6⊢;have g46:=g5.trans g6;refine⟨p4,p6,_,_,rfl,rfl,g46 _ _ h4,h6, ?_,λp7 hp7=>?_⟩
 ·rw[mJ,nY,zLc]
  show _+1<=_
  lia
 have g7:=zH hp7 (HO.lst (xs.take (wM 0 r).length++ [V.ref p5]));have gA:Same H3 (upd H6 p7 (HO.lst (xs.take (wM 0 r).length++ [V.ref p5]))):=g4.trans (g46.trans g7);refine q (.ref p7) _ (g1.trans (g2.trans (g3.trans gA))) ⟨p7,_,rfl,zF, ?_⟩;exact Reps.snoc (show Rep _ (.ref p5) (strT _) from⟨p5,_,rfl,(g6.trans g7) _ _ h5,zAw _ (kR 5) [] _⟩) (Reps.same gA _ _ hxs')
end
end K26
namespace K26
open PySem L2 PySem.W
seal L2.PSs L2.PS L2.PE L2.PT L2.PW L2.PA L2.PI L2.PG L2.PGs L2.PPs L2.PTs
abbrev zSi:Stmt:=top 32
noncomputable def lkT(t:Lk):T:=.tup [.str (ts (kR t.k)), .str t.s, .int t.n]
noncomputable def wX:Nat->List (Nat×Tk)->List Lk
 | _,[]=>[]
 | n,x::r=>⟨x.2.1,x.2.2,n+x.1⟩::wX (n+x.1+(shw x.2).length) r
theorem kR_kS{t:Tk}(h:OkTk t):kR t.1=kS t.1:=by
 obtain⟨_,⟨e,_⟩|⟨e,_⟩|⟨e,_⟩|⟨e,_⟩⟩:=h<;>rw[e]<;>rfl
theorem zBl:∀(n:Nat)(r:List (Nat×Tk)),(∀y∈r,OkTk y.2)->(wX n r).map lkT=wM n r
 | _,[],_=>rfl
 | n,x::r,h=>by
  show lkT _::(wX _ r).map lkT=tkT x.2 (n+x.1)::_;rw[zBl _ r (λy hy=>h y (mR _ hy))];have e:lkT ⟨x.2.1,x.2.2,n+x.1⟩=tkT x.2 (n+x.1):=by
   unfold lkT tkT;rw[kR_kS (h x mH)]
  rw[e]
theorem gZ:∀(n:Nat)(r:List (Nat×Tk)),(wX n r).length=r.length
 | _,[]=>rfl
 | n,y::r=>congrArg (· +1) (gZ _ r)
theorem zGj:∀(n:Nat)(r:List (Nat×Tk)),(∀y∈r,OkTk y.2)->OkLs (wX n r)
 | _,[],_=>λt ht=>nomatch ht
 | n,x::r,h=>λt ht=>by
  rcases mF.mp ht with e | ht
  ·rw[e]
   have hx:=h x mH;obtain⟨h1,h2⟩:=hx;refine⟨by show x.2.2.length<=_;lia, ?_⟩;rcases h2 with a | a | a | a
   ·exact .inl a
   ·exact .inr (.inl a)
   ·exact .inr (.inr (.inl a))
   ·exact .inr (.inr (.inr (.inl a)))
  ·exact zGj _ r (λy hy=>h y (mR _ hy)) t ht
theorem zVh(S:Mc){t:Lk}(ht:t.k=4\/t.k=5)(S':Mc):nxt S t.k t.s≠ .go S':=by
 have h3:t.k≠3:=by lia
 have h1:t.k≠1:=by lia
 have hb:kM t.k t.s=false:=by
  rcases ht with e | e<;>rw[e]<;>rfl
 have hT:∀st m,thg st m t.k t.s= .bad:=λst m=>mL hb;have hN:∀ks us st m,nmd ks us st m t.k t.s= .bad:=λks us st m=>mL (.inl h1);have hI:∀st m,inn st m t.k t.s= .bad:=λst m=>by
  unfold inn;split
  ·exact hN _ _ _ _
  ·exact hT _ _
 intro h;unfold nxt at h;split at h
 ·split at h<;>cases h
 ·rw[mG (λz=>h3 z.1)] at h;cases h
 ·rw[hT] at h;cases h
 ·rw[hI] at h;cases h
 ·split at h
  ·cases h
  ·rw[mG (λz=>h3 z.1),mG (λz=>h3 z.1)] at h;cases h
 ·split at h
  ·cases h
  ·rw[mG (λz=>h3 z.1),hI] at h;cases h
theorem gT{t:Lk}(ht:t.k=4\/t.k=5):∀(l:List Lk)(S:Mc),run S (l++ [t])≠ .no
 | [],S=>λh=>by
  have e:run S [t]=(match nxt S t.k t.s with | .go S'=>run S' [] | .bad=>.bad t.n | .great=>.great | .good=>.good S.whole):=rfl
  rw[nH,e] at h
  cases hx:nxt S t.k t.s with
  | go S'=>exact zVh S ht S' hx
  | bad=>rw[hx] at h;cases h
  | great=>rw[hx] at h;cases h
  | good=>rw[hx] at h;cases h
 | u::l,S=>λh=>by
  have e:run S (u::l++ [t])=(match nxt S u.k u.s with | .go S'=>run S' (l++ [t])| .bad=>.bad u.n | .great=>.great | .good=>.good S.whole):=rfl
  rw[e] at h
  cases hx:nxt S u.k u.s with
  | go S'=>rw[hx] at h;exact gT ht l S' h
  | bad=>rw[hx] at h;cases h
  | great=>rw[hx] at h;cases h
  | good=>rw[hx] at h;cases h
theorem lk_of{H:Hp}{xs:List V}{l:List Lk}(h:Reps H xs (l.map lkT)):Lka H xs 0 l:=λi t ht=>by
 rw[rY];have hl:=h.length;rw[nA] at hl;obtain⟨hlt,_⟩:=nF.mp ht;have hx:xs[i]? =some xs[i]:=by simp[show i<xs.length by lia]
 obtain⟨u,hu,hr⟩:=h.get hx;rw[pM,ht] at hu;cases hu;obtain⟨a,ys,e,ha,hy⟩:=hr;obtain⟨v1,r1,rfl,h1,hr1⟩:=hy;obtain⟨v2,r2,rfl,h2,hr2⟩:=hr1;obtain⟨v3,r3,rfl,h3,hr3⟩:=hr2;have e1:v1= .str (tx (ts (kR t.k))):=h1;have e2:v2= .str (tx t.s):=h2;have e3:v3= .int t.n:=h3;have e4:r3= []:=hr3;subst e1 e2 e3 e4;rw[qP] at ha;exact⟨a,by rw[hx,e],ha⟩
def Src(L:List Nat)(l:List Lk):Prop:=(∃(r:List (Nat×Tk))(e:Nat),L=lay r++List.replicate e 32/\(∀y∈r,OkTk y.2)/\Chn r/\r.length<=1000/\l=wX 0 r++ [⟨4,[],L.length⟩])\/
 ∃(r:List (Nat×Tk))(e:Nat)(y:List Nat),L=lay r++List.replicate e 32++y/\(∀y∈r,OkTk y.2)/\Chn r/\r.length<=1000/\BadT y/\(e=0->∀z,r.getLast? =some z->Stops z.2.1 y)/\l=wX 0 r++ [⟨5,[],(lay r).length+e⟩]
theorem Src.no{L:List Nat}{l:List Lk}(h:Src L l)(S:Mc):run S l≠ .no:=by
 rcases h with⟨r,e,_,_,_,_,rfl⟩|⟨r,e,y,_,_,_,_,_,_,rfl⟩
 ·exact gT (.inl rfl) _ _
 ·exact gT (.inr rfl) _ _
theorem Src.oks{L:List Nat}{l:List Lk}(h:Src L l):OkLs l/\l.length<=1001:=by
 rcases h with⟨r,e,_,hok,_,hr,rfl⟩|⟨r,e,y,_,hok,_,hr,_,_,rfl⟩
 ·refine⟨λt ht=>(pG.mp ht).elim (zGj 0 r hok t) λht=>?_,by rw[mC,gZ];show _+1<=_;lia⟩
  rw[mS.mp ht];exact⟨by show 0<=_;lia, .inr (.inr (.inr (.inr (.inl ⟨rfl,rfl⟩))))⟩
 ·refine⟨λt ht=>(pG.mp ht).elim (zGj 0 r hok t) λht=>?_,by rw[mC,gZ];show _+1<=_;lia⟩
  rw[mS.mp ht];exact⟨by show 0<=_;lia, .inr (.inr (.inr (.inr (.inr rfl))))⟩
theorem zYk{L:List Nat}{l:List Lk}{H:Hp}{Q:VK}{E:XK}(hs:Src L l)(hL:L.length<=100000)(key:∀v H1,Same H H1->Rep H1 v (.lst (l.map lkT))->Q v H1):zUa [.str (tx L)] H Q E:=by
 rcases hs with⟨r,e,rfl,hok,hch,hr,rfl⟩|⟨r,e,y,rfl,hok,hch,hr,hy,hst,rfl⟩
 ·exact .inl ⟨r,e,rfl,hok,hch,hr,hL,λv H1 g1 hv=>key v H1 g1 (by rw[pL,zBl 0 r hok];exact hv)⟩
 ·exact .inr ⟨r,e,y,rfl,hok,hch,hr,hL,hy,hst,λv H1 g1 hv=>key v H1 g1 (by rw[pL,zBl 0 r hok];exact hv)⟩
structure Out0(CB C2:Addr)(H:Hp)(Q:VK)(E:XK)(R:Res):Prop where
 bad:∀n,R= .bad n->XBad CB n H E
 great:R= .great->XGr C2 H E
 good:∀t,R= .good t->∀v H',Same H H'->Rep (qV H H') v t->Q v H'
section
variable{P:Program}{w:World}{K:PySem.W.Frag}{mg:Str->Option Value}{base:Heap}{f:Addr}{fd:FuncData}{C CB C2:Addr}
def zSr(CB C2:Addr):Sp:=λvs H Q E=>∃(L:List Nat)(l:List Lk),vs= [.str (tx L)]/\(20000<L.length\/Src L l)/\L.length<=100000/\Out0 CB C2 H Q E (if 20000<L.length then .great else gK [] 0 l)
theorem scRead:zV ["text","reader","thing"] ["text"] (zO zSi):=by walk_at "sc"
theorem zVu(F:Fun K "read" "read" zSi f fd)(B:Bl mg)(M:Ms mg)(RTooGreat:Xr0 K mg "TooGreat" C2)(Gtokens_to_stray:Dn P w K mg base 6 "tokens_to_stray" ["text"] zUa)(DReader:Dk P w K mg base 1 "Reader" C ["self","found"] (zXu C))(Dthing_herex:Dmx nC P w K mg base (4+3*9) C "thing_here" ["self","depth","crowded"] (zDm C CB C2 9))(Dpass_overx:Dmx nC P w K mg base 3 C "pass_over" ["self","kind","string"] (zJr C CB)):FnOk P w K mg base (CXE nC P w) (4+3*9+1) f fd ["text"] (zSr CB C2):=by
 refine F.okx scRead (by walk_at "ln") λc A o s H vs Q E hr h=>?_;obtain⟨L,l,rfl,hs,hL,out⟩:=h;have nd:=scRead.nd;refine⟨_,(zD (zQ (zK wW (zP yE rfl B.len yH (zA (pv 0) zB)) (qN rfl M.MOST_SIGNS) (zJ _)) (zG (vL RTooGreat rfl rfl lvs (zA zC zB))) zL)
  (zD (pS 1 nd (pe_mk DReader hr (by lia) rfl (zA (pD Gtokens_to_stray hr (zA (pv 0) zB)) zB)))
  (zD (pS 2 nd (vR Dthing_herex hr (by lia) (pv 1) lvs (zA zE (zA vQ zB))))
  (zD (xF (vR Dpass_overx hr (by lia) (pv 1) lvs (zA zC (zA zC zB))))
  (zG (zM (pv 2))))))), ?_⟩
 walk_at "st";unfold qL;walk_at "rd6";have hln:(tx L).length=L.length:=zU _;refine⟨by rw[hln];lia, ?_⟩
 by_cases h2:20000<L.length
 ·rw[mL h2] at out
  exact iP (by rw[hln];lia) (out.great rfl H (Same.refl _))
 rw[mG h2] at out
 replace hs:=hs.resolve_left h2
 refine iN (by rw[hln];lia) ?_;have hno:=hs.no ⟨[], .thing,0, .non⟩;obtain⟨hok,hl1⟩:=hs.oks;refine zYk hs hL λv H1 g1 hv=>?_;obtain⟨fl,xs,rfl,hfl,hxs⟩:=hv;intro r dx hr0 hdx0 hne;refine⟨r,dx,fl,rfl,zF,rfl, ?_⟩;have hbig:∀b o,H1 b=some o->(upd (upd (upd (upd (upd H1 dx (HO.own r)) r (HO.ins C dx [])) r (.ins C dx [("found", .ref fl)])) r (.ins C dx [("found", .ref fl),("place", .int 0)])) r (rO C dx fl 0 0)) b=some o:=λb o eb=>by
  have n1:b≠r:=λz=>by rw[z,hr0] at eb;cases eb
  have n2:b≠dx:=λz=>by rw[z,hdx0] at eb;cases eb
  rw[zN n1,zN n1,zN n1,zN n1,zN n2];exact eb
 have hR2:(upd (upd (upd (upd (upd H1 dx (HO.own r)) r (HO.ins C dx [])) r (.ins C dx [("found", .ref fl)])) r (.ins C dx [("found", .ref fl),("place", .int 0)])) r (rO C dx fl 0 0)) r=some (rO C dx fl 0 0):=zF;generalize upd (upd (upd (upd (upd H1 dx (HO.own r)) r (HO.ins C dx [])) r (.ins C dx [("found", .ref fl)])) r (.ins C dx [("found", .ref fl),("place", .int 0)])) r (rO C dx fl 0 0)=H2 at hbig hR2⊢;have g12:Same H1 H2:=hbig;have hxs2:=Reps.same g12 _ _ hxs;have hr:∀b o,H b=some o->b≠r:=λb o eb z=>by
  have:=g1 b o eb;rw[z,hr0] at this;cases this
 have sam:∀H3,Rm r H2 H3->Same H H3:=λH3 g3 b o eb=>g3.same b o (hr b o eb) (g12 _ _ (g1 _ _ eb));have outB:∀n,gK [] 0 l= .bad n->XB CB r n H2 E:=λn e d H' g' hd=>out.bad n e d H' (sam H' g') hd;refine⟨dx,_,hR2,qE (by decide+kernel) (by decide+kernel) (by decide+kernel),r,dx,fl,0,0,xs,[],l,rfl,hR2,g12 _ _ hfl,lk_of hxs2,hok,by lia,by lia,by decide,by decide,hno,⟨outB,λe H' g'=>out.great e H' (sam H' g')⟩, ?_⟩;intro v H3 t l' p' b' hd hR3 g3 ht3 hok3 hb3 hl3 hv3;refine⟨dx,_,hR3,qE (by decide+kernel) (by decide+kernel) (by decide+kernel), ?_⟩
 cases l' with
 | nil=>exact absurd hd.symm hno
 | cons t1 l1=>
 have ce:(kR t1.k=Str.ofString "end"/\tx t1.s=Str.ofString "")↔t1.k=4:=by
  constructor
  ·rintro⟨z,_⟩
   exact(zAo hok3.head (j:=4) (by decide)).mp z
  ·intro z
   refine⟨by rw[z];rfl, ?_⟩;obtain⟨_,⟨e,_⟩|⟨e,_⟩|⟨e,_⟩|⟨e,_⟩|⟨_,e⟩| e⟩:=hok3.head
   ·lia
   ·lia
   ·lia
   ·lia
   ·rw[e];rfl
   ·lia
 refine⟨r,dx,fl,p',b',xs,_,_,t1,rfl,hR3,wV hR2 g3 (g12 _ _ hfl),ht3.head,λz=>?_,λz=>?_⟩
 ·have e:gK [] 0 l= .good t:=by
   rw[<-hd];exact zGz (S:=xG [] b' t) (mL (ce.mp z))
  have g4:=g3.trans (Rm.put hR3 (rO C dx fl (p'+1) b'));refine out.good t e v _ (sam _ g4) (Rep.same (λb o eb=>?_) _ _ hv3);have h2:=jX eb;rw[qC h2] at eb;have h1:H b=none:=uZ (g1.trans g12) h2;have hbr:b≠r:=λz=>by rw[z,hR2] at h2;cases h2
  rw[qC h1,zN hbr];exact eb
 ·refine(outB t1.n ?_).rm g3
  rw[<-hd];exact vI (S:=xG [] b' t) (mG λy=>z (ce.mpr y))
end
end K26
namespace K26
open PySem L2 PySem.W
seal L2.PSs L2.PS L2.PE L2.PT L2.PW L2.PA L2.PI L2.PG L2.PGs L2.PPs L2.PTs
abbrev sLb:Stmt:=top 50
abbrev sLy:Stmt:=top 51
abbrev sLv:Stmt:=top 52
theorem zKz(d:Nat)(r:List Nat):NumText.digitsVal (d::r)=(d - 48)*10 ^ r.length+NumText.digitsVal r:=by
 refine zBi (P:=λr=>NumText.digitsVal (d::r)=(d - 48)*10 ^ r.length+NumText.digitsVal r) ?_ (λr c ih=>?_) r
 ·show 0*10+(d - 48)=(d - 48)*1+0;lia
 ·rw[<-nP,zBa,zBa,ih,mC,sB,Nat.pow_succ,Nat.add_mul,Nat.mul_assoc,Nat.add_assoc]
theorem zSo:∀r:List Nat,(∀c∈r,48<=c)->(List.replicate r.length 48<r↔0<NumText.digitsVal r)
 | [],_=>by
  constructor
  ·intro h;cases h
  ·intro h;exact absurd h (by decide)
 | c::r,h=>by
  rw[zKz,mE,pA,List.cons_lt_cons_iff,zSo r λc hc=>h c (mR _ hc)];have h1:=h c mH;have hp:0<10 ^ r.length:=Nat.pow_pos (by decide);constructor
  ·rintro(h2 |⟨_,h2⟩)
   ·have:1*10 ^ r.length<=(c - 48)*10 ^ r.length:=bX _ (by lia)
    lia
   ·lia
  ·intro h2
   by_cases h3:c=48
   ·refine .inr ⟨h3.symm, ?_⟩
    rw[h3,aE,Nat.zero_mul] at h2
    lia
   ·exact .inl (by lia)
theorem dv_13{d:Nat}{r:List Nat}(hd:49<=d)(hr:∀c∈r,48<=c)(hl:r.length=12):(49::List.replicate 12 48<d::r)↔10 ^ 12<NumText.digitsVal (d::r):=by
 have h:=zSo r hr;rw[hl] at h;rw[zKz,hl,List.cons_lt_cons_iff,h];constructor
 ·rintro(h2 |⟨h2,h3⟩)
  ·have:2*10 ^ 12<=(d - 48)*10 ^ 12:=bX _ (by lia)
   lia
  ·rw[<-h2];lia
 ·intro h2
  by_cases h3:d=49
  ·refine .inr ⟨h3.symm, ?_⟩
   rw[h3] at h2
   lia
  ·exact .inl (by lia)
section
variable{P:Program}{w:World}{K:PySem.W.Frag}{mg:Str->Option Value}{base:Heap}{f:Addr}{fd:FuncData}
def spLb:Sp:=λvs H Q _=>∃t:Lk,vs= [.str (kR t.k), .str (tx t.s)]/\OkL t/\t.k≠5/\∀H',Same H H'->Q (.bl (kM t.k t.s)) H'
theorem scLb:zV ["_law_kind","_law_string"] ["_law_kind","_law_string"] (zO sLb):=by walk_at "sc"
theorem ok_lb(F:Fun K "_law_begins" "_law_begins" sLb f fd)(B:Bl mg)(M:Ms mg):FnOk P w K mg base CX0 1 f fd ["_law_kind","_law_string"] spLb:=by
 refine F.ok scLb (by walk_at "ln") λc A o s H vs Q E hr h=>?_;obtain⟨⟨k,z,n⟩,rfl,⟨hlen,hz⟩,h5,q⟩:=h;have nd:=scLb.nd;have hu:=uI hr;dsimp only at hz q hlen h5;refine⟨_,(zD (zQ (zK zS (pv 0) zC (zJ _)) (zG (zM (zAq (zW zS (pv 1) zC (zJ _)) (zAq (zW wS (zR vO (pv 1) zE (λ_ _=>rfl)) zC (by with_unfolding_all rfl)) (xI (xV (zW zS (zR vO (pv 1) zE (λ_ _=>rfl)) zC (zJ _)) (xI (zW qD (zR vO (pv 1) zE (λ_ _=>rfl)) zC (zJ _))))))))) zL)
  (zD (zQ (zK zS (pv 0) zC (zJ _)) (zG (zM (zW zEd (pv 1) (zT (zA zC (zA zC (zA zC zB)))) (by with_unfolding_all rfl)))) zL)
  (zG (zM (zAq (zW zS (pv 0) zC (zJ _)) (xI (xV (zW zS (pv 0) zC (zJ _)) (xI (zW wS (pv 1) zC (by with_unfolding_all rfl)))))))))), ?_⟩
 walk_at "st";walk_at "rd6";rcases hz with⟨rfl,hz⟩|⟨rfl,hz⟩|⟨rfl,hz⟩|⟨rfl,c,rfl,hc⟩|⟨rfl,rfl⟩| rfl
 ·obtain⟨fs,hf,hc,e0,hs⟩:=vK hz
  refine iP rfl ?_;have eb:kM 0 z=zCj z:=rfl;rw[eb] at q;unfold zCj at q;rw[e0] at q;have hsz:(tx z).length<=16777216:=by rw[zU];lia
  by_cases h0:z= [48]
  ·refine iP (by rw[h0];rfl) ?_
   rw[nB h0,aR] at q;exact q _ (Same.refl _)
  rw[mM h0,tP] at q;refine iN (λy=>h0 (by have:=congrArg ts y;rw[yK] at this;exact this)) ?_
  cases fs with
  | nil=>exact absurd rfl hf
  | cons d r=>
  have hd:=hc d mH;have e9:∀c:Nat,c∈ts (Str.ofString "123456789")↔49<=c/\c<=57:=λc=>by
   rw[show ts (Str.ofString "123456789")= [49,50,51,52,53,54,55,56,57] from rfl];simp only[mF,nM,pZ];omega
  have eh:(!decide ((d::r).head? =some 48))= !decide (d=48):=by simp
  rw[eh] at q;rcases hs with⟨rfl,_⟩|⟨rfl,_⟩
  ·refine xU (by rw[mJ];exact hsz) (yF (j:=0) (show(d::r)[0]? =some d from rfl)) ⟨d,rfl, ?_⟩
   by_cases h48:d=48
   ·refine iN (λy=>by have:=(e9 d).mp y;lia) (xU (by rw[mJ];exact hsz) (yF (j:=0) (show(d::r)[0]? =some d from rfl)) ⟨rfl,iN (λy=>?_) ?_⟩)
    ·have:=congrArg ts (V.str.inj y)
     have: [d]= [45]:=this;simp at this
     lia
    ·rw[nB h48] at q
     exact q _ (Same.refl _)
   ·refine iP ((e9 d).mpr (by lia)) ?_
    rw[mM h48] at q;exact q _ (Same.refl _)
  ·refine xU (by rw[mJ];exact hsz) (yF (j:=0) (show(45::d::r)[0]? =some 45 from rfl)) ⟨45,rfl,iN (λy=>by have:=(e9 45).mp y;lia) (xU (by rw[mJ];exact hsz) (yF (j:=0) (show(45::d::r)[0]? =some 45 from rfl)) ⟨rfl,iP rfl (xU (by rw[mJ];exact hsz) (yF (j:=1) (show(45::d::r)[1]? =some d from rfl)) ⟨rfl, ?_⟩)⟩)⟩
   have:decide (V.str (tx [d])=V.str (Str.ofString "0"))=decide (d=48):=pJ.mpr ⟨λy=>by
    have:=congrArg ts (V.str.inj y);have: [d]= [48]:=this
    simpa using this,λy=>by rw[y];rfl⟩
   rw[<-this] at q;exact q _ (Same.refl _)
 ·refine iN (by decide+kernel) (iP rfl λp hp=>⟨p,_,rfl, .inl (SqL.of zF),rfl,rfl, ?_⟩)
  have e:kM 1 z=inV (V.str (tx z)) [V.str (Str.ofString "none"),V.str (Str.ofString "yes"),V.str (Str.ofString "no")]:=by
   have ez:∀u:Str,(V.str (tx z)=V.str u)↔z=ts u:=λu=>⟨λy=>by rw[<-V.str.inj y,yK],λy=>by rw[y,qP]⟩;show decide (z=zEf\/z=zNc\/z=wNo)=_;show _=(decide (Str.ofString "none" =tx z)||(decide (Str.ofString "yes" =tx z)||(decide (Str.ofString "no" =tx z)|| false)))
   have e2:∀u:Str,decide (u=tx z)=decide (z=ts u):=λu=>pJ.mpr ⟨λy=>by rw[y,yK],λy=>by rw[y,qP]⟩;rw[e2,e2,e2,bD,Bool.decide_or,Bool.decide_or]
   rfl
  rw[e] at q;exact q _ (zH hp _)
 ·exact iN (show¬kS 2=Str.ofString "number" by decide+kernel) (iN (show¬kS 2=Str.ofString "word" by decide+kernel) (iP rfl (q _ (Same.refl _))))
 ·refine iN (show¬kS 3=Str.ofString "number" by decide+kernel) (iN (show¬kS 3=Str.ofString "word" by decide+kernel) (iN (show¬kS 3=Str.ofString "text" by decide+kernel) (iP rfl ⟨c,rfl, ?_⟩)))
  have e:kM 3 [c]=decide (c∈ts (Str.ofString "[{")):=by
   show decide ([c]= [91]\/ [c]= [123])=_;rw[show ts (Str.ofString "[{")= [91,123] from rfl];exact pJ.mpr (by simp)
  rw[e] at q;exact q _ (Same.refl _)
 ·exact iN (show¬kR 4=Str.ofString "number" by decide+kernel) (iN (show¬kR 4=Str.ofString "word" by decide+kernel) (iN (show¬kR 4=Str.ofString "text" by decide+kernel) (iN (show¬kR 4=Str.ofString "mark" by decide+kernel) (q _ (Same.refl _)))))
 ·exact absurd rfl h5
def spLy:Sp:=λvs H Q _=>∃(t:Lk)(d:Nat),vs= [.str (kR t.k), .str (tx t.s), .int d]/\OkL t/\t.k≠5/\kM t.k t.s=true/\Q (.bl (decide (t.k=3/\d=8)|| qW t.k t.s)) H
theorem scLy:zV ["_law_kind","_law_string","_law_deep_here","_law_size_here"] ["_law_kind","_law_string","_law_deep_here"] (zO sLy):=by walk_at "sc"
theorem ok_ly(F:Fun K "_law_beyond" "_law_beyond" sLy f fd)(B:Bl mg)(M:Ms mg):FnOk P w K mg base CX0 1 f fd ["_law_kind","_law_string","_law_deep_here"] spLy:=by
 refine F.ok scLy (by walk_at "ln") λc A o s H vs Q E hr h=>?_;obtain⟨⟨k,z,n⟩,d,rfl,⟨hlen,hz⟩,h5,hb,q⟩:=h;have nd:=scLy.nd;dsimp only at hz q hlen h5 hb;refine⟨_,(zD (zQ (zK zS (pv 0) zC (zJ _)) (zD (pS 3 nd (yV wO (pv 1) (yQ (yM yX rfl B.int xH (zA (zW zS (zR vO (pv 1) zE (λ_ _=>rfl)) zC (zJ _)) zB))) wP))
  (zG (zM (zAq (zW wW (zP yE rfl B.len yH (zA (pv 3) zB)) zE (zJ _)) (xI (xV (zW zS (zP yE rfl B.len yH (zA (pv 3) zB)) zE (zJ _)) (xI (zW zNf (pv 3) zC (zJ _))))))))) zL)
  (zD (zQ (zK zS (pv 0) zC (zJ _)) (zG (zM (zW wW (zP yE rfl B.len yH (zA (pv 1) zB)) zE (zJ _)))) zL)
  (zG (zM (xV (zW zS (pv 0) zC (zJ _)) (xI (zW zS (pv 2) zE (zJ _)))))))), ?_⟩
 walk_at "st";walk_at "rd6";rcases hz with⟨rfl,hz⟩|⟨rfl,hz⟩|⟨rfl,hz⟩|⟨rfl,c,rfl,hc⟩|⟨rfl,rfl⟩| rfl
 ·have ha:=zLz hz
  obtain⟨fs,hf,hc,e0,hs⟩:=vK hz;have hsz:(tx z).length<=16777216:=by rw[zU];lia
  have eq:(decide (0=3/\d=8)|| qW 0 z)=decide (10 ^ 12<NumText.digitsVal fs):=by
   rw[mM (show¬(0=3/\d=8) from λy=>absurd y.1 (by decide)),tP];show decide (10 ^ 12<(gU z).natAbs)=_;rw[ha,e0]
  rw[eq] at q;have hfl:fs.length<=z.length:=by
   rcases hs with⟨h,_⟩|⟨h,_⟩
   ·rw[h];exact mK _
   ·rw[h];exact tW _
  have head:∀d r,fs=d::r->r≠ []->49<=d:=λd r e hr=>by
   have h1:=hc d (by rw[e];exact mH);have:d≠48:=λy=>by
    have hb:zCj z=true:=hb;unfold zCj at hb;rw[e0,e,y] at hb;have h0:z≠ [48]:=λy2=>by
     rcases hs with⟨h,_⟩|⟨h,_⟩
     ·rw[h,e] at y2
      simp at y2;exact hr y2.2
     ·rw[h] at y2
      simp at y2
    rw[mM h0] at hb;simp at hb
   lia
  have key:∀i:Nat,z.drop i=fs->rSlS (V.str (tx z)) (some (i:Int)) none H λx H1=>∃z,x=V.str z/\z.length<=16777216/\if 13<(z.length:Int) then Q (V.bl true) H1 else∃z,x=V.str z/\z.length<=16777216/\if(z.length:Int)=13 then∃i,x=V.str i/\Q (V.bl (decide ((Str.ofString "1000000000000").cps.toList<i.cps.toList))) H1 else Q (V.bl false) H1:=λi hi=>by
   refine⟨_,rfl,by rw[mJ];exact hsz, ?_⟩;rw[zBk,yK,hi];have hl:(tx fs).length=fs.length:=zU _;refine⟨tx fs,rfl,by rw[hl];lia, ?_⟩;rw[hl]
   by_cases h13:13<fs.length
   ·refine iP (by lia) ?_
    cases fs with
    | nil=>exact absurd rfl hf
    | cons d r=>
     rw[mE] at h13;have h1:=head d r rfl (λy=>by rw[y] at h13;simp at h13);have h2:=zTz h1 r;have h3:10 ^ 13<=10 ^ r.length:=aH (by decide) (by lia);rw[nB (by lia)] at q;exact q
   refine iN (by lia) ⟨tx fs,rfl,by rw[hl];lia, ?_⟩;rw[hl]
   by_cases he:fs.length=13
   ·refine iP (by lia) ⟨_,rfl, ?_⟩
    cases fs with
    | nil=>exact absurd rfl hf
    | cons d r=>
     rw[mE] at he;have h1:=head d r rfl (λy=>by rw[y] at he;simp at he);rw[pJ.mpr (dv_13 h1 (λc h=>(hc c (mR _ h)).1) (by lia)).symm] at q;exact q
   ·refine iN (by lia) ?_
    have h1:=zUz fs λc h=>(hc c h).2;have h2:10 ^ fs.length<=10 ^ 12:=aH (by decide) (by lia);rw[mM (by lia)] at q;exact q
  cases fs with
  | nil=>exact absurd rfl hf
  | cons d r=>
  have hd:=hc d mH;rcases hs with⟨rfl,_⟩|⟨rfl,_⟩
  ·refine iP rfl (xU (by rw[mJ];exact hsz) (yF (j:=0) (show(d::r)[0]? =some d from rfl)) ⟨rfl, ?_⟩)
   rw[mG (λy=>by
    have:=congrArg ts (V.str.inj y);have: [d]= [45]:=this;simp at this
    lia)]
   exact key 0 rfl
  ·refine iP rfl (xU (by rw[mJ];exact hsz) (yF (j:=0) (show(45::d::r)[0]? =some 45 from rfl)) ⟨rfl, ?_⟩)
   rw[mL (show V.str (tx [45])=V.str (Str.ofString "-") from rfl)];exact key 1 rfl
 ·have e:(decide (1=3/\d=8)|| qW 1 z)=false:=by
   rw[mM (show¬(1=3/\d=8) from λy=>absurd y.1 (by decide))];rfl
  rw[e] at q;exact iN (by decide+kernel) (iN (by decide+kernel) (iN (by decide+kernel) q))
 ·have e:(decide (2=3/\d=8)|| qW 2 z)=decide (30<((tx z).length:Int)):=by
   rw[mM (show¬(2=3/\d=8) from λy=>absurd y.1 (by decide)),zU];exact pJ.mpr (by lia)
  rw[e] at q;exact iN (show¬kS 2=Str.ofString "number" by decide+kernel) (iP rfl ⟨by rw[zU];lia,q⟩)
 ·have e:(decide (3=3/\d=8)|| qW 3 [c])=decide ((d:Int)=8):=by
   rw[show qW 3 [c]=false from rfl,bD];exact pJ.mpr (by lia)
  rw[e] at q;exact iN (show¬kS 3=Str.ofString "number" by decide+kernel) (iN (show¬kS 3=Str.ofString "text" by decide+kernel) (iP rfl q))
 ·cases hb
 ·cases hb
def spLv:Sp:=λvs H Q _=>∃t:Lk,vs= [.str (kR t.k), .str (tx t.s)]/\OkL t/\kM t.k t.s=true/\qW t.k t.s=false/\t.k≠5/\(t.k≠3->∀v H',Same H H'->(∀Hx,Rep Hx v (vM t.k t.s))->Q v H')/\(t.k=3->∀a H',Same H H'->H a=none->H' a=some (if t.s= [91] then .lst [] else .dK [])->Q (.ref a) H')
theorem scLv:zV ["_law_kind","_law_string"] ["_law_kind","_law_string"] (zO sLv):=by walk_at "sc"
theorem ok_lv(F:Fun K "_law_value" "_law_value" sLv f fd)(B:Bl mg)(M:Ms mg):FnOk P w K mg base CX0 1 f fd ["_law_kind","_law_string"] spLv:=by
 refine F.ok scLv (by walk_at "ln") λc A o s H vs Q E hr h=>?_;obtain⟨⟨k,z,n⟩,rfl,⟨hlen,hz⟩,hb,hy,h5,q,q3⟩:=h;have nd:=scLv.nd;have hu:=uI hr;dsimp only at hz q hlen h5 hb hy q3;refine⟨_,(zD (zQ (zK zS (pv 0) zC (zJ _)) (zG (zM (yM uR rfl B.int xH (zA (pv 1) zB)))) zL)
  (zD (zQ (zK zS (pv 0) zC (zJ _)) (zG (zM (pv 1))) zL)
  (zD (zQ (zK zS (pv 0) zC (zJ _)) (zG (zM (zR zY (zT (zA kZ (zA vQ (zA vQ zB)))) (wG nX PySem.F.slot_list_index PySem.F.type_list_index zQk (zT (zA zC (zA zC (zA zC zB)))) (zA (pv 1) zB)) (λ_ _=>rfl)))) zL)
  (zG (zM (zR zY (zT (zA (zT zB) (zA zIx zB))) (yM yX rfl B.int xH (zA (zW zS (pv 1) zC (zJ _)) zB)) (λ_ _=>rfl))))))), ?_⟩
 walk_at "st";walk_at "rd6";rcases hz with⟨rfl,hz⟩|⟨rfl,hz⟩|⟨rfl,hz⟩|⟨rfl,c,rfl,hc⟩|⟨rfl,rfl⟩| rfl
 ·have h14:z.length<=14:=by
   refine Nat.le_of_not_lt λy=>?_;rw[zJk hz hb y] at hy;cases hy
  exact iP rfl ⟨gU z,zEp hz (by lia),by rw[zU];lia,q (by decide) _ _ (Same.refl _) λ_=>rfl⟩
 ·refine iN (by decide+kernel) (iN (by decide+kernel) (iP rfl λp hp p1 hp1=>?_))
  have g1:=zH hp (HO.lst [V.non,V.bl true,V.bl false]);have h1:upd H p (HO.lst [V.non,V.bl true,V.bl false]) p=_:=zF;generalize upd H p (HO.lst [V.non,V.bl true,V.bl false])=H1 at g1 h1 hp1⊢;have g2:=zH hp1 (HO.lst [V.str (Str.ofString "none"),V.str (Str.ofString "yes"),V.str (Str.ofString "no")]);have h2:upd H1 p1 (HO.lst [V.str (Str.ofString "none"),V.str (Str.ofString "yes"),V.str (Str.ofString "no")]) p1=_:=zF;generalize upd H1 p1 (HO.lst [V.str (Str.ofString "none"),V.str (Str.ofString "yes"),V.str (Str.ofString "no")])=H2 at g2 h2⊢;have h12:=g2 _ _ h1;have g:=g1.trans g2;refine⟨.inl ⟨rfl,_,SqL.of h2⟩, ?_⟩;have hw:z=zEf\/z=zNc\/z=wNo:=tY hb;rcases hw with rfl | rfl | rfl
  ·exact⟨p1,[Str.ofString "none",Str.ofString "yes",Str.ofString "no"],Str.ofString "none",0,rfl,rfl,SqL.of h2,rfl,λi hi=>absurd hi (dD _),by lia,zZ (SqL.of h12) (v:=.non) rfl (q (by decide) .non _ g λ_=>rfl)⟩
  ·refine⟨p1,[Str.ofString "none",Str.ofString "yes",Str.ofString "no"],Str.ofString "yes",1,rfl,rfl,SqL.of h2,rfl,λi hi=>?_,by lia,zZ (SqL.of h12) (v:=.bl true) rfl (q (by decide) (.bl true) _ g λ_=>by show V.bl true=V.bl true;rfl)⟩
   obtain rfl:i=0:=by lia
   decide+kernel
  ·refine⟨p1,[Str.ofString "none",Str.ofString "yes",Str.ofString "no"],Str.ofString "no",2,rfl,rfl,SqL.of h2,rfl,λi hi=>?_,by lia,zZ (SqL.of h12) (v:=.bl false) rfl (q (by decide) (.bl false) _ g λ_=>by show V.bl false=V.bl false;rfl)⟩
   rcases(show i=0\/i=1 by lia) with rfl | rfl<;>decide+kernel
 ·exact iN (show¬kS 2=Str.ofString "number" by decide+kernel) (iP rfl (q (by decide) _ _ (Same.refl _) λ_=>rfl))
 ·refine iN (show¬kS 3=Str.ofString "number" by decide+kernel) (iN (show¬kS 3=Str.ofString "text" by decide+kernel) (iN (show¬kS 3=Str.ofString "word" by decide+kernel) λp hp p1 hp1 p2 hp2=>?_))
  have q3:=q3 rfl;have n1:p1≠p:=λy=>by rw[y,zF] at hp1;cases hp1
  have hp1':H p1=none:=by rw[zN n1] at hp1;exact hp1
  have n2:p2≠p1:=λy=>by rw[y,zF] at hp2;cases hp2
  have n3:p2≠p:=λy=>by rw[y,zN (Ne.symm n1),zF] at hp2;cases hp2
  have g:=(zH hp (HO.lst [])).trans ((zH hp1 (HO.dK [])).trans (zH hp2 (HO.lst [V.ref p,V.ref p1])));have hz: [c]= [91]\/ [c]= [123]:=tY hb;rcases hz with e | e
  ·obtain rfl:c=91:=by simpa using e
   rw[mG (show¬tx [91]=Str.ofString "{" by decide+kernel)];exact zZ (SqL.of zF) (v:=.ref p) rfl (q3 p _ g hp (by rw[zN (Ne.symm n3),zN (Ne.symm n1),zF];rfl))
  ·obtain rfl:c=123:=by simpa using e
   rw[mL (show tx [123]=Str.ofString "{" by decide+kernel)];exact zZ (SqL.of zF) (v:=.ref p1) rfl (q3 p1 _ g hp1' (by rw[zN (Ne.symm n2),zF];rfl))
 ·cases hb
 ·cases hb
end
end K26
namespace K26
open PySem L2 PySem.W
noncomputable def duS:Du->Str
 | .thing=>Str.ofString "thing"
 | .first=>Str.ofString "first"
 | .behind=>Str.ofString "behind"
 | .more=>Str.ofString "more"
 | .colon=>Str.ofString "colon"
 | .done=>Str.ofString "end"
noncomputable def Fr.nm:Fr->List Nat
 | .row _=>[]
 | .rcd _ _ nm=>nm
noncomputable def kOf(s:Str):Key:=Sum.inr s
noncomputable def stK(o nn:Addr)(du m wv:V):List (Key×V):=[(kOf (Str.ofString "open"), .ref o),(kOf (Str.ofString "names"), .ref nn),(kOf (Str.ofString "due"),du),(kOf (Str.ofString "many"),m),(kOf (Str.ofString "whole"),wv)]
theorem gW:¬kOf (Str.ofString "open")=kOf (Str.ofString "names"):=by decide+kernel
theorem gG:¬kOf (Str.ofString "open")=kOf (Str.ofString "due"):=by decide+kernel
theorem jQ:¬kOf (Str.ofString "open")=kOf (Str.ofString "many"):=by decide+kernel
theorem jC:¬kOf (Str.ofString "open")=kOf (Str.ofString "whole"):=by decide+kernel
theorem jN:¬kOf (Str.ofString "names")=kOf (Str.ofString "due"):=by decide+kernel
theorem jD:¬kOf (Str.ofString "names")=kOf (Str.ofString "many"):=by decide+kernel
theorem qK:¬kOf (Str.ofString "names")=kOf (Str.ofString "whole"):=by decide+kernel
theorem gM:¬kOf (Str.ofString "due")=kOf (Str.ofString "many"):=by decide+kernel
theorem jM:¬kOf (Str.ofString "due")=kOf (Str.ofString "whole"):=by decide+kernel
theorem zJw:¬kOf (Str.ofString "many")=kOf (Str.ofString "due"):=by decide+kernel
theorem jE:¬kOf (Str.ofString "many")=kOf (Str.ofString "whole"):=by decide+kernel
theorem zIf:¬kOf (Str.ofString "whole")=kOf (Str.ofString "due"):=by decide+kernel
theorem zGq:¬kOf (Str.ofString "whole")=kOf (Str.ofString "many"):=by decide+kernel
section
variable{o nn:Addr}{du m wv v:V}
theorem jH:xM (stK o nn du m wv) (kOf (Str.ofString "open"))=some (.ref o):=by
 unfold stK;rw[wE rfl]
theorem uD:xM (stK o nn du m wv) (kOf (Str.ofString "names"))=some (.ref nn):=by
 unfold stK;rw[yN gW,wE rfl]
theorem zXp:xM (stK o nn du m wv) (kOf (Str.ofString "due"))=some (du):=by
 unfold stK;rw[yN gG,yN jN,wE rfl]
theorem zMr:xM (stK o nn du m wv) (kOf (Str.ofString "many"))=some (m):=by
 unfold stK;rw[yN jQ,yN jD,yN gM,wE rfl]
theorem zSl:xM (stK o nn du m wv) (kOf (Str.ofString "whole"))=some (wv):=by
 unfold stK;rw[yN jC,yN qK,yN jM,yN jE,wE rfl]
theorem jI:vT (stK o nn du m wv) (kOf (Str.ofString "due")) v=stK o nn v m wv:=by
 unfold vT stK;rw[mL (by simp)];simp only[nD,pV,gG,jN,zJw,zIf,tO,sW]
theorem zUx:vT (stK o nn du m wv) (kOf (Str.ofString "many")) v=stK o nn du v wv:=by
 unfold vT stK;rw[mL (by simp)];simp only[nD,pV,jQ,jD,gM,zGq,tO,sW]
theorem zTq:vT (stK o nn du m wv) (kOf (Str.ofString "whole")) v=stK o nn du m v:=by
 unfold vT stK;rw[mL (by simp)];simp only[nD,pV,jC,qK,jM,jE,tO,sW]
end
def off(H:Hp)(m:List Addr):Hp:=λb=>if b∈m then none else H b
theorem zFt{H:Hp}{m:List Addr}{b:Addr}(h:b∉m):off H m b=H b:=mG h
theorem zZf{H:Hp}{m:List Addr}{b:Addr}(h:b∈m):off H m b=none:=mL h
theorem vW{H:Hp}{m:List Addr}{b:Addr}{u:HO}(h:off H m b=some u):b∉m/\H b=some u:=by
 by_cases hb:b∈m
 ·rw[zZf hb] at h;cases h
 ·exact⟨hb,by rw[zFt hb] at h;exact h⟩
theorem uM{H H':Hp}{m m':List Addr}(h:∀b,b∉m->b∉m')(g:∀b u,b∉m->H b=some u->H' b=some u):Same (off H m) (off H' m'):=λb u e=>by
 obtain⟨h1,h2⟩:=vW e;rw[zFt (h b h1)];exact g b u h1 h2
def cut(F H:Hp)(m:List Addr):Hp:=λb=>if b∈m\/(F b).isSome=true then none else match H b with
 | some (.lst xs)=>some (.lst xs)
 | some (.dK ps)=>some (.dK ps)
 | _=>none
theorem zIb{F H:Hp}{m:List Addr}{b:Addr}{u:HO}(h:cut F H m b=some u):b∉m/\F b=none/\H b=some u/\((∃xs,u= .lst xs)\/∃ps,u= .dK ps):=by
 unfold cut at h;split at h
 ·cases h
 rename_i hn;have hb:b∉m:=λz=>hn (.inl z);have hF:F b=none:=by
  cases e:F b with
  | none=>rfl
  | some x=>exact absurd (.inr (by rw[e];rfl)) hn
 split at h
 ·rename_i xs e;cases h;exact⟨hb,hF,e, .inl ⟨xs,rfl⟩⟩
 ·rename_i ps e;cases h;exact⟨hb,hF,e, .inr ⟨ps,rfl⟩⟩
 ·cases h
theorem zJu{F H:Hp}{m:List Addr}{b:Addr}{u:HO}(h1:b∉m)(h2:F b=none)(h3:H b=some u)(h4:(∃xs,u= .lst xs)\/∃ps,u= .dK ps):cut F H m b=some u:=by
 unfold cut;rw[mG (λz=>z.elim h1 λz=>by rw[h2] at z;cases z),h3];rcases h4 with⟨xs,rfl⟩|⟨ps,rfl⟩<;>rfl
theorem vP{F H H':Hp}{m m':List Addr}(h:∀b,b∉m->H b≠none->b∉m')(g:∀b u,b∉m->H b=some u->H' b=some u):Same (cut F H m) (cut F H' m'):=λb u e=>by
 obtain⟨h1,h2,h3,h4⟩:=zIb e;exact zJu (h b h1 (by rw[h3];exact λz=>nomatch z)) h2 (g b u h1 h3) h4
def Opn(G H:Hp):Option V->List Addr->List Fr->Prop
 | _,[],[]=>True
 | c,a::as, .row us::fs=>(∃vs,H a=some (.lst (vs++c.toList))/\Reps G vs us)/\Opn G H (some (.ref a)) as fs
 | c,a::as, .rcd ks us nm::fs=>(∃ps:List (Key×V),H a=some (.dK (ps++(c.map λv=>(nK nm,v)).toList))/\ps.map (·.1)=ks.map nK/\Reps G (ps.map (·.2)) us/\(c.isSome=true->nm∉ks))/\Opn G H (some (.ref a)) as fs
 | _,_,_=>False
theorem Opn.mono{G G' H H':Hp}(g:Same G G'):∀{as:List Addr}{fs:List Fr}{c:Option V},(∀b∈as,H' b=H b)->Opn G H c as fs->Opn G' H' c as fs
 | [],[],_,_,h=>h
 | a::as, .row us::fs,c,e,⟨⟨vs,h1,h2⟩,h3⟩=>⟨⟨vs,by rw[e a mH];exact h1,Reps.same g _ _ h2⟩,Opn.mono g (λb hb=>e b (mR _ hb)) h3⟩
 | a::as, .rcd ks us nm::fs,c,e,⟨⟨ps,h1,h2,h3,h4⟩,h5⟩=>⟨⟨ps,by rw[e a mH];exact h1,h2,Reps.same g _ _ h3,h4⟩,Opn.mono g (λb hb=>e b (mR _ hb)) h5⟩
theorem Opn.len{G H:Hp}:∀{as:List Addr}{fs:List Fr}{c:Option V},Opn G H c as fs->as.length=fs.length
 | [],[],_,_=>rfl
 | _::_, .row _::_,_,⟨_,h⟩=>congrArg (· +1) (Opn.len h)
 | _::_, .rcd _ _ _::_,_,⟨_,h⟩=>congrArg (· +1) (Opn.len h)
 | _::_,[],_,h=>h.elim
 | [],_::_,_,h=>h.elim
theorem Opn.there{G H:Hp}:∀{as:List Addr}{fs:List Fr}{c:Option V},Opn G H c as fs->∀b∈as,∃u,H b=some u
 | [],[],_,_,b,hb=>nomatch hb
 | a::as, .row _::_,_,⟨⟨vs,h1,_⟩,h⟩,b,hb=>(mF.mp hb).elim (λe=>by subst e;exact⟨_,h1⟩) (λhb=>Opn.there h b hb)
 | a::as, .rcd _ _ _::_,_,⟨⟨vs,h1,_⟩,h⟩,b,hb=>(mF.mp hb).elim (λe=>by subst e;exact⟨_,h1⟩) (λhb=>Opn.there h b hb)
abbrev mtb(st o nn:Addr)(ex as:List Addr):List Addr:=st::o::nn::(ex++as)
structure Scn(F H:Hp)(st o nn:Addr)(ex as:List Addr)(fs:List Fr)(os ns:List V)(du m wv:V)(c:Option V):Prop where
 nd:(mtb st o nn ex as).Nodup
 hst:H st=some (.dK (stK o nn du m wv))
 ho:H o=some (.lst os)
 hn:H nn=some (.lst ns)
 op:Opn (cut F H (mtb st o nn ex as)) H c as fs
 hF:Same F (off H (mtb st o nn ex as))
section
variable{F H H':Hp}{st o nn:Addr}{ex as:List Addr}{fs:List Fr}{os ns:List V}{du m wv:V}{c:Option V}
theorem Scn.same(h:Scn F H st o nn ex as fs os ns du m wv c)(g:Same H H'):Scn F H' st o nn ex as fs os ns du m wv c:=
 ⟨h.nd,g _ _ h.hst,g _ _ h.ho,g _ _ h.hn,h.op.mono (vP (λ_ z _=>z) λb u _ e=>g b u e) (λb hb=>by obtain⟨u,e⟩:=h.op.there b hb;rw[e];exact g b u e),h.hF.trans (uM (λ_ z=>z) λb u _ e=>g b u e)⟩
theorem Scn.wr(h:Scn F H st o nn ex as fs os ns du m wv c){x:Addr}(hx:x∈mtb st o nn ex as)(hxa:x∉as)(u:HO):Opn (cut F (upd H x u) (mtb st o nn ex as)) (upd H x u) c as fs/\Same F (off (upd H x u) (mtb st o nn ex as)):=by
 have g:Same (off H (mtb st o nn ex as)) (off (upd H x u) (mtb st o nn ex as)):=uM (λ_ z=>z) λb w hb e=>by rw[zN (λz:b=x=>hb (by rw[z];exact hx))];exact e
 have g':Same (cut F H (mtb st o nn ex as)) (cut F (upd H x u) (mtb st o nn ex as)):=vP (λ_ z _=>z) λb w hb e=>by rw[zN (λz:b=x=>hb (by rw[z];exact hx))];exact e
 exact⟨h.op.mono g' λb hb=>by rw[zN (λz:b=x=>hxa (by rw[<-z];exact hb))],h.hF.trans g⟩
theorem Scn.dis(h:Scn F H st o nn ex as fs os ns du m wv c):st≠o/\st≠nn/\o≠nn/\st∉as/\o∉as/\nn∉as:=by
 have h0:=h.nd;simp only[mtb,pE,mF,pG,cA] at h0;obtain⟨⟨a,b,_,d⟩,⟨e,_,f⟩,⟨_,g⟩,_⟩:=h0;exact⟨a,b,e,d,f,g⟩
theorem Scn.wst(h:Scn F H st o nn ex as fs os ns du m wv c)(du' m' wv':V):Scn F (upd H st (.dK (stK o nn du' m' wv'))) st o nn ex as fs os ns du' m' wv' c:=by
 obtain⟨a,b,e,d,f,g⟩:=h.dis;obtain⟨x,y⟩:=h.wr (x:=st) (by simp) d (.dK (stK o nn du' m' wv'));exact⟨h.nd,zF,by rw[zN (Ne.symm a)];exact h.ho,by rw[zN (Ne.symm b)];exact h.hn,x,y⟩
theorem Scn.wo(h:Scn F H st o nn ex as fs os ns du m wv c)(os':List V):Scn F (upd H o (.lst os')) st o nn ex as fs os' ns du m wv c:=by
 obtain⟨a,b,e,d,f,g⟩:=h.dis;obtain⟨x,y⟩:=h.wr (x:=o) (by simp) f (.lst os');exact⟨h.nd,by rw[zN a];exact h.hst,zF,by rw[zN (Ne.symm e)];exact h.hn,x,y⟩
theorem Scn.wn(h:Scn F H st o nn ex as fs os ns du m wv c)(ns':List V):Scn F (upd H nn (.lst ns')) st o nn ex as fs os ns' du m wv c:=by
 obtain⟨a,b,e,d,f,g⟩:=h.dis;obtain⟨x,y⟩:=h.wr (x:=nn) (by simp) g (.lst ns');exact⟨h.nd,by rw[zN b];exact h.hst,by rw[zN e];exact h.ho,zF,x,y⟩
theorem Scn.fresh(h:Scn F H st o nn [] as fs os ns du m wv c)(g:Same H H'){b:Addr}(hb:H b=none):Scn F H' st o nn [b] as fs os ns du m wv c:=by
 have n1:b∉mtb st o nn [] as:=λz=>by
  rcases mF.mp z with z | z
  ·rw[z,h.hst] at hb;cases hb
  rcases mF.mp z with z | z
  ·rw[z,h.ho] at hb;cases hb
  rcases mF.mp z with z | z
  ·rw[z,h.hn] at hb;cases hb
  ·obtain⟨u,e⟩:=h.op.there b z
   rw[hb] at e;cases e
 have g':Same (off H (mtb st o nn [] as)) (off H' (mtb st o nn [b] as)):=λx u e=>by
  obtain⟨h1,h2⟩:=vW e;have hx:x≠b:=λz=>by rw[z,hb] at h2;cases h2
  rw[zFt (λz=>?_)]
  ·exact g x u h2
  ·simp only[mtb,mF,nH,nP] at z h1
   rcases z with z | z | z | z | z
   ·exact h1 (.inl z)
   ·exact h1 (.inr (.inl z))
   ·exact h1 (.inr (.inr (.inl z)))
   ·exact hx z
   ·exact h1 (.inr (.inr (.inr z)))
 have gc:Same (cut F H (mtb st o nn [] as)) (cut F H' (mtb st o nn [b] as)):=vP (λx h1 h2 z=>by
  have hx:x≠b:=λz=>h2 (by rw[z];exact hb);simp only[mtb,mF,nH,nP] at z h1;rcases z with z | z | z | z | z
  ·exact h1 (.inl z)
  ·exact h1 (.inr (.inl z))
  ·exact h1 (.inr (.inr (.inl z)))
  ·exact hx z
  ·exact h1 (.inr (.inr (.inr z)))) λx u _ e=>g x u e
 have nd:=h.nd;refine⟨?_,g _ _ h.hst,g _ _ h.ho,g _ _ h.hn,h.op.mono gc (λx hx=>by obtain⟨u,e⟩:=h.op.there x hx;rw[e];exact g x u e),h.hF.trans g'⟩;simp only[mtb,nH,nP,pE,mF,cA] at nd n1⊢;obtain⟨⟨a1,a2,a3⟩,⟨b1,b2⟩,c1,d1⟩:=nd;obtain⟨e1,e2,e3,e4⟩:=n1;exact⟨⟨a1,a2,Ne.symm e1,a3⟩,⟨b1,Ne.symm e2,b2⟩,⟨Ne.symm e3,c1⟩,e4,d1⟩
theorem Scn.wr0{a:Addr}{f:Fr}(h:Scn F H st o nn ex (a::as) (f::fs) os ns du m wv c)(u:HO):Same (off H (mtb st o nn ex (a::as))) (off (upd H a u) (mtb st o nn ex (a::as)))/\Same (cut F H (mtb st o nn ex (a::as))) (cut F (upd H a u) (mtb st o nn ex (a::as)))/\(∀b∈as,upd H a u b=H b)/\upd H a u st=H st/\upd H a u o=H o/\upd H a u nn=H nn:=by
 obtain⟨_,_,_,d,e,g⟩:=h.dis;have ha:a∈mtb st o nn ex (a::as):=by simp
 have hn:=h.nd;have hna:a∉as:=by
  simp only[mtb,pE,List.nodup_append] at hn;exact hn.2.2.2.2.1.1
 refine⟨uM (λ_ z=>z) λb w hb e=>by rw[zN (λz:b=a=>hb (by rw[z];exact ha))];exact e,vP (λ_ z _=>z) λb w hb e=>by rw[zN (λz:b=a=>hb (by rw[z];exact ha))];exact e,λb hb=>zN (λz:b=a=>hna (by rw[<-z];exact hb)),zN (λz=>d (by rw[z];simp)),zN (λz=>e (by rw[z];simp)),zN (λz=>g (by rw[z];simp))⟩
theorem Scn.leafL{a:Addr}{us:List T}(h:Scn F H st o nn ex (a::as) (.row us::fs) os ns du m wv none){v:V}{t:T}(hv:∀Hx,Rep Hx v t){vs:List V}(ha:H a=some (.lst vs)):Scn F (upd H a (.lst (vs++ [v]))) st o nn ex (a::as) (.row (us++ [t])::fs) os ns du m wv none:=by
 obtain⟨g,gc,g1,g2,g3,g4⟩:=h.wr0 (.lst (vs++ [v]));obtain⟨⟨vs',h1,h2⟩,h3⟩:=h.op;rw[show vs'++(none:Option V).toList=vs' from mN _] at h1;rw[ha] at h1;cases h1;exact⟨h.nd,by rw[g2];exact h.hst,by rw[g3];exact h.ho,by rw[g4];exact h.hn,⟨⟨vs++ [v],by rw[zF];exact congrArg (λz=>some (HO.lst z)) (mN _).symm,Reps.snoc (hv _) (Reps.same gc _ _ h2)⟩,h3.mono gc g1⟩,h.hF.trans g⟩
theorem Scn.holdL{a:Addr}{us:List T}(h:Scn F H st o nn ex (a::as) (.row us::fs) os ns du m wv none)(v:V){vs:List V}(ha:H a=some (.lst vs)):Scn F (upd H a (.lst (vs++ [v]))) st o nn ex (a::as) (.row us::fs) os ns du m wv (some v):=by
 obtain⟨g,gc,g1,g2,g3,g4⟩:=h.wr0 (.lst (vs++ [v]));obtain⟨⟨vs',h1,h2⟩,h3⟩:=h.op;rw[show vs'++(none:Option V).toList=vs' from mN _] at h1;rw[ha] at h1;cases h1;exact⟨h.nd,by rw[g2];exact h.hst,by rw[g3];exact h.ho,by rw[g4];exact h.hn,⟨⟨vs,zF,Reps.same gc _ _ h2⟩,h3.mono gc g1⟩,h.hF.trans g⟩
theorem Scn.leafD{a:Addr}{ks:List (List Nat)}{us:List T}{nm:List Nat}(h:Scn F H st o nn ex (a::as) (.rcd ks us nm::fs) os ns du m wv none){v:V}{t:T}(hv:∀Hx,Rep Hx v t){ps:List (Key×V)}(ha:H a=some (.dK ps)):Scn F (upd H a (.dK (ps++ [(nK nm,v)]))) st o nn ex (a::as) (.rcd (ks++ [nm]) (us++ [t]) nm::fs) os ns du m wv none:=by
 obtain⟨g,gc,g1,g2,g3,g4⟩:=h.wr0 (.dK (ps++ [(nK nm,v)]));obtain⟨⟨ps',h1,h2,h3,_⟩,h4⟩:=h.op;rw[show ps'++((none:Option V).map λv=>(nK nm,v)).toList=ps' from mN _] at h1;rw[ha] at h1;cases h1;refine⟨h.nd,by rw[g2];exact h.hst,by rw[g3];exact h.ho,by rw[g4];exact h.hn,⟨⟨ps++ [(nK nm,v)],by rw[zF];exact congrArg (λz=>some (HO.dK z)) (mN _).symm,by rw[pL,h2,pL];rfl, ?_,λz=>nomatch z⟩,h4.mono gc g1⟩,h.hF.trans g⟩;rw[pL];exact Reps.snoc (hv _) (Reps.same gc _ _ h3)
theorem Scn.holdD{a:Addr}{ks:List (List Nat)}{us:List T}{nm:List Nat}(h:Scn F H st o nn ex (a::as) (.rcd ks us nm::fs) os ns du m wv none)(v:V){ps:List (Key×V)}(ha:H a=some (.dK ps))(hk:nm∉ks):Scn F (upd H a (.dK (ps++ [(nK nm,v)]))) st o nn ex (a::as) (.rcd ks us nm::fs) os ns du m wv (some v):=by
 obtain⟨g,gc,g1,g2,g3,g4⟩:=h.wr0 (.dK (ps++ [(nK nm,v)]));obtain⟨⟨ps',h1,h2,h3,_⟩,h4⟩:=h.op;rw[show ps'++((none:Option V).map λv=>(nK nm,v)).toList=ps' from mN _] at h1;rw[ha] at h1;cases h1;exact⟨h.nd,by rw[g2];exact h.hst,by rw[g3];exact h.ho,by rw[g4];exact h.hn,⟨⟨ps,zF,h2,Reps.same gc _ _ h3,λ_=>hk⟩,h4.mono gc g1⟩,h.hF.trans g⟩
theorem Scn.openL{b:Addr}(h:Scn F H st o nn [b] as fs os ns du m wv (some (.ref b)))(hb:H b=some (.lst [])):Scn F H st o nn [] (b::as) (.row []::fs) os ns du m wv none:=
 ⟨h.nd,h.hst,h.ho,h.hn,⟨⟨[],hb,rfl⟩,h.op⟩,h.hF⟩
theorem Scn.openD{b:Addr}(h:Scn F H st o nn [b] as fs os ns du m wv (some (.ref b)))(hb:H b=some (.dK [])):Scn F H st o nn [] (b::as) (.rcd [] [] []::fs) os ns du m wv none:=
 ⟨h.nd,h.hst,h.ho,h.hn,⟨⟨[],hb,rfl,rfl,λz=>nomatch z⟩,h.op⟩,h.hF⟩
theorem Scn.any{c':Option V}(h:Scn F H st o nn ex [] [] os ns du m wv c):Scn F H st o nn ex [] [] os ns du m wv c':=⟨h.nd,h.hst,h.ho,h.hn,nJ,h.hF⟩
noncomputable def zYe(t:T):List Fr->List Fr
 | []=>[]
 | f::r=>f.add t::r
theorem Scn.close{a:Addr}{f:Fr}(h:Scn F H st o nn [] (a::as) (f::fs) os ns du m wv none):Scn F H st o nn [] as (zYe f.tree fs) os ns du m wv none/\Rep (cut F H (mtb st o nn [] as)) (.ref a) f.tree:=by
 have nd:=h.nd;simp only[mtb,nH,pE,mF,cA] at nd;obtain⟨⟨a1,a2,a3,a4⟩,⟨b1,b2,b3⟩,⟨c1,c2⟩,d1,d2⟩:=nd;have hna:a∉mtb st o nn [] as:=by
  simp only[mtb,nH,mF,cA];exact⟨Ne.symm a3,Ne.symm b2,Ne.symm c1,d1⟩
 have g:Same (off H (mtb st o nn [] (a::as))) (off H (mtb st o nn [] as)):=uM (λb hb z=>hb (by
  simp only[mtb,nH,mF] at z⊢;rcases z with z | z | z | z
  ·exact .inl z
  ·exact .inr (.inl z)
  ·exact .inr (.inr (.inl z))
  ·exact .inr (.inr (.inr (.inr z))))) λb u _ e=>e
 have gc:Same (cut F H (mtb st o nn [] (a::as))) (cut F H (mtb st o nn [] as)):=vP (λb hb _ z=>hb (by
  simp only[mtb,nH,mF] at z⊢;rcases z with z | z | z | z
  ·exact .inl z
  ·exact .inr (.inl z)
  ·exact .inr (.inr (.inl z))
  ·exact .inr (.inr (.inr (.inr z))))) λb u _ e=>e
 have hFa:F a=none:=by
  cases e:F a with
  | none=>rfl
  | some u=>exact absurd (show a∈mtb st o nn [] (a::as) by simp) (vW (h.hF a u e)).1
 have hrep:Rep (cut F H (mtb st o nn [] as)) (.ref a) f.tree:=by
  have hop:=h.op
  cases f with
  | row us=>
   obtain⟨⟨vs,h1,h2⟩,_⟩:=hop;rw[show vs++(none:Option V).toList=vs from mN _] at h1;exact⟨a,vs,rfl,zJu hna hFa h1 (.inl ⟨_,rfl⟩),Reps.same gc _ _ h2⟩
  | rcd ks us nm=>
   obtain⟨⟨ps,h1,h2,h3,_⟩,_⟩:=hop;rw[show ps++((none:Option V).map λv=>(nK nm,v)).toList=ps from mN _] at h1;exact⟨a,ps,rfl,zJu hna hFa h1 (.inr ⟨_,rfl⟩),h2,Reps.same gc _ _ h3⟩
 refine⟨⟨?_,h.hst,h.ho,h.hn, ?_,h.hF.trans g⟩,hrep⟩
 ·simp only[mtb,nH,pE,mF,cA]
  exact⟨⟨a1,a2,a4⟩,⟨b1,b3⟩,c2,d2⟩
 have hop:Opn (cut F H (mtb st o nn [] (a::as))) H (some (.ref a)) as fs:=by
  have hop:=h.op
  cases f with
  | row us=>exact hop.2
  | rcd ks us nm=>exact hop.2
 cases as with
 | nil=>
  cases fs with
  | nil=>exact nJ
  | cons _ _=>exact hop.elim
 | cons a2 as=>
  cases fs with
  | nil=>exact hop.elim
  | cons f2 fs=>
   cases f2 with
   | row us=>
    obtain⟨⟨vs,h1,h2⟩,h3⟩:=hop;exact⟨⟨vs++ [.ref a],by rw[h1];exact congrArg (λz=>some (HO.lst z)) (mN _).symm,Reps.snoc hrep (Reps.same gc _ _ h2)⟩,h3.mono gc λ_ _=>rfl⟩
   | rcd ks us nm=>
    obtain⟨⟨ps,h1,h2,h3,h4⟩,h5⟩:=hop;refine⟨⟨ps++ [(nK nm, .ref a)],by rw[h1];exact congrArg (λz=>some (HO.dK z)) (mN _).symm,by rw[pL,h2,pL];rfl, ?_,λz=>nomatch z⟩,h5.mono gc λ_ _=>rfl⟩;rw[pL];exact Reps.snoc hrep (Reps.same gc _ _ h3)
def Sta(F:Hp)(st:Addr)(H:Hp)(S:Mc):Prop:=∃(o nn:Addr)(as:List Addr)(wv:V),Scn F H st o nn [] as S.stk (as.reverse.map V.ref) ((S.stk.map λf=>V.str (tx f.nm)).reverse) (.str (duS S.du)) (.int S.many) wv none/\
 (as= []->Rep (cut F H (mtb st o nn [] as)) wv S.whole)/\(∀a,as.getLast? =some a->wv= .ref a)
theorem Sta.same{S:Mc}(h:Sta F st H S)(g:Same H H'):Sta F st H' S:=by
 obtain⟨o,nn,as,wv,h1,h2,h3⟩:=h;exact⟨o,nn,as,wv,h1.same g,λz=>Rep.same (vP (λ_ z _=>z) λb u _ e=>g b u e) _ _ (h2 z),h3⟩
theorem Sta.fr{S:Mc}(h:Sta F st H S):Same F H:=by
 obtain⟨o,nn,as,wv,h1,h2,h3⟩:=h;exact λb u e=>(vW (h1.hF b u e)).2
end
structure Wf(S:Mc):Prop where
 deep:S.stk.length<=8
 many:S.many<=200
 size:∀f∈S.stk,match f with | .row us=>us.length<=60 | .rcd ks us _=>ks.length<=30/\ks.length=us.length
 inner:∀f∈S.stk.tail,match f with | .row us=>us.length<60 | .rcd ks _ _=>ks.length<30
 done:S.du= .done->S.stk= []
 nonE:S.du= .first\/S.du= .behind\/S.du= .more\/S.du= .colon->S.stk≠ []
 thg:S.du= .thing\/S.du= .colon->∀f r,S.stk=f::r->∃ks us nm,f= .rcd ks us nm/\nm∉ks/\ks.length<30
theorem zCg{stk:List Fr}{m:Nat}{t:T}(h8:stk.length<=8)(hm:m<=200)(hs:∀f∈stk,match f with | .row us=>us.length<=60 | .rcd ks us _=>ks.length<=30/\ks.length=us.length)(hi:∀f∈stk,match f with | .row us=>us.length<60 | .rcd ks _ _=>ks.length<30):Wf (xG stk m t):=by
 cases stk with
 | nil=>exact⟨by show 0<=8;lia,hm,(λf hf=>nomatch hf),(λf hf=>nomatch hf),(λ_=>rfl),(λz=>by rcases z with z | z | z | z<;>cases z),(λz=>by rcases z with z | z<;>cases z)⟩
 | cons f r=>
  refine⟨h8,hm,λg hg=>?_,λg hg=>hi g (mR _ hg),(λz=>nomatch z),(λ_=>pQ _ _),λz=>by rcases z with z | z<;>cases z⟩
  rcases mF.mp hg with e | hg
  ·rw[e]
   have h1:=hs f mH;have h2:=hi f mH
   cases f with
   | row us=>
    show(us++ [t]).length<=60;have h2:us.length<60:=h2;rw[mC];show _+1<=_;lia
   | rcd ks us nm=>
    show(ks++ [nm]).length<=30/\(ks++ [nm]).length=(us++ [t]).length;have h1:ks.length<=30/\ks.length=us.length:=h1;have h2:ks.length<30:=h2;rw[mC,mC];show _+1<=_/\_+1=_+1
    lia
  ·exact hs g (mR _ hg)
theorem zQu{S S':Mc}{k:Nat}{s:List Nat}(wf:Wf S)(hrc:∀ks us nm r,S.stk= .rcd ks us nm::r->nm∉ks/\ks.length<30)(h:K26.thg S.stk S.many k s= .go S'):Wf S':=by
 unfold K26.thg at h;split at h
 ·cases h
 split at h
 ·cases h
 rename_i hc;have hc':¬S.many=200/\¬zAs S.stk=true/\¬(k=3/\S.stk.length=8):=by
  simp only[bU,sY,cA] at hc;exact⟨hc.1,hc.2.1,hc.2.2.1⟩
 obtain⟨c1,c2,c3⟩:=hc';have hall:∀f∈S.stk,match f with | .row us=>us.length<60 | .rcd ks _ _=>ks.length<30:=λf hf=>by
  cases hst:S.stk with
  | nil=>rw[hst] at hf;exact nomatch hf
  | cons g r=>
   rw[hst] at hf;rcases mF.mp hf with e | hf
   ·subst e
    have h1:=wf.size f (by rw[hst];exact mH)
    cases f with
    | row us=>
     show us.length<60;have h1:us.length<=60:=h1;have:us.length≠60:=λz=>c2 (by rw[hst];exact nB z)
     lia
    | rcd ks us nm=>exact(hrc ks us nm r hst).2
   ·exact wf.inner f (by rw[hst];exact hf)
 have hm:=wf.many;split at h
 ·rename_i h3
  cases h;have h8:=wf.deep;refine⟨by show S.stk.length+1<=8;lia,by show S.many+1<=200;lia,λf hf=>?_,hall,(λz=>nomatch z),(λ_=>pQ _ _),λz=>by rcases z with z | z<;>cases z⟩
  rcases mF.mp hf with e | hf
  ·rw[e]
   by_cases h91:s= [91]
   ·rw[mL h91];exact pW _
   ·rw[mG h91];exact⟨pW _,rfl⟩
  ·exact wf.size f hf
 ·cases h
  exact zCg wf.deep (by lia) wf.size hall
theorem zYb{S S':Mc}{k:Nat}{s:List Nat}{ks:List (List Nat)}{us:List T}{nm:List Nat}{r:List Fr}(wf:Wf S)(hst:S.stk= .rcd ks us nm::r)(h:nmd ks us r S.many k s= .go S'):Wf S':=by
 unfold nmd at h;split at h
 ·cases h
 rename_i n1;split at h
 ·cases h
 rename_i n2;cases h;have h1:=wf.size (.rcd ks us nm) (by rw[hst];exact mH);have h1:ks.length<=30/\ks.length=us.length:=h1;have hd:=wf.deep;have hin:=wf.inner;rw[hst] at hd hin;refine⟨hd,wf.many,λf hf=>?_,hin,(λz=>nomatch z),(λ_=>pQ _ _),λ_ f r' e=>?_⟩
 ·rcases mF.mp hf with e | hf
  ·rw[e];exact h1
  ·exact wf.size f (by rw[hst];exact mR _ hf)
 ·obtain⟨e1,e2⟩:=List.cons.inj e
  exact⟨ks,us,s,e1.symm,λz=>n1 (.inr z),by
   have:ks.length≠30:=λz=>n2 (.inr z)
   lia⟩
theorem zTw{S S':Mc}{k:Nat}{s:List Nat}(wf:Wf S)(h:nxt S k s= .go S'):Wf S':=by
 have close:∀f r,S.stk=f::r->Wf (xG r S.many f.tree):=λf r e=>by
  have hd:=wf.deep;have hin:=wf.inner;rw[e] at hd hin;exact zCg (by rw[mE] at hd;lia) wf.many (λg hg=>wf.size g (by rw[e];exact mR _ hg)) hin
 have hinn:(∀ks us nm r,S.stk= .rcd ks us nm::r->True)->inn S.stk S.many k s= .go S'->Wf S':=λ_ z=>by
  unfold inn at z;split at z
  ·rename_i e
   exact zYb wf e z
  ·rename_i hx
   exact zQu wf (λks us nm r e=>absurd e (hx ks us nm r)) z
 unfold nxt at h;split at h
 ·split at h<;>cases h
 ·rename_i hd
  split at h
  ·cases h
   refine⟨wf.deep,wf.many,wf.size,wf.inner,(λz=>nomatch z),(λz=>by rcases z with z | z | z | z<;>cases z),λ_=>wf.thg (.inr hd)⟩
  ·cases h
 ·rename_i hd
  refine zQu wf (λks us nm r e=>?_) h;obtain⟨ks',us',nm',y1,y2,y3⟩:=wf.thg (.inl hd) _ _ e;cases y1;exact⟨y2,y3⟩
 ·exact hinn (λ_ _ _ _ _=>nJ) h
 ·split at h
  ·cases h
  ·rename_i f r e
   split at h
   ·cases h;exact close f r e
   split at h
   ·cases h
    refine⟨wf.deep,wf.many,wf.size,wf.inner,(λz=>nomatch z),(λ_=>by show S.stk≠ [];rw[e];exact pQ _ _),λz=>by rcases z with z | z<;>cases z⟩
   ·cases h
 ·split at h
  ·cases h
  ·rename_i f r e
   split at h
   ·cases h;exact close f r e
   ·rw[<-e] at h
    exact hinn (λ_ _ _ _ _=>nJ) h
end K26
namespace K26
open PySem L2 PySem.W
seal L2.PSs L2.PS L2.PE L2.PT L2.PW L2.PA L2.PI L2.PG L2.PGs L2.PPs L2.PTs
abbrev sTn:Stmt:=top 53
theorem vD{b:Addr}{as:List Addr}:List.map V.ref (b::as).reverse=List.map V.ref as.reverse++ [V.ref b]:=by simp
theorem zYa{H:Hp}{a:Addr}{vs:List V}(h:H a=some (.lst vs)):tyR H (.ref a)=some "list":=by
 refine zRv ?_;show(match H a with | some (.lst _)=>some "list" | some (.tup _)=>some "tuple" | some (.dK _)=>some "dict" | _=>none)=_
 rw[h]
section
variable{P:Program}{w:World}{K:PySem.W.Frag}{mg:Str->Option Value}{base:Heap}{f:Addr}{fd:FuncData}
def TkO(H:Hp)(a:Addr)(t:Lk):Prop:=H a=some (.tup [.str (kR t.k), .str (tx t.s), .int t.n])
def zZi:Sp:=λvs H Q _=>∃(F:Hp)(st a:Addr)(S:Mc)(t:Lk),vs= [.ref st, .ref a]/\Sta F st H S/\Wf S/\TkO F a t/\OkL t/\t.k≠5/\(∀ks us nm r,S.stk= .rcd ks us nm::r->nm∉ks/\ks.length<30)/\
 (thg S.stk S.many t.k t.s= .bad->∀H',Sta F st H' S->Q (.str (Str.ofString "bad")) H')/\(thg S.stk S.many t.k t.s= .great->∀H',Sta F st H' S->Q (.str (Str.ofString "great")) H')/\(∀S',thg S.stk S.many t.k t.s= .go S'->∀H',Sta F st H' S'->Q (.str (Str.ofString "")) H')
theorem scTn:zV ["_law_state","_law_token","_law_kind","_law_string","_law_at","_law_rows","_law_value_here"] ["_law_state","_law_token"] (zO sTn):=by walk_at "sc"
theorem ok_tn(F:Fun K "_law_thing_next" "_law_thing_next" sTn f fd)(B:Bl mg)(M:Ms mg)(G_law_begins:Dn P w K mg base 1 "_law_begins" ["_law_kind","_law_string"] spLb)(G_law_beyond:Dn P w K mg base 1 "_law_beyond" ["_law_kind","_law_string","_law_deep_here"] spLy)(G_law_value:Dn P w K mg base 1 "_law_value" ["_law_kind","_law_string"] spLv):FnOk P w K mg base CX0 2 f fd ["_law_state","_law_token"] zZi:=by
 refine F.ok scTn (by walk_at "ln") λc A o s H vs Q E hr h=>?_;obtain⟨F,st,a,S,t,rfl,hS,wf,ha,hok,h5,hrc,q1,q2,q3⟩:=h;have nd:=scTn.nd;have hu:=uI hr;refine⟨_,(zD (uW (pv 1) (zFd (n:=3) rfl (xS (yO (i:=2) nd rfl (pR rfl)) (xS (yO (i:=3) nd rfl (pR rfl)) (xS (yO (i:=4) nd rfl (pR rfl)) zAv)))))
  (zD (pS 5 nd (xE hu (pv 0) zC (λ_ _=>rfl)))
  (zD (zQ (vY (yT (pD G_law_begins hr (zA (pv 2) (zA (pv 3) zB))))) (zG (zM zC)) zL)
  (zD (zQ (PW.pt (jV (zK zS (xE hu (pv 0) zC (λ_ _=>rfl)) zE (zJ _)) (vZ (yT (pD G_law_beyond hr (zA (pv 2) (zA (pv 3) (zA (zP yI rfl B.len yH (zA (pv 5) zB)) zB)))))))) (zG (zM zC)) zL)
  (zD (vA (zQ (PW.pt (qJ (zK wW (zP yI rfl B.len yH (zA (pv 5) zB)) zE (zJ _)) (qJ (yT (zP (kB (T:="list") (by decide)) rfl B.isinstance zX (zA (zR zY (pv 5) (jT vU zE) (λ_ _=>rfl)) (zA (kK (v:=.ty "list") rfl B.list kH rfl) zB)))) (vJ (zK zS (zP yI rfl B.len yH (zA (zR zY (pv 5) (jT vU zE) (λ_ _=>rfl)) zB)) zE (zJ _)))))) (zG (zM zC)) zL))
  (zD (zVx hu (pv 0) zC zE zBo (by intros;rfl))
  (zD (pS 6 nd (pD G_law_value hr (zA (pv 2) (zA (pv 3) zB))))
  (zD (vA (zQ (zK zS (zP yI rfl B.len yH (zA (pv 5) zB)) zE (zJ _)) (zG (vG hu (pv 0) zC (pv 6) rfl)) (zG (zQ (yT (zP (kB (T:="list") (by decide)) rfl B.isinstance zX (zA (zR zY (pv 5) (jT vU zE) (λ_ _=>rfl)) (zA (kK (v:=.ty "list") rfl B.list kH rfl) zB)))) (zG (xF (wG nX pH pP xP (zR zY (pv 5) (jT vU zE) (λ_ _=>rfl)) (zA (pv 6) zB)))) (zG (vG hu (zR zY (pv 5) (jT vU zE) (λ_ _=>rfl)) (zR zY (xE hu (pv 0) zC (λ_ _=>rfl)) (jT vU zE) (λ_ _=>rfl)) (pv 6) rfl))))))
  (zD (vG hu (pv 0) zC (zR zY (zT (zA zC (zA zC zB))) (yM yX rfl B.int xH (zA (zW wW (zP yI rfl B.len yH (zA (pv 5) zB)) zE (zJ _)) zB)) (λ_ _=>rfl)) rfl)
  (zD (zQ (zK zS (pv 2) zC (zJ _)) (zD (xF (wG nX pH pP xP (pv 5) (zA (pv 6) zB)))
  (zD (xF (wG nX pH pP xP (xE hu (pv 0) zC (λ_ _=>rfl)) (zA zC zB)))
  (zG (vG hu (pv 0) zC zC rfl)))) zL)
  (zG (zM zC)))))))))))), ?_⟩
 unfold zPn;walk_at "st";walk_at "rd6";obtain⟨o,nn,as,wv,sc,hw1,hw2⟩:=hS;have haH:H a=some (.tup [.str (kR t.k), .str (tx t.s), .int t.n]):=(vW (sc.hF a _ ha)).2;refine⟨_,SqT.of haH,rfl,_,_,rfl,_,_,rfl,_,_,rfl,rfl, .ref o,jH▸DGet.k (k:=kOf (Str.ofString "open")) sc.hst,t,rfl,hok,h5,λH1 g1=>⟨_,rfl, ?_⟩⟩;have sc1:=sc.same g1;have sta1:Sta F st H1 S:=Sta.same ⟨o,nn,as,wv,sc,hw1,hw2⟩ g1
 cases hbg:kM t.k t.s with
 | false=>exact iP rfl (q1 (mL hbg) H1 sta1)
 | true=>
 have eT:thg S.stk S.many t.k t.s=if(decide (S.many=200)||(zAs S.stk ||(decide (t.k=3/\S.stk.length=8)|| qW t.k t.s)))=true then .great else if t.k=3 then .go ⟨(if t.s= [91] then .row [] else .rcd [] [] [])::S.stk, .first,S.many+1, .non⟩ else .go (xG S.stk (S.many+1) (vM t.k t.s)):=mG (by rw[hbg];decide)
 rw[eT] at q2 q3;refine iN (by decide) ⟨_,zMr▸DGet.k (k:=kOf (Str.ofString "many")) sc1.hst,rfl, ?_⟩
 by_cases h200:S.many=200
 ·exact iP (by rw[h200];rfl) (q2 (mL (by rw[h200];simp)) H1 sta1)
 have hlen:=sc.op.len;refine iN (λz=>by injection z with z;lia) ⟨o,rfl,_,SqL.of sc1.ho,t,as.length,by rw[nA,aL],hok,h5,hbg,_,rfl, ?_⟩;rw[hlen]
 cases hby:(decide (t.k=3/\S.stk.length=8)|| qW t.k t.s) with
 | true=>exact iP rfl (q2 (mL (by rw[hby];simp)) H1 sta1)
 | false=>
 refine iN (by decide) ⟨λσ' H'=>σ'= [some (V.ref st),some (V.ref a),some (V.str (kR t.k)),some (V.str (tx t.s)),some (V.int t.n),some (V.ref o),none]/\H'=H1/\zAs S.stk=false, ?_, ?_⟩
 ·refine⟨o,rfl,_,SqL.of sc1.ho, ?_⟩
  have hop:=sc1.op;have hst:=sc1.ho;generalize S.stk=stk at hop q2 hlen
  cases as with
  | nil=>
   cases stk with
   | cons _ _=>exact hop.elim
   | nil=>exact iN (by decide) ⟨rfl,rfl,rfl⟩
  | cons b as=>
   rw[vD] at hst;rw[vD];refine iP (by rw[mC];show(0:Int)<((_+1:Nat):Int);lia) (zZ (SqL.of hst) (wA _ _) ?_)
   cases stk with
   | nil=>exact hop.elim
   | cons fr stk=>
    cases fr with
    | row us=>
     obtain⟨⟨vs,h1,h2⟩,h3⟩:=hop;rw[show vs++(none:Option V).toList=vs from mN _] at h1;have hvl:=h2.length;refine⟨"list",zYa h1,iP (by decide) (zZ (SqL.of hst) (wA _ _) ⟨b,rfl,vs,SqL.of h1, ?_⟩)⟩
     by_cases h60:us.length=60
     ·exact iP (by lia) (q2 (mL (by rw[show zAs (.row us::stk)=true from nB h60];simp)) H1 sta1)
     ·exact iN (by lia) ⟨rfl,rfl,mM h60⟩
    | rcd ks us nm=>
     obtain⟨⟨ps,h1,h2,h3,_⟩,h4⟩:=hop;rw[show ps++((none:Option V).map λv=>(nK nm,v)).toList=ps from mN _] at h1;exact⟨"dict",zFx (.inl h1),iN (by decide) ⟨rfl,rfl,rfl⟩⟩
 rintro σ' H' ⟨rfl,rfl,hfu⟩;unfold zXd;walk_at "rd6";refine⟨.int S.many,zMr▸DGet.k (k:=kOf (Str.ofString "many")) sc1.hst,_,rfl,_,zUx▸DPut.k (k:=kOf (Str.ofString "many")) sc1.hst (by show 5<_;rw[mJ];decide), ?_⟩;have sc2:=sc1.wst (.str (duS S.du)) (.int ((S.many:Int)+1)) wv;have hc:¬(decide (S.many=200)||(zAs S.stk ||(decide (t.k=3/\S.stk.length=8)|| qW t.k t.s)))=true:=by
  rw[hby,hfu,mM h200];decide
 have hy:qW t.k t.s=false:=by
  cases h:qW t.k t.s with
  | false=>rfl
  | true=>rw[h,aD] at hby;cases hby
 generalize upd H' st _=H2 at sc2⊢;have store:∀(M:St->Hp->Prop)(ex:List Addr)(H3:Hp)(x:V),Scn F H3 st o nn ex as S.stk (as.reverse.map V.ref) ((S.stk.map λf=>V.str (tx f.nm)).reverse) (.str (duS S.du)) (.int ((S.many:Int)+1)) wv none->
   (as= []->S.stk= []->M [some (V.ref st),some (V.ref a),some (V.str (kR t.k)),some (V.str (tx t.s)),some (V.int (t.n:Int)),some (V.ref o),some x] (upd H3 st (.dK (stK o nn (.str (duS S.du)) (.int ((S.many:Int)+1)) x))))->
   (∀b as' us r vs,as=b::as'->S.stk= .row us::r->H3 b=some (.lst vs)->M [some (V.ref st),some (V.ref a),some (V.str (kR t.k)),some (V.str (tx t.s)),some (V.int (t.n:Int)),some (V.ref o),some x] (upd H3 b (.lst (vs++ [x]))))->
   (∀b as' ks us nm r ps,as=b::as'->S.stk= .rcd ks us nm::r->H3 b=some (.dK ps)->M [some (V.ref st),some (V.ref a),some (V.str (kR t.k)),some (V.str (tx t.s)),some (V.int (t.n:Int)),some (V.ref o),some x] (upd H3 b (.dK (ps++ [(nK nm,x)]))))->
   ∃ys,SqL K H3 o ys/\if(ys.length:Int)=0 then∃x_1,DPut H3 st (V.str (Str.ofString "whole")) x x_1/\M [some (V.ref st),some (V.ref a),some (V.str (kR t.k)),some (V.str (tx t.s)),some (V.int (t.n:Int)),some (V.ref o),some x] x_1
    else zDi K (V.ref o) (V.int (-1)) H3 λx_1 H1=>∃x_2,tyR H1 x_1=some x_2/\if wI x_2 "list" =true then zDi K (V.ref o) (V.int (-1)) H1 λx_3 H1=>tyV K "list" x_3 H1/\zFk x_3 [x] H1 λx_4 H1=>M [some (V.ref st),some (V.ref a),some (V.str (kR t.k)),some (V.str (tx t.s)),some (V.int (t.n:Int)),some (V.ref o),some x] H1
     else zDi K (V.ref o) (V.int (-1)) H1 λx_3 H2=>∃x_4,DGet H2 st (V.str (Str.ofString "names")) (some x_4)/\zDi K x_4 (V.int (-1)) H2 λy H3=>∃a_1,x_3=V.ref a_1/\∃x_5,DPut H3 a_1 y x x_5/\M [some (V.ref st),some (V.ref a),some (V.str (kR t.k)),some (V.str (tx t.s)),some (V.int (t.n:Int)),some (V.ref o),some x] x_5:=by
  intro M ex H3 x sc3 m1 m2 m3;have hop:=sc3.op;have hst:=sc3.ho;have hnm:=sc3.hn;have hsd:=sc3.hst;have hsz:=wf.size;refine⟨_,SqL.of hst, ?_⟩;clear q3 q2 q1 eT sc2 sc1 sc sta1 hc hby hfu wf sc3;generalize S.stk=stk at*
  cases as with
  | nil=>
   cases stk with
   | cons _ _=>exact hop.elim
   | nil=>exact iP rfl ⟨_,zTq▸DPut.k (k:=kOf (Str.ofString "whole")) hsd (by show 5<_;rw[mJ];decide),m1 rfl rfl⟩
  | cons b as=>
   rw[vD] at hst;rw[vD];refine iN (by rw[mC];show¬((_+1:Nat):Int)=0;lia) (zZ (SqL.of hst) (wA _ _) ?_)
   cases stk with
   | nil=>exact hop.elim
   | cons fr stk=>
    cases fr with
    | row us=>
     obtain⟨⟨vs,h1,h2⟩,h3⟩:=hop;rw[show vs++(none:Option V).toList=vs from mN _] at h1;have hvl:=h2.length;have h60:us.length<=60:=hsz _ mH;exact⟨"list",zYa h1,iP (by decide) (zZ (SqL.of hst) (wA _ _) ⟨.inl ⟨rfl,_,SqL.of h1⟩,b,vs,x,rfl,rfl,h1,by rw[mJ];lia,m2 b as us stk vs rfl rfl h1⟩)⟩
    | rcd ks us nm=>
     obtain⟨⟨ps,h1,h2,h3,_⟩,h4⟩:=hop;rw[show ps++((none:Option V).map λv=>(nK nm,v)).toList=ps from mN _] at h1;obtain⟨hk1,hk2⟩:=hrc ks us nm stk rfl;have hvn:xM ps (nK nm)=none:=by
      cases e:xM ps (nK nm) with
      | none=>rfl
      | some y=>exact absurd ((kG h2 nm).mp (by rw[e];rfl)) hk1
     have hpl:ps.length=ks.length:=by
      have:=congrArg List.length h2
      rwa [nA,nA] at this
     rw[show((Fr.rcd ks us nm::stk).map λf=>V.str (tx f.nm)).reverse=(stk.map λf=>V.str (tx f.nm)).reverse++ [V.str (tx nm)] by simp[Fr.nm]] at hnm;exact⟨"dict",zFx (.inl h1),iN (by decide) (zZ (SqL.of hst) (wA _ _) ⟨.ref nn,uD▸DGet.k (k:=kOf (Str.ofString "names")) hsd,zZ (SqL.of hnm) (wA _ _) ⟨b,rfl,_,wU x hvn▸DPut.k (k:=nK nm) h1 (by rw[mJ];lia),m3 b as ks us nm stk ps rfl rfl h1⟩⟩)⟩
 refine⟨t,rfl,hok,hbg,hy,h5,λh3 v H3 g3 hv=>?_,λh3 b H3 g3 hb0 hb=>?_⟩
 ·have sc3:=sc2.same g3
  rw[mG hc,mG h3] at q3;obtain⟨M1,hM1⟩:∃M1:St->Hp->Prop,M1=λσ' H4=>σ'= [some (V.ref st),some (V.ref a),some (V.str (kR t.k)),some (V.str (tx t.s)),some (V.int (t.n:Int)),some (V.ref o),some v]/\∃fs' wv',Scn F H4 st o nn [] as fs' (as.reverse.map V.ref) ((fs'.map λf=>V.str (tx f.nm)).reverse) (.str (duS S.du)) (.int ((S.many:Int)+1)) wv' none/\(as= []->fs'= []/\xG S.stk (S.many+1) (vM t.k t.s)=⟨fs', .done,S.many+1,vM t.k t.s⟩/\wv'=v)/\(as≠ []->xG S.stk (S.many+1) (vM t.k t.s)=⟨fs', .behind,S.many+1, .non⟩/\wv'=wv):=⟨_,rfl⟩;refine⟨M1, ?_, ?_⟩
  ·refine store M1 [] H3 v sc3 (λe1 e2=>?_) (λb as' us r vs e1 e2 hb=>?_) (λb as' ks us nm r ps e1 e2 hb=>?_)<;>rw[hM1]
   rotate_left
   ·refine⟨rfl, .row (us++ [vM t.k t.s])::r,wv, ?_,λz=>(by rw[e1] at z;cases z),λ_=>⟨by rw[e2];rfl,rfl⟩⟩
    rw[e1,e2] at sc3;have:=sc3.leafL hv hb;rw[e1];exact this
   ·refine⟨rfl, .rcd (ks++ [nm]) (us++ [vM t.k t.s]) nm::r,wv, ?_,λz=>(by rw[e1] at z;cases z),λ_=>⟨by rw[e2];rfl,rfl⟩⟩
    rw[e1,e2] at sc3;have:=sc3.leafD hv hb;rw[e1];exact this
   refine⟨rfl,[],v, ?_,λ_=>⟨rfl,by rw[e2];rfl,rfl⟩,λz=>absurd e1 z⟩
   ·have:=sc3.wst (.str (duS S.du)) (.int ((S.many:Int)+1)) v
    rw[e2] at this;exact this
  intro σ' H4 hM p hp;rw[hM1] at hM;obtain⟨rfl,fs',wv',sc4,hA,hB⟩:=hM;have sc5:=sc4.same (zH hp (.lst [V.str (Str.ofString "end"),V.str (Str.ofString "behind")]));have hp5:upd H4 p (.lst [V.str (Str.ofString "end"),V.str (Str.ofString "behind")]) p=_:=zF;generalize upd H4 p (.lst [V.str (Str.ofString "end"),V.str (Str.ofString "behind")])=H5 at sc5 hp5⊢;refine⟨_,rfl,o,rfl,_,SqL.of sc5.ho, ?_⟩;have hmk:¬V.str (kR t.k)=V.str (Str.ofString "mark"):=λz=>h3 ((zAo hok (j:=3) (by decide)).mp (V.str.inj z))
  by_cases has:as= []
  ·obtain⟨e1,e2,e3⟩:=hA has
   subst has e1 e3;refine zZ (SqL.of hp5) (v:=.str (Str.ofString "end")) rfl ⟨_,rfl,st,rfl,_,jI▸DPut.k (k:=kOf (Str.ofString "due")) sc5.hst (by show 5<_;rw[mJ];decide),_,rfl,rfl,iN hmk (q3 _ rfl _ ?_)⟩;rw[e2];exact⟨o,nn,[],wv',sc5.wst _ _ _,λ_=>hv _,λ_ z=>nomatch z⟩
  ·obtain⟨e1,e2⟩:=hB has
   have hl:0<((as.reverse.map V.ref).length:Int):=by
    rw[nA,aL];have:=cF.mpr has
    lia
   rw[mL hl];refine zZ (SqL.of hp5) (v:=.str (Str.ofString "behind")) rfl ⟨_,rfl,st,rfl,_,jI▸DPut.k (k:=kOf (Str.ofString "due")) sc5.hst (by show 5<_;rw[mJ];decide),_,rfl,rfl,iN hmk (q3 _ rfl _ ?_)⟩;rw[e1,e2];rw[e2] at sc5;exact⟨o,nn,as,wv,sc5.wst _ _ _,λz=>absurd z has,hw2⟩
 ·have sc3:=sc2.fresh g3 hb0
  rw[mG hc,mL h3] at q3;obtain⟨M1,hM1⟩:∃M1:St->Hp->Prop,M1=λσ' H4=>σ'= [some (V.ref st),some (V.ref a),some (V.str (kR t.k)),some (V.str (tx t.s)),some (V.int (t.n:Int)),some (V.ref o),some (V.ref b)]/\∃wv',Scn F H4 st o nn [] (b::as) ((if t.s= [91] then .row [] else .rcd [] [] [])::S.stk) (as.reverse.map V.ref) ((S.stk.map λf=>V.str (tx f.nm)).reverse) (.str (duS S.du)) (.int ((S.many:Int)+1)) wv' none/\∀x,(b::as).getLast? =some x->wv'= .ref x:=⟨_,rfl⟩;refine⟨M1, ?_, ?_⟩
  ·have hbm:b∈mtb st o nn [b] as:=by simp
   have nb:∀x∈as,b≠x:=λx hx z=>by
    have:=sc3.nd;simp only[mtb,nP,nH,pE] at this;exact this.2.2.2.1 (by rw[z];exact hx)
   have opn:∀(H4:Hp)(wv':V),Scn F H4 st o nn [b] as S.stk (as.reverse.map V.ref) ((S.stk.map λf=>V.str (tx f.nm)).reverse) (.str (duS S.du)) (.int ((S.many:Int)+1)) wv' (some (.ref b))->H4 b=H3 b->Scn F H4 st o nn [] (b::as) ((if t.s= [91] then .row [] else .rcd [] [] [])::S.stk) (as.reverse.map V.ref) ((S.stk.map λf=>V.str (tx f.nm)).reverse) (.str (duS S.du)) (.int ((S.many:Int)+1)) wv' none:=λH4 wv' z1 z2=>by
    rw[hb] at z2
    by_cases h91:t.s= [91]
    ·rw[mL h91] at z2⊢
     exact z1.openL z2
    ·rw[mG h91] at z2⊢
     exact z1.openD z2
   refine store M1 [b] H3 (.ref b) sc3 (λe1 e2=>?_) (λb2 as' us r vs e1 e2 hb2=>?_) (λb2 as' ks us nm r ps e1 e2 hb2=>?_)<;>rw[hM1]
   ·refine⟨rfl, .ref b,opn _ _ ?_ (zN λz=>?_),λx hx=>?_⟩
    ·have:=sc3.wst (.str (duS S.du)) (.int ((S.many:Int)+1)) (.ref b)
     rw[e1,e2] at this;rw[e1,e2];exact this.any
    ·have:=sc3.nd
     simp only[mtb,nP,nH,pE,mF,cA] at this;exact this.1.2.2.1 z.symm
    ·rw[e1] at hx
     cases hx;rfl
   ·refine⟨rfl,wv,opn _ _ ?_ (zN (nb b2 (by rw[e1];exact mH))),λx hx=>hw2 x ?_⟩
    ·rw[e1,e2] at sc3
     rw[e1,e2];exact sc3.holdL _ hb2
    ·rw[e1] at hx⊢
     exact hx
   ·refine⟨rfl,wv,opn _ _ ?_ (zN (nb b2 (by rw[e1];exact mH))),λx hx=>hw2 x ?_⟩
    ·have hk:=(hrc ks us nm r e2).1
     rw[e1,e2] at sc3;rw[e1,e2];exact sc3.holdD _ hb2 hk
    ·rw[e1] at hx⊢
     exact hx
  intro σ' H4 hM p hp;rw[hM1] at hM;obtain⟨rfl,wv',sc4,hw⟩:=hM;have sc5:=sc4.same (zH hp (.lst [V.str (Str.ofString "end"),V.str (Str.ofString "behind")]));have hp5:upd H4 p (.lst [V.str (Str.ofString "end"),V.str (Str.ofString "behind")]) p=_:=zF;generalize upd H4 p (.lst [V.str (Str.ofString "end"),V.str (Str.ofString "behind")])=H5 at sc5 hp5⊢;refine⟨_,rfl,o,rfl,_,SqL.of sc5.ho, ?_⟩;have hk3:V.str (kR t.k)=V.str (Str.ofString "mark"):=by rw[h3];rfl
  obtain⟨v,hv⟩:∃v,atI [V.str (Str.ofString "end"),V.str (Str.ofString "behind")] (if 0<((as.reverse.map V.ref).length:Int) then 1 else 0)=some v:=by
   by_cases h:0<((as.reverse.map V.ref).length:Int)
   ·rw[mL h];exact⟨_,rfl⟩
   ·rw[mG h];exact⟨_,rfl⟩
  have sc6:=sc5.wst v (.int ((S.many:Int)+1)) wv';refine zZ (SqL.of hp5) hv ⟨_,rfl,st,rfl,_,jI▸DPut.k (k:=kOf (Str.ofString "due")) sc5.hst (by show 5<_;rw[mJ];decide),_,rfl,rfl,iP hk3 ⟨_,rfl, .inl ⟨rfl,_,SqL.of sc6.ho⟩,_,rfl,o,_,_,rfl,rfl,sc6.ho, ?_, ?_⟩⟩
  ·have:=wf.deep
   rw[mJ,nA,aL]
   lia
  have sc7:=sc6.wo (as.reverse.map V.ref++ [.ref b]);refine⟨_,rfl,st,rfl, .ref nn,uD▸DGet.k (k:=kOf (Str.ofString "names")) sc7.hst, .inl ⟨rfl,_,SqL.of sc7.hn⟩,nn,_,_,rfl,rfl,sc7.hn, ?_, ?_⟩
  ·have:=wf.deep
   rw[mJ,aL,nA]
   lia
  have sc8:=sc7.wn ((S.stk.map λf=>V.str (tx f.nm)).reverse++ [.str (Str.ofString "")]);refine⟨_,rfl,st,rfl,_,jI▸DPut.k (k:=kOf (Str.ofString "due")) sc8.hst (by show 5<_;rw[mJ];decide),q3 _ rfl _ ⟨o,nn,b::as,wv', ?_,λz=>absurd z (pQ _ _),hw⟩⟩;have sc9:=sc8.wst (.str (Str.ofString "first")) (.int ((S.many:Int)+1)) wv';rw[vD];rw[show(((if t.s= [91] then Fr.row [] else Fr.rcd [] [] [])::S.stk).map λf=>V.str (tx f.nm)).reverse=(S.stk.map λf=>V.str (tx f.nm)).reverse++ [.str (Str.ofString "")] from by
   rw[nD,List.reverse_cons];split<;>rfl]
  exact sc9
end
end K26
namespace K26
open PySem L2 PySem.W
seal L2.PSs L2.PS L2.PE L2.PT L2.PW L2.PA L2.PI L2.PG L2.PGs L2.PPs L2.PTs
abbrev sNn:Stmt:=top 54
abbrev sNx:Stmt:=top 55
theorem zSu(xs:List V)(x v:V):ixN (xs++ [x]).length (-1)=some xs.length/\(xs++ [x]).set xs.length v=xs++ [v]:=by
 constructor
 ·unfold ixN
  rw[mC,sB];rw[mG (by lia)];split
  ·congr 1;lia
  ·lia
 ·simp
theorem Scn.name{F H:Hp}{st o nn:Addr}{ex as:List Addr}{fs:List Fr}{os ns:List V}{du m wv:V}{ks:List (List Nat)}{us:List T}{nm:List Nat}(h:Scn F H st o nn ex as (.rcd ks us nm::fs) os ns du m wv none)(nm':List Nat):Scn F H st o nn ex as (.rcd ks us nm'::fs) os ns du m wv none:=by
 refine⟨h.nd,h.hst,h.ho,h.hn, ?_,h.hF⟩;have hop:=h.op
 cases as with
 | nil=>exact hop.elim
 | cons a as=>
  obtain⟨⟨ps,h1,h2,h3,_⟩,h4⟩:=hop;exact⟨⟨ps,h1,h2,h3,λz=>nomatch z⟩,h4⟩
theorem zYx:∀{d e:Du},duS d=duS e->d=e:=by
 intro d e h;cases d<;>cases e<;>first | rfl | exact absurd h (by decide+kernel)
theorem in_fb(d:Du):inV (.str (duS d)) [V.str (Str.ofString "first"),V.str (Str.ofString "behind")]=true↔(d= .first\/d= .behind):=by
 cases d
 ·exact⟨λz=>absurd z (by decide+kernel),λz=>by rcases z with z | z<;>cases z⟩
 ·exact⟨λ_=>.inl rfl,λ_=>by decide+kernel⟩
 ·exact⟨λ_=>.inr rfl,λ_=>by decide+kernel⟩
 ·exact⟨λz=>absurd z (by decide+kernel),λz=>by rcases z with z | z<;>cases z⟩
 ·exact⟨λz=>absurd z (by decide+kernel),λz=>by rcases z with z | z<;>cases z⟩
 ·exact⟨λz=>absurd z (by decide+kernel),λz=>by rcases z with z | z<;>cases z⟩
theorem zQy(S:Mc)(s:List Nat):nxt S 5 s= .bad:=by
 have hT:∀st m,thg st m 5 s= .bad:=λst m=>mL rfl;have hN:∀ks us st m,nmd ks us st m 5 s= .bad:=λks us st m=>mL (.inl (by decide));have hI:∀st m,inn st m 5 s= .bad:=λst m=>by
  unfold inn;split
  ·exact hN _ _ _ _
  ·exact hT _ _
 unfold nxt;split
 ·rfl
 ·rw[mG (λz=>absurd z.1 (by decide))]
 ·exact hT _ _
 ·exact hI _ _
 ·split
  ·rfl
  ·rw[mG (λz=>absurd z.1 (by decide)),mG (λz=>absurd z.1 (by decide))]
 ·split
  ·rfl
  ·rw[mG (λz=>absurd z.1 (by decide)),hI]
section
variable{P:Program}{w:World}{K:PySem.W.Frag}{mg:Str->Option Value}{base:Heap}{f:Addr}{fd:FuncData}
def spNn:Sp:=λvs H Q _=>∃(F:Hp)(st a:Addr)(S:Mc)(t:Lk)(ks:List (List Nat))(us:List T)(nm:List Nat)(r:List Fr),vs= [.ref st, .ref a]/\Sta F st H S/\Wf S/\TkO F a t/\OkL t/\t.k≠5/\S.stk= .rcd ks us nm::r/\
 (nmd ks us r S.many t.k t.s= .bad->∀H',Sta F st H' S->Q (.str (Str.ofString "bad")) H')/\(nmd ks us r S.many t.k t.s= .great->∀H',Sta F st H' S->Q (.str (Str.ofString "great")) H')/\(∀S',nmd ks us r S.many t.k t.s= .go S'->∀H',Sta F st H' S'->Q (.str (Str.ofString "")) H')
theorem scNn:zV ["_law_state","_law_token","_law_kind","_law_string","_law_at"] ["_law_state","_law_token"] (zO sNn):=by walk_at "sc"
theorem ok_nn(F:Fun K "_law_name_next" "_law_name_next" sNn f fd)(B:Bl mg)(M:Ms mg):FnOk P w K mg base CX0 1 f fd ["_law_state","_law_token"] spNn:=by
 refine F.ok scNn (by walk_at "ln") λc A o s H vs Q E hr h=>?_;obtain⟨F,st,a,S,t,ks,us,nm,r,rfl,hS,wf,ha,hok,h5,hstk,q1,q2,q3⟩:=h;have nd:=scNn.nd;have hu:=uI hr;refine⟨_,(zD (uW (pv 1) (zFd (n:=3) rfl (xS (yO (i:=2) nd rfl (pR rfl)) (xS (yO (i:=3) nd rfl (pR rfl)) (xS (yO (i:=4) nd rfl (pR rfl)) zAv)))))
  (zD (zQ (PW.pt (jV (zK qD (pv 2) zC (zJ _)) (vZ (zEy (zPc hu (pv 3) (zR zY (xE hu (pv 0) zC (λ_ _=>rfl)) (jT vU zE) (λ_ _=>rfl))))))) (zG (zM zC)) zL)
  (zD (zQ (PW.pt (jV (zK wW (zP yE rfl B.len yH (zA (pv 3) zB)) zE (zJ _)) (vZ (zK zS (zP kI rfl B.len yH (zA (zR zY (xE hu (pv 0) zC (λ_ _=>rfl)) (jT vU zE) (λ_ _=>rfl)) zB)) zE (zJ _))))) (zG (zM zC)) zL)
  (zD (uW (pv 3) (zSx (xE hu (pv 0) zC (λ_ _=>rfl)) (jT vU zE) zHs))
  (zD (vG hu (pv 0) zC zC rfl)
  (zG (zM zC))))))), ?_⟩
 walk_at "st";unfold zXw;walk_at "rd6";obtain⟨o,nn,as,wv,sc,hw1,hw2⟩:=id hS;have haH:H a=some (.tup [.str (kR t.k), .str (tx t.s), .int t.n]):=(vW (sc.hF a _ ha)).2;refine⟨_,SqT.of haH,rfl,_,_,rfl,_,_,rfl,_,_,rfl,rfl, ?_⟩;have hb:=sc.op;rw[hstk] at hb
 cases as with
 | nil=>exact hb.elim
 | cons b as=>
 obtain⟨⟨ps,hb1,hb2,hb3,_⟩,hb4⟩:=hb;rw[show ps++((none:Option V).map λv=>(nK nm,v)).toList=ps from mN _] at hb1;have hpl:ps.length=ks.length:=by
  have:=congrArg List.length hb2
  rwa [nA,nA] at this
 have h30:=wf.size (.rcd ks us nm) (by rw[hstk];exact mH);have ho:=sc.ho;rw[vD] at ho;have eN:nmd ks us r S.many t.k t.s=if t.k≠1\/t.s∈ks then .bad else if 12<t.s.length\/ks.length=30 then .great else .go ⟨.rcd ks us t.s::r, .colon,S.many, .non⟩:=rfl;rw[eN] at q1 q2 q3
 by_cases hk:t.k=1
 ·have ek:kR t.k=Str.ofString "word":=by rw[hk];rfl
  refine⟨rfl,false,by rw[ek];simp,gL ⟨.ref o,jH▸DGet.k (k:=kOf (Str.ofString "open")) sc.hst,zZ (SqL.of ho) (wA _ _) ⟨b,rfl,_,DGet.k (k:=nK t.s) hb1, ?_⟩⟩⟩
  by_cases hv:t.s∈ks
  ·exact iP ((kG hb2 _).mpr hv) (q1 (mL (.inr hv)) H hS)
  refine iN (λz=>hv ((kG hb2 _).mp z)) ⟨_,rfl,by rw[zU];have:=hok.1;lia, ?_⟩;have n1:¬(t.k≠1\/t.s∈ks):=λz=>z.elim (λz=>z hk) hv;rw[mG n1] at q2 q3
  by_cases h12:12<t.s.length
  ·exact iP (by rw[zU];lia) (q2 (mL (.inl h12)) H hS)
  refine iN (by rw[zU];lia) ⟨.ref o,jH▸DGet.k (k:=kOf (Str.ofString "open")) sc.hst,zZ (SqL.of ho) (wA _ _) ⟨b,rfl,ps, .inl hb1, ?_⟩⟩
  by_cases hl:ks.length=30
  ·exact iP (by lia) (q2 (mL (.inr hl)) H hS)
  refine iN (by lia) ?_;rw[mG (λz=>z.elim h12 hl)] at q3;unfold zYu;walk_at "rd6";have hn:=sc.hn;rw[hstk,show((Fr.rcd ks us nm::r).map λf=>V.str (tx f.nm)).reverse=(r.map λf=>V.str (tx f.nm)).reverse++ [V.str (tx nm)] by simp[Fr.nm]] at hn;obtain⟨e1,e2⟩:=zSu ((r.map λf=>V.str (tx f.nm)).reverse) (V.str (tx nm)) (V.str (tx t.s));refine⟨.ref nn,uD▸DGet.k (k:=kOf (Str.ofString "names")) sc.hst,nn,_,-1,_,rfl,rfl,hn,e1, ?_⟩;rw[e2];have sc1:=sc.wn ((r.map λf=>V.str (tx f.nm)).reverse++ [V.str (tx t.s)]);refine⟨_,jI▸DPut.k (k:=kOf (Str.ofString "due")) sc1.hst (by show 5<_;rw[mJ];decide),q3 _ rfl _ ⟨o,nn,b::as,wv, ?_,λz=>absurd z (pQ _ _),hw2⟩⟩;have sc2:=sc1.wst (.str (Str.ofString "colon")) (.int S.many) wv;rw[hstk] at sc2;rw[show((Fr.rcd ks us t.s::r).map λf=>V.str (tx f.nm)).reverse=(r.map λf=>V.str (tx f.nm)).reverse++ [V.str (tx t.s)] by simp[Fr.nm]];exact sc2.name t.s
 ·exact⟨rfl,true,by rw[bF,sL];exact λz=>hk ((zAo hok (j:=1) (by decide)).mp (V.str.inj z)),zDl (q1 (mL (.inl hk)) H hS)⟩
noncomputable def kL:Nat->Str
 | 5=>Str.ofString "none"
 | k=>kR k
def TkN(H:Hp)(a:Addr)(t:Lk):Prop:=H a=some (.tup [.str (kL t.k), .str (tx t.s), .int t.n])
def spNx:Sp:=λvs H Q _=>∃(F:Hp)(st a:Addr)(S:Mc)(t:Lk),vs= [.ref st, .ref a]/\Sta F st H S/\Wf S/\TkN F a t/\OkL t/\
 (nxt S t.k t.s= .bad->∀H' S',Sta F st H' S'->Wf S'->Q (.str (Str.ofString "bad")) H')/\(nxt S t.k t.s= .great->∀H',Sta F st H' S->Q (.str (Str.ofString "great")) H')/\(∀S',nxt S t.k t.s= .go S'->∀H',Sta F st H' S'->Q (.str (Str.ofString "")) H')/\(nxt S t.k t.s= .good->∀H',Sta F st H' S->Q (.str (Str.ofString "good")) H')
theorem scNx:zV ["_law_state","_law_token","_law_due_here","_law_mark","_law_around","_law_close"] ["_law_state","_law_token"] (zO sNx):=by walk_at "sc"
theorem ok_nx(F:Fun K "_law_next" "_law_next" sNx f fd)(B:Bl mg)(M:Ms mg)(G_law_thing_next:Dn P w K mg base 2 "_law_thing_next" ["_law_state","_law_token"] zZi)(G_law_name_next:Dn P w K mg base 1 "_law_name_next" ["_law_state","_law_token"] spNn):FnOk P w K mg base CX0 3 f fd ["_law_state","_law_token"] spNx:=by
 refine F.ok scNx (by walk_at "ln") λc A o s H vs Q E hr h=>?_;obtain⟨F,st,a,S,t,rfl,hS,wf,ha,hok,q1,q2,q3,q4⟩:=h;have nd:=scNx.nd;have hu:=uI hr;refine⟨_,(zD (zQ (zK zS (zR yC (pv 1) zE (λ_ _=>rfl)) zC (zJ _)) (zG (zM zC)) zL)
  (zD (pS 2 nd (xE hu (pv 0) zC (λ_ _=>rfl)))
  (zD (vA (pS 3 nd (qO (zK zS (zR yC (pv 1) zE (λ_ _=>rfl)) zC (zJ _)) (zR yC (pv 1) zE (λ_ _=>rfl)) zC)))
  (zD (vA (pS 4 nd (qO (zK wW (zP yI rfl B.len yH (zA (xE hu (pv 0) zC (λ_ _=>rfl)) zB)) zE (zJ _)) (zR zY (xE hu (pv 0) zC (λ_ _=>rfl)) (jT vU zE) (λ_ _=>rfl)) kZ)))
  (zD (zQ (zK zS (pv 2) zC (zJ _)) (zG (zM (zR zY (zT (zA zC (zA zC zB))) (yM yX rfl B.int xH (zA (zW zS (zR yC (pv 1) zE (λ_ _=>rfl)) zC (zJ _)) zB)) (λ_ _=>rfl)))) zL)
  (zD (zQ (zK zS (pv 2) zC (zJ _)) (zD (vG hu (pv 0) zC zC rfl)
  (zG (zM (zR zY (zT (zA zC (zA zC zB))) (yM yX rfl B.int xH (zA (zW zS (pv 3) zC (zJ _)) zB)) (λ_ _=>rfl))))) zL)
  (zD (vA (pS 5 nd (zR zY (zT (zA zC (zA zC zB))) (yM yX rfl B.int xH (zA (zP (kB (T:="list") (by decide)) rfl B.isinstance zX (zA (pv 4) (zA (kK (v:=.ty "list") rfl B.list kH rfl) zB))) zB)) (λ_ _=>rfl))))
  (zD (vA (zQ (PW.pt (qJ (zK zEd (pv 2) (zT (zA zC (zA zC zB))) (by with_unfolding_all rfl)) (vJ (zK zS (pv 3) (pv 5) (zJ _))))) (zD (xF (zPs nX PySem.F.slot_list_pop PySem.F.type_list_pop zRl (xE hu (pv 0) zC (λ_ _=>rfl))))
  (zD (xF (zPs nX PySem.F.slot_list_pop PySem.F.type_list_pop zRl (xE hu (pv 0) zC (λ_ _=>rfl))))
  (zD (vG hu (pv 0) zC (zR zY (zT (zA zC (zA zC zB))) (yM yX rfl B.int xH (zA (zW wW (zP yI rfl B.len yH (zA (xE hu (pv 0) zC (λ_ _=>rfl)) zB)) zE (zJ _)) zB)) (λ_ _=>rfl)) rfl)
  (zG (zM zC))))) zL))
  (zD (zQ (zK zS (pv 2) zC (zJ _)) (zD (vG hu (pv 0) zC zC rfl)
  (zG (zM (zR zY (zT (zA zC (zA zC zB))) (yM yX rfl B.int xH (zA (zW zS (pv 3) zC (zJ _)) zB)) (λ_ _=>rfl))))) zL)
  (zD (zQ (PW.pt (qJ (yT (zP (kB (T:="dict") (by decide)) rfl B.isinstance zX (zA (pv 4) (zA (kK (v:=.ty "dict") rfl B.dict zAz rfl) zB)))) (vJ (zK qD (pv 2) zC (zJ _))))) (zG (zM (pD G_law_name_next hr (zA (pv 0) (zA (pv 1) zB))))) zL)
  (zG (zM (pD G_law_thing_next hr (zA (pv 0) (zA (pv 1) zB))))))))))))))), ?_⟩
 unfold zPn;walk_at "st";walk_at "rd6";obtain⟨o,nn,as,wv,sc,hw1,hw2⟩:=id hS;have haH:H a=some (.tup [.str (kL t.k), .str (tx t.s), .int t.n]):=(vW (sc.hF a _ ha)).2;refine yD (SqT.of haH) (v:=.str (kL t.k)) rfl ⟨rfl, ?_⟩
 by_cases hk5:t.k=5
 ·exact iP (by rw[hk5];rfl) (q1 (by rw[hk5];exact zQy S t.s) H S hS wf)
 have ekL:kL t.k=kR t.k:=by
  unfold kL;split
  ·exact absurd (by assumption) hk5
  ·rfl
 have haO:TkO F a t:=by
  unfold TkO;rw[<-ekL];exact ha
 rw[ekL] at haH⊢;have hnone:¬V.str (kR t.k)=V.str (Str.ofString "none"):=λz=>by
  have h1:=hok.k;have h2:=V.str.inj z;simp only[mF,nM,pZ] at h1;rcases h1 with e | e | e | e | e | e<;>rw[e] at h2
  ·exact absurd h2 (by decide+kernel)
  ·exact absurd h2 (by decide+kernel)
  ·exact absurd h2 (by decide+kernel)
  ·exact absurd h2 (by decide+kernel)
  ·exact absurd h2 (by decide+kernel)
  ·exact hk5 e
 obtain⟨mk,hmk⟩:∃mk,mk=if t.k=3 then t.s else[]:=⟨_,rfl⟩;have mk_iff:∀c:Nat,(V.str (tx mk)=V.str (tx [c]))↔(t.k=3/\t.s= [c]):=λc=>by
  constructor
  ·intro z
   have z:mk= [c]:=by
    have:=congrArg ts (V.str.inj z)
    rwa [yK,yK] at this
   rw[hmk] at z
   by_cases h:t.k=3
   ·rw[mL h] at z;exact⟨h,z⟩
   ·rw[mG h] at z;cases z
  ·rintro⟨h,z⟩
   rw[hmk,mL h,z]
 refine iN hnone ⟨_,zXp▸DGet.k (k:=kOf (Str.ofString "due")) sc.hst,λσ' H'=>σ'= [some (.ref st),some (.ref a),some (.str (duS S.du)),some (.str (tx mk)),none,none]/\H'=H, ?_, ?_⟩
 ·refine yD (SqT.of haH) (v:=.str (kR t.k)) rfl ⟨rfl, ?_⟩
  by_cases h3:t.k=3
  ·refine iP (by rw[h3];rfl) (yD (SqT.of haH) (v:=.str (tx t.s)) rfl ⟨?_,rfl⟩)
   rw[hmk,mL h3]
  ·refine iN (λz=>h3 ((zAo hok (j:=3) (by decide)).mp (V.str.inj z))) ⟨?_,rfl⟩
   rw[hmk,mG h3];rfl
 rintro σ' H' ⟨rfl,rfl⟩;obtain⟨av,hav⟩:∃av,av=(match as with | []=>V.non | b::_=>V.ref b):=⟨_,rfl⟩
 refine⟨λσ' H2=>σ'= [some (.ref st),some (.ref a),some (.str (duS S.du)),some (.str (tx mk)),some av,none]/\H2=H', ?_, ?_⟩
 ·refine⟨_,rfl,st,rfl, .ref o,jH▸DGet.k (k:=kOf (Str.ofString "open")) sc.hst,o,rfl,_,SqL.of sc.ho, ?_⟩
  cases as with
  | nil=>exact iN (by decide) ⟨by rw[hav];rfl,rfl⟩
  | cons b as=>
   have ho:=sc.ho;rw[vD] at ho⊢;refine iP (by rw[mC];show(0:Int)<((_+1:Nat):Int);lia) ⟨_,rfl,st,rfl, .ref o,jH▸DGet.k (k:=kOf (Str.ofString "open")) sc.hst,zZ (SqL.of ho) (wA _ _) ⟨by rw[hav];rfl,rfl⟩⟩
 rintro σ' H2 ⟨rfl,rfl⟩;refine⟨_,rfl,rfl, ?_⟩;have hlen:=sc.op.len;have d_end:∀d:Du,V.str (duS S.du)=V.str (duS d)↔S.du=d:=λd=>⟨λz=>zYx (V.str.inj z),λz=>by rw[z]⟩
 by_cases h1:S.du= .done
 ·have eN:nxt S t.k t.s=if t.k=4 then .good else .bad:=by unfold nxt;rw[h1]
  rw[eN] at q1 q4;refine iP ((d_end .done).mpr h1) λp hp=>⟨_,rfl, ?_⟩;have g:=zH hp (HO.lst [V.str (Str.ofString "bad"),V.str (Str.ofString "good")]);have hp3:upd H2 p (HO.lst [V.str (Str.ofString "bad"),V.str (Str.ofString "good")]) p=_:=zF;generalize upd H2 p (HO.lst [V.str (Str.ofString "bad"),V.str (Str.ofString "good")])=H3 at g hp3⊢;refine yD (SqT.of (g _ _ haH)) (v:=.str (kR t.k)) rfl ⟨rfl, ?_⟩
  by_cases h4:t.k=4
  ·rw[mL (show V.str (kR t.k)=V.str (Str.ofString "end") by rw[h4];rfl)]
   exact zZ (SqL.of hp3) (v:=.str (Str.ofString "good")) rfl (q4 (mL h4) H3 (hS.same g))
  ·rw[mG (show¬V.str (kR t.k)=V.str (Str.ofString "end") from λz=>h4 ((zAo hok (j:=4) (by decide)).mp (V.str.inj z)))]
   exact zZ (SqL.of hp3) (v:=.str (Str.ofString "bad")) rfl (q1 (mG h4) H3 S (hS.same g) wf)
 refine iN (λz=>h1 ((d_end .done).mp z)) ⟨_,rfl,rfl, ?_⟩
 by_cases h2:S.du= .colon
 ·have eN:nxt S t.k t.s=if t.k=3/\t.s= [58] then .go {S with du:=.thing} else .bad:=by unfold nxt;rw[h2]
  rw[eN] at q1 q3;refine iP ((d_end .colon).mpr h2) ⟨_,rfl,st,rfl,_,jI▸DPut.k (k:=kOf (Str.ofString "due")) sc.hst (by show 5<_;rw[mJ];decide), ?_⟩;have sc3:=sc.wst (.str (Str.ofString "thing")) (.int S.many) wv;have hw3:as= []->Rep (cut F (upd H2 st (.dK (stK o nn (.str (Str.ofString "thing")) (.int S.many) wv))) (mtb st o nn [] as)) wv S.whole:=λz=>Rep.same (vP (λ_ z _=>z) λb u hb e=>by rw[zN (λy:b=st=>hb (by rw[y];simp))];exact e) _ _ (hw1 z);generalize upd H2 st (.dK (stK o nn (.str (Str.ofString "thing")) (.int S.many) wv))=H3 at sc3 hw3⊢;have sta3:Sta F st H3 {S with du:=.thing}:=⟨o,nn,as,wv,sc3,hw3,hw2⟩;intro p hp;have g:=zH hp (HO.lst [V.str (Str.ofString "bad"),V.str (Str.ofString "")]);have hp4:upd H3 p (HO.lst [V.str (Str.ofString "bad"),V.str (Str.ofString "")]) p=_:=zF;generalize upd H3 p (HO.lst [V.str (Str.ofString "bad"),V.str (Str.ofString "")])=H4 at g hp4⊢;refine⟨_,rfl,rfl, ?_⟩
  by_cases h58:t.k=3/\t.s= [58]
  ·rw[mL (show V.str (tx mk)=V.str (Str.ofString ":") from(mk_iff 58).mpr h58)]
   exact zZ (SqL.of hp4) (v:=.str (Str.ofString "")) rfl (q3 _ (mL h58) H4 (sta3.same g))
  ·rw[mG (show¬V.str (tx mk)=V.str (Str.ofString ":") from λz=>h58 ((mk_iff 58).mp z))]
   refine zZ (SqL.of hp4) (v:=.str (Str.ofString "bad")) rfl (q1 (mG h58) H4 _ (sta3.same g) ⟨wf.deep,wf.many,wf.size,wf.inner,(λz=>nomatch z),λz=>?_,λ_=>wf.thg (.inr h2)⟩);rcases z with z | z | z | z<;>cases z
 refine iN (λz=>h2 ((d_end .colon).mp z)) ?_;have hop:=sc.op;obtain⟨cl,hcl⟩:∃cl,cl=(match S.stk with | []=>[125] | f::_=>f.cls):=⟨_,rfl⟩
 have tyA:∀H3,Same H2 H3->∃x,tyR H3 av=some x/\(if wI x "list" =true then(1:Int) else 0)=(if cl= [93] then 1 else 0)/\(wI x "dict" =true↔∃ks us nm r,S.stk= .rcd ks us nm::r):=λH3 g=>by
  clear q1 q2 q3 q4 sc hS hw1 wf;generalize S.stk=stk at*
  cases as with
  | nil=>
   cases stk with
   | cons _ _=>exact hop.elim
   | nil=>exact⟨"NoneType",by rw[hav];rfl,by rw[hcl];rfl,by constructor;(intro z;exact absurd z (by decide));(rintro⟨_,_,_,_,z⟩;cases z)⟩
  | cons b as=>
   cases stk with
   | nil=>exact hop.elim
   | cons fr stk=>
    cases fr with
    | row us=>
     obtain⟨⟨vs,h1,h2⟩,h3⟩:=hop;exact⟨"list",by rw[hav];exact zYa (g _ _ h1),by rw[hcl];rfl,by constructor;(intro z;exact absurd z (by decide));(rintro⟨_,_,_,_,z⟩;cases z)⟩
    | rcd ks us nm=>
     obtain⟨⟨ps,h1,h2,h3,_⟩,h4⟩:=hop;exact⟨"dict",by rw[hav];exact zFx (.inl (g _ _ h1)),by rw[hcl];rfl,by constructor;(intro _;exact⟨_,_,_,_,rfl⟩);(intro _;decide)⟩
 have hcl2:cl= [93]\/cl= [125]:=by
  rw[hcl]
  cases S.stk with
  | nil=>exact .inr rfl
  | cons fr _=>
   cases fr with
   | row _=>exact .inl rfl
   | rcd _ _ _=>exact .inr rfl
 refine⟨λσ' H3=>σ'= [some (.ref st),some (.ref a),some (.str (duS S.du)),some (.str (tx mk)),some av,some (.str (tx cl))]/\Same H2 H3, ?_, ?_⟩
 ·intro p hp
  have g:=zH hp (HO.lst [V.str (Str.ofString "}"),V.str (Str.ofString "]")]);have hp3:upd H2 p (HO.lst [V.str (Str.ofString "}"),V.str (Str.ofString "]")]) p=_:=zF;generalize upd H2 p (HO.lst [V.str (Str.ofString "}"),V.str (Str.ofString "]")])=H3 at g hp3⊢;obtain⟨x,e1,e2,_⟩:=tyA H3 g;refine⟨_,rfl,x,e1, ?_⟩;rw[e2];rcases hcl2 with e | e
  ·rw[mL e]
   exact zZ (SqL.of hp3) (v:=.str (Str.ofString "]")) rfl ⟨by rw[e];rfl,g⟩
  ·rw[mG (by rw[e];decide)]
   exact zZ (SqL.of hp3) (v:=.str (Str.ofString "}")) rfl ⟨by rw[e];rfl,g⟩
 rintro σ' H3 ⟨rfl,g3⟩;have sc3:=sc.same g3;have sta3:=hS.same g3;obtain⟨M4,hM4⟩:∃M4:St->Hp->Prop,M4=λσ' H4=>σ'= [some (.ref st),some (.ref a),some (.str (duS S.du)),some (.str (tx mk)),some av,some (.str (tx cl))]/\Same H3 H4/\¬((S.du= .first\/S.du= .behind)/\t.k=3/\t.s=cl):=⟨_,rfl⟩;refine⟨M4,⟨_,rfl,λp hp=>?_⟩, ?_⟩
 ·have g:=zH hp (HO.lst [V.str (Str.ofString "first"),V.str (Str.ofString "behind")])
  have hp4:upd H3 p (HO.lst [V.str (Str.ofString "first"),V.str (Str.ofString "behind")]) p=_:=zF;generalize upd H3 p (HO.lst [V.str (Str.ofString "first"),V.str (Str.ofString "behind")])=H4 at g hp4⊢;have sc4:=sc3.same g;refine⟨p,_,rfl, .inl (SqL.of hp4),rfl,rfl,_,rfl, ?_⟩;have hin:=in_fb S.du
  by_cases hfb:S.du= .first\/S.du= .behind
  ·refine iP (by show inV _ _=true;exact hin.mpr hfb) ⟨_,rfl,_,rfl,rfl, ?_⟩
   by_cases hmc:t.k=3/\t.s=cl
   ·refine iP (by rw[hmk,mL hmc.1,hmc.2]) ?_
    have hne:=wf.nonE (hfb.imp id .inl);obtain⟨fr,r,hstk⟩:=rG hne;have eN:nxt S t.k t.s= .go (xG r S.many fr.tree):=by
     have hs:t.s=fr.cls:=by rw[hmc.2,hcl,hstk]
     rcases hfb with h | h
     ·unfold nxt;rw[h,hstk];exact mL ⟨hmc.1,hs⟩
     ·unfold nxt;rw[h,hstk];exact mL ⟨hmc.1,hs⟩
    have q3':=q3 _ eN
    cases as with
    | nil=>rw[hstk] at hlen;cases hlen
    | cons b as=>
    have ho:=sc4.ho;rw[vD] at ho;have sc5:=sc4.wo (as.reverse.map V.ref);refine⟨_,rfl,st,rfl, .ref o,jH▸DGet.k (k:=kOf (Str.ofString "open")) sc4.hst, .inl ⟨rfl,_,SqL.of ho⟩,o,_, .ref b,rfl,rfl,ho,by simp, ?_⟩;rw[List.dropLast_concat];generalize upd H4 o (.lst (as.reverse.map V.ref))=H5 at sc5⊢;have hn:=sc5.hn;rw[hstk,show((fr::r).map λf=>V.str (tx f.nm)).reverse=(r.map λf=>V.str (tx f.nm)).reverse++ [V.str (tx fr.nm)] by simp] at hn;have sc6:=sc5.wn ((r.map λf=>V.str (tx f.nm)).reverse);refine⟨_,rfl,st,rfl, .ref nn,uD▸DGet.k (k:=kOf (Str.ofString "names")) sc5.hst, .inl ⟨rfl,_,SqL.of hn⟩,nn,_, .str (tx fr.nm),rfl,rfl,hn,by simp, ?_⟩;rw[List.dropLast_concat];generalize upd H5 nn (.lst ((r.map λf=>V.str (tx f.nm)).reverse))=H6 at sc6⊢;intro p6 hp6;have sc7:=sc6.same (zH hp6 (.lst [V.str (Str.ofString "end"),V.str (Str.ofString "behind")]));have hp7:upd H6 p6 (.lst [V.str (Str.ofString "end"),V.str (Str.ofString "behind")]) p6=_:=zF;generalize upd H6 p6 (.lst [V.str (Str.ofString "end"),V.str (Str.ofString "behind")])=H7 at sc7 hp7⊢;refine⟨_,rfl,st,rfl, .ref o,jH▸DGet.k (k:=kOf (Str.ofString "open")) sc7.hst,o,rfl,_,SqL.of sc7.ho, ?_⟩;rw[hstk] at sc7 hlen
    cases r with
    | nil=>
     cases as with
     | cons _ _=>cases hlen
     | nil=>
     refine zZ (SqL.of hp7) (v:=.str (Str.ofString "end")) rfl ⟨_,rfl,st,rfl,_,jI▸DPut.k (k:=kOf (Str.ofString "due")) sc7.hst (by show 5<_;rw[mJ];decide),q3' _ ?_⟩;have hwb:=hw2 b rfl;obtain⟨c1,c2⟩:=(sc7.wst (.str (Str.ofString "end")) (.int S.many) wv).close;refine⟨o,nn,[],wv,c1,λ_=>?_,λ_ z=>nomatch z⟩;rw[<-hwb] at c2;exact c2
    | cons f2 r=>
     cases as with
     | nil=>cases hlen
     | cons b2 as=>
     rw[mL (show 0<(((b2::as).reverse.map V.ref).length:Int) by rw[vD,mC];show(0:Int)<((_+1:Nat):Int);lia)];refine zZ (SqL.of hp7) (v:=.str (Str.ofString "behind")) rfl ⟨_,rfl,st,rfl,_,jI▸DPut.k (k:=kOf (Str.ofString "due")) sc7.hst (by show 5<_;rw[mJ];decide),q3' _ ?_⟩;obtain⟨c1,c2⟩:=(sc7.wst (.str (Str.ofString "behind")) (.int S.many) wv).close;refine⟨o,nn,b2::as,wv, ?_,λz=>absurd z (pQ _ _),λx hx=>hw2 x hx⟩;have en:∀t:T,(f2.add t).nm=f2.nm:=λt=>by cases f2<;>rfl
     rw[show((xG (f2::r) S.many fr.tree).stk.map λf=>V.str (tx f.nm)).reverse=((f2::r).map λf=>V.str (tx f.nm)).reverse by
      show((f2.add fr.tree::r).map λf=>V.str (tx f.nm)).reverse=_;rw[nD,en,nD]]
     exact c1
   ·refine iN (λz=>hmc ?_) ?_
    ·rcases hcl2 with e | e
     ·rw[e] at z⊢;exact(mk_iff 93).mp z
     ·rw[e] at z⊢;exact(mk_iff 125).mp z
    ·rw[hM4];exact⟨rfl,g,λy=>hmc y.2⟩
  ·refine iN (λz=>hfb (hin.mp z)) ?_
   rw[hM4];exact⟨rfl,g,λy=>hfb y.1⟩
 intro σ' H4 hM;rw[hM4] at hM;obtain⟨rfl,g4,hno⟩:=hM;have sc4:=sc3.same g4;have sta4:=sta3.same g4;refine⟨_,rfl,rfl, ?_⟩;have hnc:∀fr r,S.stk=fr::r->(S.du= .first\/S.du= .behind)->¬(t.k=3/\t.s=fr.cls):=λfr r e1 e2 z=>hno ⟨e2,z.1,by rw[z.2,hcl,e1]⟩
 by_cases hbh:S.du= .behind
 ·obtain⟨fr,r,hstk⟩:=rG (wf.nonE (.inr (.inl hbh)))
  have eN:nxt S t.k t.s=if t.k=3/\t.s= [44] then .go {S with du:=.more} else .bad:=by
   unfold nxt;rw[hbh,hstk];exact mG (hnc fr r hstk (.inr hbh))
  rw[eN] at q1 q3;refine iP ((d_end .behind).mpr hbh) ⟨_,rfl,st,rfl,_,jI▸DPut.k (k:=kOf (Str.ofString "due")) sc4.hst (by show 5<_;rw[mJ];decide), ?_⟩;have sc5:=sc4.wst (.str (Str.ofString "more")) (.int S.many) wv;have has:as≠ []:=λz=>by rw[z,hstk] at hlen;cases hlen
  generalize upd H4 st (.dK (stK o nn (.str (Str.ofString "more")) (.int S.many) wv))=H5 at sc5⊢;have sta5:Sta F st H5 {S with du:=.more}:=⟨o,nn,as,wv,sc5,λz=>absurd z has,hw2⟩;intro p hp;have g:=zH hp (HO.lst [V.str (Str.ofString "bad"),V.str (Str.ofString "")]);have hp6:upd H5 p (HO.lst [V.str (Str.ofString "bad"),V.str (Str.ofString "")]) p=_:=zF;generalize upd H5 p (HO.lst [V.str (Str.ofString "bad"),V.str (Str.ofString "")])=H6 at g hp6⊢;refine⟨_,rfl,rfl, ?_⟩
  by_cases h44:t.k=3/\t.s= [44]
  ·rw[mL (show V.str (tx mk)=V.str (Str.ofString ",") from(mk_iff 44).mpr h44)]
   exact zZ (SqL.of hp6) (v:=.str (Str.ofString "")) rfl (q3 _ (mL h44) H6 (sta5.same g))
  ·rw[mG (show¬V.str (tx mk)=V.str (Str.ofString ",") from λz=>h44 ((mk_iff 44).mp z))]
   refine zZ (SqL.of hp6) (v:=.str (Str.ofString "bad")) rfl (q1 (mG h44) H6 _ (sta5.same g) ⟨wf.deep,wf.many,wf.size,wf.inner,(λz=>nomatch z),(λ_=>by show S.stk≠ [];rw[hstk];exact pQ _ _),λz=>?_⟩);rcases z with z | z<;>cases z
 refine iN (λz=>hbh ((d_end .behind).mp z)) ⟨_,rfl, ?_⟩;obtain⟨x,e1,_,e3⟩:=tyA H4 (g3.trans g4);refine⟨x,e1, ?_⟩;have thing:(∀ks us nm r,S.stk= .rcd ks us nm::r->nm∉ks/\ks.length<30)->nxt S t.k t.s=thg S.stk S.many t.k t.s->zZi [V.ref st,V.ref a] H4 Q E0:=λz1 z2=>by
  rw[z2] at q1 q2 q3;exact⟨F,st,a,S,t,rfl,sta4,wf,haO,hok,hk5,z1,λy H' hs=>q1 y H' S hs wf,q2,q3⟩
 by_cases hrc:∃ks us nm r,S.stk= .rcd ks us nm::r
 ·refine iP (e3.mpr hrc) ⟨_,rfl,rfl, ?_⟩
  obtain⟨ks,us,nm,r,hstk⟩:=hrc
  by_cases hth:S.du= .thing
  ·refine⟨false,by rw[Bool.not_false];exact nB ((d_end .thing).mpr hth),gL ⟨_,rfl,_,rfl,thing (λks us nm r e=>?_) (by unfold nxt;rw[hth])⟩⟩
   obtain⟨ks',us',nm',y1,y2,y3⟩:=wf.thg (.inl hth) _ _ e;cases y1;exact⟨y2,y3⟩
  ·refine⟨true,by rw[bF,sL];exact λz=>hth ((d_end .thing).mp z),zDl ⟨_,rfl,_,rfl, ?_⟩⟩
   have eN:nxt S t.k t.s=nmd ks us r S.many t.k t.s:=by
    unfold nxt;rw[hstk]
    cases hd:S.du with
    | thing=>exact absurd hd hth
    | behind=>exact absurd hd hbh
    | colon=>exact absurd hd h2
    | done=>exact absurd hd h1
    | first=>exact mG (hnc _ _ hstk (.inl hd))
    | more=>rfl
   rw[eN] at q1 q2 q3;exact⟨F,st,a,S,t,ks,us,nm,r,rfl,sta4,wf,haO,hok,hk5,hstk,λy H' hs=>q1 y H' S hs wf,q2,q3⟩
 ·refine iN (λz=>hrc (e3.mp z)) ⟨_,rfl,_,rfl,thing (λks us nm r e=>absurd ⟨ks,us,nm,r,e⟩ hrc) ?_⟩
  have hin:inn S.stk S.many t.k t.s=thg S.stk S.many t.k t.s:=by
   unfold inn;split
   ·rename_i e;exact absurd ⟨_,_,_,_,e⟩ hrc
   ·rfl
  unfold nxt
  cases hd:S.du with
  | thing=>rfl
  | behind=>exact absurd hd hbh
  | colon=>exact absurd hd h2
  | done=>exact absurd hd h1
  | more=>exact hin
  | first=>
   obtain⟨fr,r,hstk⟩:=rG (wf.nonE (.inl hd));rw[hstk] at hin⊢;exact(mG (hnc _ _ hstk (.inl hd))).trans hin
end
end K26
namespace K26
open PySem L2 PySem.W
seal L2.PSs L2.PS L2.PE L2.PT L2.PW L2.PA L2.PI L2.PG L2.PGs L2.PPs L2.PTs
abbrev sDu:Stmt:=top 56
def Tks(H:Hp)(xs:List V)(l:List Lk):Prop:=xs.length=l.length/\∀(i:Nat) t,l[i]? =some t->∃a,xs[i]? =some (.ref a)/\TkN H a t
def S0:Mc:=⟨[], .thing,0, .non⟩
theorem wf0:Wf S0:=⟨by decide,by decide,(λf hf=>nomatch hf),(λf hf=>nomatch hf),(λz=>nomatch z),(λz=>by rcases z with z | z | z | z<;>cases z),λ_ f r z=>nomatch z⟩
theorem zZe(o nn:Addr):gI [] (stK o nn (.str (Str.ofString "thing")) (.int 0) .non)=stK o nn (.str (Str.ofString "thing")) (.int 0) .non:=by
 unfold gI stK;simp only[bT,List.foldl_nil];rw[wU (kvs:=([]:List (Key×V))) _ jS,nH];rw[wU (kvs:=[(kOf (Str.ofString "open"),V.ref o)]) _ (by rw[yN gW,jS]),nP,nH];rw[wU (kvs:=[(kOf (Str.ofString "open"),V.ref o),(kOf (Str.ofString "names"),V.ref nn)]) _ (by rw[yN gG,yN jN,jS]),nP,nP,nH];rw[wU (kvs:=[(kOf (Str.ofString "open"),V.ref o),(kOf (Str.ofString "names"),V.ref nn),(kOf (Str.ofString "due"),V.str (Str.ofString "thing"))]) _ (by rw[yN jQ,yN jD,yN gM,jS]),nP,nP,nP,nH];rw[wU (kvs:=[(kOf (Str.ofString "open"),V.ref o),(kOf (Str.ofString "names"),V.ref nn),(kOf (Str.ofString "due"),V.str (Str.ofString "thing")),(kOf (Str.ofString "many"),V.int 0)]) _ (by rw[yN jC,yN qK,yN jM,yN jE,jS])]
 rfl
theorem sta0{H:Hp}{st o nn:Addr}(h1:H st=none)(h2:upd H st (.dK []) o=none)(h3:upd (upd H st (.dK [])) o (.lst []) nn=none):Sta H st (upd (upd (upd (upd H st (.dK [])) o (.lst [])) nn (.lst [])) st (.dK (stK o nn (.str (Str.ofString "thing")) (.int 0) .non))) S0:=by
 have n1:o≠st:=λz=>by rw[z,zF] at h2;cases h2
 have n2:nn≠o:=λz=>by rw[z,zF] at h3;cases h3
 have n3:nn≠st:=λz=>by rw[z,zN (Ne.symm n1),zF] at h3;cases h3
 have e2:H o=none:=by rw[zN n1] at h2;exact h2
 have e3:H nn=none:=by rw[zN n2,zN n3] at h3;exact h3
 refine⟨o,nn,[], .non,⟨?_,zF,by rw[zN n1,zN (Ne.symm n2),zF];rfl,by rw[zN n3,zF];rfl,nJ,λb u e=>?_⟩,λ_=>rfl,λ_ z=>nomatch z⟩
 ·simp only[mtb,mN,pE,mF,nM,pZ,cA,not_false_eq_true,List.nodup_nil,and_true]
  exact⟨⟨Ne.symm n1,Ne.symm n3⟩,Ne.symm n2⟩
 ·have b1:b≠st:=λz=>by rw[z,h1] at e;cases e
  have b2:b≠o:=λz=>by rw[z,e2] at e;cases e
  have b3:b≠nn:=λz=>by rw[z,e3] at e;cases e
  rw[zFt (by simp only[mtb,mN,mF,nM,pZ,cA];exact⟨b1,b2,b3⟩),zN b1,zN b3,zN b2,zN b1];exact e
section
variable{P:Program}{w:World}{K:PySem.W.Frag}{mg:Str->Option Value}{base:Heap}{f:Addr}{fd:FuncData}
def spDu:Sp:=λvs H Q _=>∃(p:Addr)(xs:List V)(l:List Lk),vs= [.ref p]/\H p=some (.lst xs)/\Tks H xs l/\OkLs l/\l.length<=100000/\run S0 l≠ .no/\
 (∀n,run S0 l= .bad n->∀q H',Same H H'->H' q=some (.tup [.str (Str.ofString "bad"), .int n])->Q (.ref q) H')/\
 (run S0 l= .great->∀q n H',Same H H'->H' q=some (.tup [.str (Str.ofString "great"), .int n])->Q (.ref q) H')/\
 (∀t,run S0 l= .good t->∀q v H',Same H H'->H' q=some (.tup [.str (Str.ofString "good"),v])->Rep H' v t->Q (.ref q) H')
theorem scDu:zV ["_law_row","_law_state","_law_token","_law_word"] ["_law_row"] (zO sDu):=by walk_at "sc"
theorem ok_du(F:Fun K "_law_due" "_law_due" sDu f fd)(B:Bl mg)(M:Ms mg)(G_law_next:Dn P w K mg base 3 "_law_next" ["_law_state","_law_token"] spNx):FnOk P w K mg base CX0 4 f fd ["_law_row"] spDu:=by
 refine F.ok scDu (by walk_at "ln") λc A o s H vs Q E hr h=>?_;obtain⟨p,xs,l,rfl,hp,htk,hok,hl,hno,q1,q2,q3⟩:=h;have nd:=scDu.nd;have hu:=uI hr;refine⟨_,(zD (pS 1 nd (zVl (jR zC (zT zB) (jR zC (zT zB) (jR zC zC (jR zC zE (jR zC kZ zVf))))) (by rfl) (by rfl) (pQ _ _) (by decide)))
  (zD (gJ PassesOwn.never rfl (zUs (pv 0)) (yO (i:=2) nd rfl (pR rfl)) (zD (pS 3 nd (pD G_law_next hr (zA (pv 1) (zA (pv 2) zB))))
  (zD (zQ (zK zS (pv 3) zC (zJ _)) (zG (zM (yA (zA zC (zA (xE hu (pv 1) zC (λ_ _=>rfl)) zB))))) zL)
  (zG (zQ (zK qD (pv 3) zC (zJ _)) (zG (zM (yA (zA (pv 3) (zA (zR yC (pv 2) zE (λ_ _=>rfl)) zB))))) zL)))))
  (zG (zM (yA (zA zC (zA kZ zB))))))), ?_⟩
 walk_at "st";walk_at "rd6";intro st h1 o h2 nn h3;have n1:o≠st:=λz=>by rw[z,zF] at h2;cases h2
 have n3:nn≠st:=λz=>by rw[z,zN (Ne.symm n1),zF] at h3;cases h3
 refine⟨by rw[zN (Ne.symm n3),zN (Ne.symm n1),zF],stK o nn (.str (Str.ofString "thing")) (.int 0) .non,rfl,by show 5<=15;lia, ?_⟩;rw[zZe];have hs0:=sta0 h1 h2 h3;generalize upd (upd (upd (upd H st (.dK [])) o (.lst [])) nn (.lst [])) st (.dK (stK o nn (.str (Str.ofString "thing")) (.int 0) .non))=H1 at hs0⊢;have g1:=hs0.fr;refine⟨⟨xs,SqL.of (g1 _ _ hp)⟩,zNr (xs:=xs) (λi σ H2=>∃o1 o2 S,σ= [some (.ref p),some (.ref st),o1,o2]/\Sta H st H2 S/\Wf S/\run S0 l=run S (l.drop i)) ⟨none,none,S0,rfl,hs0,wf0,rfl⟩ (λi σ H2 _ ⟨_,_,_,_,z,_⟩=>SqL.of (z.fr _ _ hp)) ?_ ?_⟩
 ·rintro i x σ H2 hx ⟨o1,o2,S,rfl,hS,wf,hrun⟩
  have hil:=(nF.mp hx).1;rw[htk.1] at hil;have ht:l[i]? =some l[i]:=by simp[hil]
  obtain⟨a,ha,htn⟩:=htk.2 i _ ht;rw[hx] at ha;cases ha;generalize l[i]=t at ht htn;have hdr:l.drop i=t::l.drop (i+1):=by
   rw[sF hil];have:=(nF.mp ht).2;rw[this]
  rw[hdr] at hrun;have hokt:=hok t (nW ht);walk_at "rd6";refine⟨H,st,a,S,t,rfl,hS,wf,htn,hokt,λe H' S' hs' wf'=>?_,λe H' hs'=>?_,λS' e H' hs'=>?_,λe H' hs'=>?_⟩
  ·refine⟨rfl,iN (by decide+kernel) ⟨rfl,true,by decide+kernel,zDl (yD (SqT.of (hs'.fr _ _ htn)) (v:=.int t.n) rfl λp5 hp5=>q1 t.n (hrun.trans (vI e)) p5 _ (hs'.fr.trans (zH hp5 _)) zF)⟩⟩
  ·refine⟨rfl,iN (by decide+kernel) ⟨rfl,true,by decide+kernel,zDl (yD (SqT.of (hs'.fr _ _ htn)) (v:=.int t.n) rfl λp5 hp5=>q2 (hrun.trans (zAh e)) p5 t.n _ (hs'.fr.trans (zH hp5 _)) zF)⟩⟩
  ·exact⟨rfl,iN (by decide+kernel) ⟨rfl,false,by decide+kernel,gL ⟨⟨_,rfl⟩,S',hs',zTw wf e,hrun.trans (jA e)⟩⟩⟩
  ·have hdn:S.du= .done:=by
    have e':=e;unfold nxt at e';split at e'
    ·assumption
    ·split at e'<;>cases e'
    ·exact absurd e' vN
    ·unfold inn at e'
     split at e'
     ·exact absurd e' jU
     ·exact absurd e' vN
    ·split at e'
     ·cases e'
     split at e'
     ·cases e'
     split at e'<;>cases e'
    ·split at e'
     ·cases e'
     split at e'
     ·cases e'
     unfold inn at e';split at e'
     ·exact absurd e' jU
     ·exact absurd e' vN
   have hfr:=hs'.fr;obtain⟨o',nn',as,wv,sc,hw1,hw2⟩:=hs';have has:as= []:=by
    have:=sc.op.len;rw[wf.done hdn] at this;exact pB this
   refine⟨rfl,iP rfl ⟨wv,zSl▸DGet.k (k:=kOf (Str.ofString "whole")) sc.hst,λp5 hp5=>?_⟩⟩;refine q3 S.whole (hrun.trans (zGz e)) p5 wv _ (hfr.trans (zH hp5 _)) zF (Rep.same (λb u eb=>zH hp5 _ _ _ (zIb eb).2.2.1) _ _ (hw1 has))
 ·rintro σ H2 ⟨o1,o2,S,rfl,hS,wf,hrun⟩
  rw[htk.1,cY] at hrun;exact absurd hrun hno
end
end K26
namespace K26
open PySem L2 PySem.W
seal L2.PSs L2.PS L2.PE L2.PT L2.PW L2.PA L2.PI L2.PG L2.PGs L2.PPs L2.PTs
abbrev sOn:Stmt:=top 57
abbrev sTo:Stmt:=top 58
theorem bt_VE:bootBuiltins "ValueError" =some (.type "ValueError"):=by decide+kernel
structure Cf(K:Frag)(mg:Str->Option Value)(d:Nat->Addr)(B:Addr):Prop where
 mV:mg "ValueError" =none
 mB:mg "CabinetError" =some (.ref B)
 m0:mg "BadText" =some (.ref (d 0))
 m1:mg "TooGreat" =some (.ref (d 1))
 m2:mg "NoPlace" =some (.ref (d 2))
 x0:exmOne K (.ref (d 0)) (.ref B)=some true
 x1:exmOne K (.ref (d 1)) (.ref B)=some true
 G0:uT K (d 0)
 G1:uT K (d 1)
 at_:findIn K (.ref (d 0)) "at" =some none
 k00:kitOne K (.ref (d 0)) (.ref (d 0))=some true
 k01:kitOne K (.ref (d 0)) (.ref (d 1))=some false
 k02:kitOne K (.ref (d 0)) (.ref (d 2))=some false
 k0V:kitOne K (.ref (d 0)) (.type "ValueError")=some true
 k10:kitOne K (.ref (d 1)) (.ref (d 0))=some false
 k11:kitOne K (.ref (d 1)) (.ref (d 1))=some true
 k12:kitOne K (.ref (d 1)) (.ref (d 2))=some false
 k1V:kitOne K (.ref (d 1)) (.type "ValueError")=some true
section
variable{P:Program}{w:World}{K:PySem.W.Frag}{mg:Str->Option Value}{base:Heap}{f:Addr}{fd:FuncData}{d:Nat->Addr}{Bs:Addr}
def spOn(d:Nat->Addr):Sp:=λvs H Q _=>∃x,vs= [.ref x]/\(CaughtZ H x (d 0)\/CaughtZ H x (d 1))/\Q (.bl true) H
theorem scOn:zV ["_law_e","_law_one_here"] ["_law_e"] (zO sOn):=by walk_at "sc"
theorem ok_on(F:Fun K "_law_one" "_law_one" sOn f fd)(B:Bl mg)(B5:Bl5 mg)(W:Cf K mg d Bs):FnOkH P w K mg base 1 f fd ["_law_e"] (spOn d):=by
 refine F.okh scOn (by walk_at "ln") λc A o s H vs Q E hr h=>?_;obtain⟨x,rfl,hc,q⟩:=h;have nd:=scOn.nd;have mV:=W.mV;refine⟨_,(zD (pS 1 nd (zW qD (zP kE rfl B.isinstance zX (zA (pv 0) (zA (jK (v:=.ref (d 0)) rfl W.m0 rfl) zB))) (zP kE rfl B.isinstance zX (zA (pv 0) (zA (jK (v:=.ref (d 1)) rfl W.m1 rfl) zB))) (zJ _)))
  (zG (zM (xV (pv 1) (xV (zP (zOo (T:="ValueError")) rfl B.isinstance zX (zA (pv 0) (zA (kK (v:=.ty "ValueError") rfl mV bt_VE rfl) zB))) (xI (zQw (zP kE rfl B.isinstance zX (zA (pv 0) (zA (jK (v:=.ref (d 2)) rfl W.m2 rfl) zB)))))))))), ?_⟩
 walk_at "st";walk_at "rd6";rcases hc with hc | hc
 ·exact⟨x,_,_,⟨rfl,rfl⟩,hc,W.G0,true,W.k00,x,_,_,⟨rfl,rfl⟩,hc,W.G0,false,W.k01,true,rfl,iP rfl ⟨_,hc,W.G0,true,W.k0V,iP rfl ⟨x,_,_,⟨rfl,rfl⟩,hc,W.G0,false,W.k02,q⟩⟩⟩
 ·exact⟨x,_,_,⟨rfl,rfl⟩,hc,W.G1,false,W.k10,x,_,_,⟨rfl,rfl⟩,hc,W.G1,true,W.k11,true,rfl,iP rfl ⟨_,hc,W.G1,true,W.k1V,iP rfl ⟨x,_,_,⟨rfl,rfl⟩,hc,W.G1,false,W.k12,q⟩⟩⟩
theorem scTo:zV ["_law_text","_law_e"] ["_law_text"] (zO sTo):=by walk_at "sc"
noncomputable def rdR(L:List Nat)(l:List Lk):Res:=if 20000<L.length then .great else gK [] 0 l
def spTo:Sp:=λvs H Q _=>∃(L:List Nat)(l:List Lk),vs= [.str (tx L)]/\(20000<L.length\/Src L l)/\L.length<=100000/\
 (∀n,rdR L l= .bad n->∀q H',Same H H'->H' q=some (.tup [.str (Str.ofString "bad"), .int n])->Q (.ref q) H')/\
 (rdR L l= .great->∀q H',Same H H'->H' q=some (.tup [.str (Str.ofString "great"), .non])->Q (.ref q) H')/\
 (∀t,rdR L l= .good t->∀q v H',Same H H'->H' q=some (.tup [.str (Str.ofString "good"),v])->Rep H' v t->Q (.ref q) H')
theorem ok_to(F:Fun K "_law_told" "_law_told" sTo f fd)(B:Bl mg)(W:Cf K mg d Bs)(Greadx:Dx nC P w K mg base 32 "read" ["text"] (zSr (d 0) (d 1)))(G_law_oneh:Dh P w K mg base 1 "_law_one" ["_law_e"] (spOn d)):FnOk P w K mg base CX0 33 f fd ["_law_text"] spTo:=by
 refine F.ok scTo (by walk_at "ln") λc A o s H vs Q E hr h=>?_;obtain⟨L,l,rfl,hs,hL,q1,q2,q3⟩:=h;have nd:=scTo.nd;have hmCabinetError:=W.mB;have XGat:=W.G0;have Xfat:=W.at_;refine⟨_,(zG (zPj rfl rfl hmCabinetError nd (i:=1) rfl rfl rfl rfl rfl (λ_ _ _ _ hpa=>(zJh (zPo (zEn (PE.at zC) (zEn (zPx Greadx hr (by lia) rfl hpa (zA (pv 0) zB)) (PA.at zB)))))) (λ_ h=>h) (λ_=>(zD (zQ (vY (yT (zXa G_law_oneh rfl hr.h (by lia) rfl (zA (pv 1) zB)))) (zG (zM (yA (zA zC (zA kZ zB))))) zL)
  (zD (zQ (yT (zP kE rfl B.isinstance zX (zA (pv 1) (zA (jK (v:=.ref (d 0)) rfl W.m0 rfl) zB)))) (zG (zM (yA (zA zC (zA (zGe XGat Xfat (pv 1)) zB))))) zL)
  (zG (zM (yA (zA zC (zA kZ zB)))))))))), ?_⟩
 walk_at "st";unfold zWa zPw zKx zQt;walk_at "rd6";refine⟨L,l,rfl,hs,by lia, ?_⟩;refine⟨λn e dd H1 g1 hd=>⟨d 0,rfl,W.x0,λx o hx=>?_⟩,λe H1 g1=>⟨d 1,rfl,W.x1,λx o hx=>?_⟩,λt e v H1 g1 hv p hp=>q3 t e p v _ (g1.trans (zH hp _)) zF (Rep.same (λb u eb=>zH hp _ _ _ ?_) _ _ hv)⟩
 ·have hdx:dd≠x:=λz=>by rw[z,hx] at hd;cases hd
  have g2:Same H1 (upd H1 x (HO.frz o (exN x (d 0) (some dd)))):=zH hx _;have hx2:upd H1 x (HO.frz o (exN x (d 0) (some dd))) x=some (HO.frz o (exN x (d 0) (some dd))):=zF;generalize upd H1 x (HO.frz o (exN x (d 0) (some dd)))=H2 at g2 hx2⊢;have hc:CaughtZ H2 x (d 0):=⟨o, .inr ⟨dd,_,hx2,g2 _ _ hd⟩⟩;refine⟨⟨o,_,_,hx2⟩,x,rfl, .inl hc,true,rfl,iN (by decide) ⟨x,_,_,⟨rfl,rfl⟩,hc,W.G0,true,W.k00,iP rfl ⟨o,dd,hx2,_,g2 _ _ hd,n,rfl,λp hp=>q1 n e p _ (g1.trans (g2.trans (zH hp _))) zF⟩⟩⟩
 ·have g2:Same H1 (upd H1 x (HO.frz o (exN x (d 1) none))):=zH hx _
  have hx2:upd H1 x (HO.frz o (exN x (d 1) none)) x=some (HO.frz o (exN x (d 1) none)):=zF;generalize upd H1 x (HO.frz o (exN x (d 1) none))=H2 at g2 hx2⊢;have hc:CaughtZ H2 x (d 1):=⟨o, .inl hx2⟩;refine⟨⟨o,_,_,hx2⟩,x,rfl, .inr hc,true,rfl,iN (by decide) ⟨x,_,_,⟨rfl,rfl⟩,hc,W.G1,false,W.k10,iN (by decide) λp hp=>q2 e p _ (g1.trans (g2.trans (zH hp _))) zF⟩⟩
 ·have:=jX eb
  rw[qC this] at eb;exact eb
end
end K26
namespace K26
open PySem L2
seal L2.PSs L2.PS L2.PE L2.PT L2.PW L2.PA L2.PI L2.PG L2.PGs L2.PPs L2.PTs
abbrev zPb:Stmt:=top 44
abbrev zBs:Stmt:=top 45
mutual
def OkR:T->Prop
 | .non=>True
 | .bl _=>True
 | .int _=>True
 | .str _=>True
 | .lst us=>OkRs us
 | .dic ks us=>ks.Nodup/\ks.length=us.length/\ks.length<=30/\OkRs us
 | .tup _=>False
def OkRs:List T->Prop
 | []=>True
 | t::ts=>OkR t/\OkRs ts
end
theorem OkRs.mem{t:T}:∀{ts:List T},OkRs ts->t∈ts->OkR t
 | [],_,h=>nomatch h
 | u::ts,h,hm=>(mF.mp hm).elim (λe=>e▸h.1) (OkRs.mem h.2)
theorem OkRs.snoc{t:T}(h':OkR t):∀{ts:List T},OkRs ts->OkRs (ts++ [t])
 | [],_=>⟨h',nJ⟩
 | _::_,h=>⟨h.1,OkRs.snoc h' h.2⟩
theorem jW{k:List Nat}{t:T}:∀{ks:List (List Nat)}{us:List T}{i:Nat},ks.Nodup->ks[i]? =some k->us[i]? =some t->uS k ks us=t
 | [],_,i,_,h,_=>by simp at h
 | _::_,[],i,_,_,h=>by simp at h
 | k'::ks,c::us,0,n,h1,h2=>by
  cases h1;cases h2;exact mL rfl
 | k'::ks,c::us,i+1,n,h1,h2=>by
  have h1:ks[i]? =some k:=by simpa using h1
  have h2:us[i]? =some t:=by simpa using h2
  have hn:=pE.mp n;show(if k'=k then c else uS k ks us)=t;rw[mG (λz=>hn.1 (by rw[z];exact nW h1))];exact jW hn.2 h1 h2
section
variable{P:Program}{w:World}{K:W.Frag}{mg:Str->Option Value}{base:Heap}{f:Addr}{fd:FuncData}
noncomputable def zWt(t:String):Int:=if t= "NoneType" then 0 else if t= "bool" then 1 else if t= "int" then 2 else if t= "str" then 3 else if t= "list" then 5 else if t= "dict" then 6 else 4
def zKn:Sp:=λvs H Q _=>∃(v:V)(t:String),vs= [v]/\tyS H v=some t/\∀H',Same H H'->Q (.int (zWt t)) H'
theorem scSort:zV ["_law_thing"] ["_law_thing"] (zO zPb):=by walk_at "sc"
theorem zUp(F:Fun K "_law_sort" "_law_sort" zPb f fd)(B:Bl mg):FnOk P w K mg base CX0 1 f fd ["_law_thing"] zKn:=by
 refine F.ok scSort (by walk_at "ln") λc A o s H vs Q E hr h=>?_;obtain⟨v,t,rfl,ht,q⟩:=h;have nd:=scSort.nd;refine⟨_,(zD (zQ (zEy (zQb (pv 0))) (zG (zM zE)) zL)
  (zD (zQ (yT (pI B.isinstance zX B.bool zEz (pv 0))) (zG (zM zE)) zL)
  (zD (zQ (yT (pI B.isinstance zX B.int xH (pv 0))) (zG (zM zE)) zL)
  (zD (zQ (yT (pI B.isinstance zX B.str gP (pv 0))) (zG (zM zE)) zL)
  (zG (zM (zI yL (zI yL zE (yM yX rfl B.int xH (zA (pI B.isinstance zX B.list kH (pv 0)) zB))) (zI wY zE (yM yX rfl B.int xH (zA (pI B.isinstance zX B.dict zAz (pv 0)) zB)))))))))), ?_⟩
 walk_at "st";walk_at "rd6";have hm:=zFf ht;have q':=q H (Same.refl H);simp only[ht,Option.some.injEq,bZ]
 by_cases hv:v= .non
 ·subst hv;cases ht;rw[mL rfl];exact q'
 ·rw[mG hv]
  simp only[tyL,mF,nM,pZ] at hm;rcases hm with rfl | rfl | rfl | rfl | rfl | rfl | rfl
  ·exact absurd (zLp ht) hv
  all_goals (simpa [wI,zWt] using q')
theorem zBq:∀n:Nat,(List.replicate n true).all id=true
 | 0=>rfl
 | n+1=>by rw[pA,cR,zBq n];rfl
theorem zEk:∀xs:List Str,zAr (xs.map V.str) (xs.map V.str)=true
 | []=>rfl
 | x::xs=>by
  show(eqV (.str x) (.str x)&& zAr (xs.map V.str) (xs.map V.str))=true;rw[zEk xs,Bool.and_true];exact nB rfl
def uE(n:Nat):Sp:=λvs H Q _=>∃(v u:V)(t:T),vs= [v,u]/\Rep H v t/\Rep H u t/\OkR t/\T.dep t<n/\T.sz t<=1000/\∀H',Same H H'->Q (.bl true) H'
theorem scAlike:zV ["_law_one_here","_law_other"] ["_law_one_here","_law_other"] (zO zBs):=by walk_at "sc"
theorem zOw{n:Nat}(F:Fun K "_law_alike" "_law_alike" zBs f fd)(B:Bl2 mg)(G_law_sort:Dn P w K mg base 1 "_law_sort" ["_law_thing"] zKn)(G_law_alike:Dn P w K mg base (2+n) "_law_alike" ["_law_one_here","_law_other"] (uE n)):
  FnOk P w K mg base CX0 (2+n+1) f fd ["_law_one_here","_law_other"] (uE (n+1)):=by
 refine F.ok scAlike (by walk_at "ln") λc A o s H vs Q E hr h=>?_;obtain⟨v,u,t,rfl,hv,hw,hf,hd,hz,q⟩:=h;have nd:=scAlike.nd;have hu:=uI hr;have hu0:=hr.units0;refine⟨_,(zD (zQ (zK qD (pD G_law_sort hr (zA (pv 0) zB)) (pD G_law_sort hr (zA (pv 1) zB)) (zJ _)) (zG (zM vQ)) zL)
  (zD (zQ (yT (pI B.isinstance zX B.list kH (pv 0))) (zD (zQ (zK qD (zP yI rfl B.len yH (zA (pv 0) zB)) (zP yI rfl B.len yH (zA (pv 1) zB)) (zJ _)) (zG (zM vQ)) zL)
  (zG (zM (zP (wB rfl) rfl B.all qY (zA (vF (own:=["_law_k"]) (F:=[("_law_one_here",0),("_law_other",1)]) ⟨rfl,by walk_at "wu",by walk_at "wu",by walk_at "wu",(.cons rfl rfl rfl (.cons rfl rfl rfl .nil))⟩ rfl (xX rfl B.range (zA (zP yI rfl B.len yH (zA (pv 0) zB)) zB)) (λ_ _ _ _=>yO (i:=0) (by show(qR ["_law_k"] [("_law_one_here",0),("_law_other",1)]).Nodup;decide+kernel) rfl (pR rfl)) (λ_ _ _ _=>wR) (λ_ _ _ _=>(pD G_law_alike hr (zA (zR (zHd (K:=K) rfl) (pv 1) (pv 0) (λ_ _=>rfl)) (zA (zR (zHd (K:=K) rfl) (pv 2) (pv 0) (λ_ _=>rfl)) zB))))) zB))))) zL)
  (zD (zQ (yT (pI B.isinstance zX B.dict zAz (pv 0))) (zD (zQ (zK (zLj hu0) (zP (kW rfl) rfl B.sorted zEv (zA (pv 0) zB)) (zP (kW rfl) rfl B.sorted zEv (zA (pv 1) zB)) (zJ _)) (zG (zM vQ)) zL)
  (zG (zM (zP (wB rfl) rfl B.all qY (zA (zGl (vF (own:=["_law_name"]) (F:=[("_law_one_here",0),("_law_other",1)]) ⟨rfl,by walk_at "wu",by walk_at "wu",by walk_at "wu",(.cons rfl rfl rfl (.cons rfl rfl rfl .nil))⟩ rfl (zGk (pv 0)) (λ_ _ _ _=>yO (i:=0) (by show(qR ["_law_name"] [("_law_one_here",0),("_law_other",1)]).Nodup;decide+kernel) rfl (pR rfl)) (λ_ _ _ _=>wR) (λ_ _ _ _=>(pD G_law_alike hr (zA (xE hu (pv 1) (pv 0) (λ_ _=>rfl)) (zA (xE hu (pv 2) (pv 0) (λ_ _=>rfl)) zB)))))) zB))))) zL)
  (zG (zM (zW zS (pv 0) (pv 1) (zJ _))))))), ?_⟩
 walk_at "st";walk_at "rd6";refine⟨v,_,rfl,hv.ty,λH1 g1=>⟨u,_,rfl,(Rep.same g1 _ _ hw).ty,λH2 g2=>⟨rfl,false,by simp,gL ?_⟩⟩⟩;have g0:=g1.trans g2;have hv:=Rep.same g0 _ _ hv;have hw:=Rep.same g0 _ _ hw
 cases t with
 | lst us=>
  have hty:tyS H2 v=some "list":=hv.ty;refine⟨_,hty,iP (by decide+kernel) ?_⟩;obtain⟨a,xs,rfl,ha,hx⟩:=hv;obtain⟨b,ys,rfl,hb,hy⟩:=hw;have hd':T.deps us+1<n+1:=hd;have hz':T.szs us+1<=1000:=hz;have hxl:=hx.length;have hyl:=hy.length;have hul:=T.szs_len us;refine⟨a,rfl,xs,SqL.of ha,b,rfl,ys,SqL.of hb,false,by rw[hxl,hyl];simp,gL ⟨a,rfl,xs,SqL.of ha,by lia,by lia, ?_⟩⟩;rw[rK];refine zIl (λi zs H'=>Same H2 H'/\zs=(List.replicate i true).map V.bl) (by rw[mJ];lia) ⟨Same.refl _,rfl⟩ ?_ ?_
  ·rintro i zs H' hi _ ⟨g,rfl⟩
   obtain⟨t1,ht1,hr1⟩:=hx.get (i:=i) (v:=xs[i]) (by simp[hi]);obtain⟨t2,ht2,hr2⟩:=hy.get (i:=i) (v:=ys[i]) (by simp[hyl,<-hxl,hi]);rw[ht2] at ht1;cases ht1;have hm:=nW ht2;have d1:=T.deps_le hm;have d2:=T.szs_le hm;walk_at "rd6";refine zZ (SqL.of (g _ _ ha)) (v:=xs[i]) (by rw[dB];exact yF (by simp[hi])) (zZ (SqL.of (g _ _ hb)) (v:=ys[i]) (by rw[dB];exact yF (by simp[hyl,<-hxl,hi])) ⟨_,_,_,rfl,Rep.same g _ _ hr1,Rep.same g _ _ hr2,hf.mem hm,by lia,by lia,λH4 g4=>⟨g.trans g4, ?_⟩⟩);rw[List.replicate_succ'];simp
  ·rintro zs H' _ ⟨g,rfl⟩ p hp
   refine⟨p,rfl,List.replicate xs.length true,SqL.of zF, ?_⟩;rw[zBq];exact q _ (g0.trans (g.trans (zH hp _)))
 | dic ks us=>
  have hty:tyS H2 v=some "dict":=hv.ty;refine⟨_,hty,iN (by decide+kernel) ⟨_,hty,iP (by decide+kernel) ?_⟩⟩;have hRd:=hv;obtain⟨a,ps,rfl,ha,hk,hx⟩:=hv;obtain⟨b,rs,rfl,hb,hkb,hy⟩:=hw;obtain⟨nk,hle,h30,hf⟩:=hf;have hd':T.deps us+1<n+1:=hd;have hz':T.szs us+1<=1000:=hz;refine⟨a,rfl,ps, .inl ha,ks.map tx,by rw[hk,cX];rfl,by rw[nA];lia,λl1 s1 hl1 hp1 hs1=>?_⟩;have G1:=zH hl1 (.lst (s1.map V.str));refine⟨b,rfl,rs, .inl (G1 _ _ hb),ks.map tx,by rw[hkb,cX];rfl,by rw[nA];lia,λl2 s2 hl2 hp2 hs2=>?_⟩;have G2:=zH hl2 (.lst (s2.map V.str));have e1:=gR hp1 hs1;have e2:=gR hp2 hs2;refine zSe (SqL.of (G2 _ _ zF)) (SqL.of zF) (zEg _) (zEg _) ⟨false, ?_,gL ?_⟩
  ·rw[e1,e2,mL rfl,zEk];rfl
  have G:=G1.trans G2;generalize upd (upd H2 l1 (.lst (s1.map V.str))) l2 (.lst (s2.map V.str))=H3 at G⊢;have gH:=g0.trans G;have hRd:=Rep.same G _ _ hRd;have ha:=G _ _ ha;have hb:=G _ _ hb;have hx:=Reps.same G _ _ hx;have hy:=Reps.same G _ _ hy;have hpl:ps.length=ks.length:=by
   have:=congrArg List.length hk;rw[nA,nA] at this
   lia
  have nkp:(ps.map (·.1)).Nodup:=by rw[hk];exact zIk nk
  have hsz:T.szs us<T.sz (.dic ks us):=sO _;refine⟨a,rfl,ps, .inl ⟨ha,λo=>?_⟩⟩;have hxf:Reps (upd H3 a (.frz o (.dK ps))) (ps.map (·.2)) us:=gO hRd (sO _) hx;have hyf:Reps (upd H3 a (.frz o (.dK ps))) (rs.map (·.2)) us:=gO hRd hsz hy;have hbf:∀H',Same (upd H3 a (.frz o (.dK ps))) H'->Rd H' b (.dK rs):=λH' g=>by
   by_cases e:b=a
   ·subst e
    rw[ha] at hb;cases hb;exact .inr ⟨o,g _ _ zF⟩
   ·exact .inl (g _ _ (by rw[zN e];exact hb))
  refine zOe (λi zs H'=>Same (upd H3 a (.frz o (.dK ps))) H'/\zs=(List.replicate i true).map V.bl) ?_ ⟨Same.refl _,rfl⟩ (λi zs H' h=>h.1 _ _ zF) ?_ ?_
  ·rw[mJ];lia
  ·rintro i kv zs H' hkv _ ⟨g,rfl⟩
   have hkey:(ks.map nK)[i]? =some kv.1:=by rw[<-hk,pM,hkv];rfl
   obtain⟨k,hki,hkk⟩:∃k,ks[i]? =some k/\nK k=kv.1:=by
    rw[pM] at hkey
    cases hc:ks[i]? with
    | none=>rw[hc] at hkey;cases hkey
    | some k=>rw[hc] at hkey;exact⟨k,rfl,nU hkey⟩
   obtain⟨t1,ht1,hr1⟩:=hxf.get (i:=i) (v:=kv.2) (by rw[pM,hkv];rfl);have hmk:k∈ks:=nW hki;have e9:=jW nk hki ht1;rw[<-e9] at hr1;have hm:=zEt hmk hle;have d1:=T.deps_le hm;have d2:=T.szs_le hm;obtain⟨y,hy1,hy2⟩:=Rep.at_name nk hkb hyf hmk;walk_at "rd6";refine⟨kv.2, .inl ⟨ps,kv.1, .inr ⟨o,g _ _ zF⟩,rfl,(zFz nkp hkv).symm⟩,y, .inl ⟨rs,kv.1,hbf _ g,rfl, ?_⟩,kv.2,y,uS k ks us,rfl,Rep.same g _ _ hr1,Rep.same g _ _ hy2,hf.mem hm,by lia,by lia,λH4 g4=>⟨g.trans g4, ?_⟩⟩
   ·rw[<-hkk];exact hy1.symm
   ·rw[List.replicate_succ']
    simp
  ·rintro zs H' _ ⟨g,rfl⟩ p hp
   have gs:Same H3 (thaw H3 (upd H' p (.lst ((List.replicate ps.length true).map V.bl)))):=zOp (o:=o) ha (g.trans (zH hp _));refine⟨p,rfl,List.replicate ps.length true,SqL.of (uL zF (by intro o v z;cases z)), ?_⟩;rw[zBq];exact q _ (gH.trans gs)
 | non=>
  cases (show v=_ from hv);cases (show u=_ from hw);exact⟨_,rfl,iN (by decide+kernel) ⟨_,rfl,iN (by decide+kernel) ⟨rfl,q _ g0⟩⟩⟩
 | tup us=>exact hf.elim
 | bl b=>
  cases (show v=_ from hv);cases (show u=_ from hw);refine⟨_,rfl,iN (by decide+kernel) ⟨_,rfl,iN (by decide+kernel) ⟨rfl, ?_⟩⟩⟩;have z:=q _ g0;cases b<;>exact z
 | int b=>
  cases (show v=_ from hv);cases (show u=_ from hw);refine⟨_,rfl,iN (by decide+kernel) ⟨_,rfl,iN (by decide+kernel) ⟨rfl, ?_⟩⟩⟩;rw[nB rfl];exact q _ g0
 | str b=>
  cases (show v=_ from hv);cases (show u=_ from hw);refine⟨_,rfl,iN (by decide+kernel) ⟨_,rfl,iN (by decide+kernel) ⟨rfl, ?_⟩⟩⟩;rw[nB rfl];exact q _ g0
theorem zNh(F:Fun K "_law_alike" "_law_alike" zBs f fd):FnOk P w K mg base CX0 2 f fd ["_law_one_here","_law_other"] (uE 0):=by
 refine F.ok scAlike (by walk_at "ln") λc A o s H vs Q E hr h=>?_;obtain⟨v,u,t,rfl,hv,hw,hf,hd,_⟩:=h;exact absurd hd (dD _)
theorem zEc(F:Fun K "_law_alike" "_law_alike" zBs f fd)(B:Bl2 mg)(Gs:Dn P w K mg base 1 "_law_sort" ["_law_thing"] zKn)(b:Binds K fd ["_law_one_here","_law_other"] [])(kp:W.keepIn K (.ref f)=true)(m:mg "_law_alike" =some (.ref f)):
  ∀n:Nat,FnOk P w K mg base CX0 (2+n) f fd ["_law_one_here","_law_other"] (uE n)
 | 0=>zNh F
 | n+1=>zOw F B Gs ⟨_,_,zEc F B Gs b kp m n,b,kp,m⟩
end
end K26
namespace K26
open PySem L2 PySem.W
noncomputable def Fr.us:Fr->List T
 | .row us=>us
 | .rcd _ us _=>us
noncomputable def szF:List Fr->Nat
 | []=>0
 | f::r=>T.szs f.us+1+szF r
def okF:Fr->Prop
 | .row us=>OkRs us
 | .rcd ks us _=>ks.Nodup/\ks.length=us.length/\ks.length<=30/\OkRs us
def Gf:List Fr->Prop
 | []=>True
 | f::r=>okF f/\T.deps f.us+(r.length+1)<=8/\Gf r
structure MI(S:Mc):Prop where
 g:Gf S.stk
 z:szF S.stk<=S.many
 n:∀ks us nm,Fr.rcd ks us nm∈S.stk.tail->nm∉ks
 w:S.du= .done->OkR S.whole/\T.dep S.whole<=8/\T.sz S.whole<=S.many
theorem zVw{f:Fr}(h:okF f):OkR f.tree/\T.dep f.tree=T.deps f.us+1/\T.sz f.tree=T.szs f.us+1:=by
 cases f with
 | row us=>exact⟨h,rfl,rfl⟩
 | rcd ks us nm=>exact⟨h,rfl,rfl⟩
theorem zBu{stk:List Fr}{m:Nat}{t:T}(hg:Gf stk)(hz:szF stk+T.sz t<=m)(hn:∀ks us nm,Fr.rcd ks us nm∈stk->nm∉ks/\ks.length<30)(ht:OkR t)(hd:T.dep t+stk.length<=8):MI (xG stk m t):=by
 cases stk with
 | nil=>exact⟨nJ,pW _,(λ_ _ _ z=>nomatch z),λ_=>⟨ht,hd,by show T.sz t<=m;have:szF []=0:=rfl;lia⟩⟩
 | cons f r=>
  obtain⟨h1,h2,h3⟩:=hg;have e:szF (f::r)=T.szs f.us+1+szF r:=rfl;rw[mE] at hd;have hu:(f.add t).us=f.us++ [t]:=by cases f<;>rfl
  refine⟨⟨?_, ?_,h3⟩, ?_,(λks us nm z=>(hn ks us nm (mR _ z)).1),λz=>nomatch z⟩
  ·cases f with
   | row us=>exact OkRs.snoc ht h1
   | rcd ks us nm=>
    obtain⟨a,b,c,d⟩:=h1;obtain⟨n1,n2⟩:=hn ks us nm mH;refine⟨?_, ?_, ?_,OkRs.snoc ht d⟩
    ·rw[List.nodup_append]
     exact⟨a,by simp,λx hx y hy=>by rw[mS.mp hy];exact λz=>n1 (by rw[<-z];exact hx)⟩
    ·rw[mC,mC,b];rfl
    ·rw[mC];show _+1<=_;lia
  ·rw[hu,T.deps_append]
   have:T.deps [t]=max (T.dep t) 0:=rfl;rw[this]
   lia
  ·show T.szs (f.add t).us+1+szF r<=m
   rw[hu,zIi]
   lia
theorem zRb{S S':Mc}{k:Nat}{s:List Nat}(wf:Wf S)(mi:MI S)(hrc:∀ks us nm r,S.stk= .rcd ks us nm::r->nm∉ks/\ks.length<30)(h:K26.thg S.stk S.many k s= .go S'):MI S':=by
 unfold K26.thg at h;split at h
 ·cases h
 split at h
 ·cases h
 rename_i hc;have c3:¬(k=3/\S.stk.length=8):=by
  simp only[bU,sY,cA] at hc;exact hc.2.2.1
 have hall:∀ks us nm,Fr.rcd ks us nm∈S.stk->nm∉ks/\ks.length<30:=λks us nm hm=>by
  cases hst:S.stk with
  | nil=>rw[hst] at hm;exact nomatch hm
  | cons f r=>
   rw[hst] at hm;rcases mF.mp hm with e | hm
   ·rw[<-e] at hst;exact hrc ks us nm r hst
   ·exact⟨mi.n ks us nm (by rw[hst];exact hm),wf.inner (.rcd ks us nm) (by rw[hst];exact hm)⟩
 have hd:=wf.deep;have hz:=mi.z;split at h
 ·rename_i h3
  cases h;have hnew:okF (if s= [91] then Fr.row [] else Fr.rcd [] [] [])/\(if s= [91] then Fr.row [] else Fr.rcd [] [] []).us= []:=by
   split
   ·exact⟨nJ,rfl⟩
   ·exact⟨⟨List.nodup_nil,rfl,pW _,nJ⟩,rfl⟩
  refine⟨⟨hnew.1, ?_,mi.g⟩, ?_,(λks us nm z=>(hall ks us nm z).1),λz=>nomatch z⟩
  ·rw[hnew.2];show 0+_<=_;lia
  ·show T.szs (if s= [91] then Fr.row [] else Fr.rcd [] [] []).us+1+szF S.stk<=S.many+1
   rw[hnew.2];show 0+1+_<=_;lia
 ·cases h
  have hl:OkR (vM k s)/\T.dep (vM k s)=0/\T.sz (vM k s)=1:=by
   unfold vM;split
   ·exact⟨nJ,rfl,rfl⟩
   split
   ·split
    ·exact⟨nJ,rfl,rfl⟩
    ·exact⟨nJ,rfl,rfl⟩
   ·exact⟨nJ,rfl,rfl⟩
  exact zBu mi.g (by rw[hl.2.2];lia) hall hl.1 (by rw[hl.2.1];lia)
theorem zYm{S S':Mc}{k:Nat}{s:List Nat}{ks:List (List Nat)}{us:List T}{nm:List Nat}{r:List Fr}(mi:MI S)(hst:S.stk= .rcd ks us nm::r)(h:nmd ks us r S.many k s= .go S'):MI S':=by
 unfold nmd at h;split at h
 ·cases h
 split at h
 ·cases h
 cases h;have hg:=mi.g;have hz:=mi.z;have hn:=mi.n;rw[hst] at hg hz hn;exact⟨hg,hz,hn,λz=>nomatch z⟩
theorem zXn{S S':Mc}{k:Nat}{s:List Nat}(wf:Wf S)(mi:MI S)(h:nxt S k s= .go S'):MI S':=by
 have close:∀f r,S.stk=f::r->MI (xG r S.many f.tree):=λf r e=>by
  have hg:=mi.g;have hz:=mi.z;have hn:=mi.n;have hi:=wf.inner;rw[e] at hg hz hn hi;obtain⟨a,b,c⟩:=hg;obtain⟨t1,t2,t3⟩:=zVw a;have ez:szF (f::r)=T.szs f.us+1+szF r:=rfl;exact zBu c (by rw[t3];lia) (λks us nm z=>⟨hn ks us nm z,hi (.rcd ks us nm) z⟩) t1 (by rw[t2];lia)
 have hinn:inn S.stk S.many k s= .go S'->MI S':=λz=>by
  unfold inn at z;split at z
  ·rename_i e
   exact zYm mi e z
  ·rename_i hx
   exact zRb wf mi (λks us nm r e=>absurd e (hx ks us nm r)) z
 unfold nxt at h;split at h
 ·split at h<;>cases h
 ·split at h
  ·cases h
   exact⟨mi.g,mi.z,mi.n,λz=>nomatch z⟩
  ·cases h
 ·rename_i hd
  refine zRb wf mi (λks us nm r e=>?_) h;obtain⟨ks',us',nm',y1,y2,y3⟩:=wf.thg (.inl hd) _ _ e;cases y1;exact⟨y2,y3⟩
 ·exact hinn h
 ·split at h
  ·cases h
  ·rename_i f r e
   split at h
   ·cases h;exact close f r e
   split at h
   ·cases h
    exact⟨mi.g,mi.z,mi.n,λz=>nomatch z⟩
   ·cases h
 ·split at h
  ·cases h
  ·rename_i f r e
   split at h
   ·cases h;exact close f r e
   ·rw[<-e] at h
    exact hinn h
theorem zQe{S:Mc}{k:Nat}{s:List Nat}(e':nxt S k s= .good):S.du= .done:=by
 unfold nxt at e';split at e'
 ·assumption
 ·split at e'<;>cases e'
 ·exact absurd e' vN
 ·unfold inn at e'
  split at e'
  ·exact absurd e' jU
  ·exact absurd e' vN
 ·split at e'
  ·cases e'
  split at e'
  ·cases e'
  split at e'<;>cases e'
 ·split at e'
  ·cases e'
  split at e'
  ·cases e'
  unfold inn at e';split at e'
  ·exact absurd e' jU
  ·exact absurd e' vN
theorem zJe{t:T}:∀(l:List Lk)(S:Mc),Wf S->MI S->run S l= .good t->OkR t/\T.dep t<=8/\T.sz t<=200
 | [],_,_,_,h=>nomatch h
 | u::l,S,wf,mi,h=>by
  have e:run S (u::l)=(match nxt S u.k u.s with | .go S'=>run S' l | .bad=>.bad u.n | .great=>.great | .good=>.good S.whole):=rfl
  rw[e] at h
  cases hx:nxt S u.k u.s with
  | go S'=>rw[hx] at h;exact zJe l S' (zTw wf hx) (zXn wf mi hx) h
  | bad=>rw[hx] at h;cases h
  | great=>rw[hx] at h;cases h
  | good=>
   rw[hx] at h;cases h;obtain⟨a,b,c⟩:=mi.w (zQe hx);have:=wf.many;exact⟨a,b,by lia⟩
theorem mi0:MI S0:=⟨nJ,mK _,(λ_ _ _ z=>nomatch z),λz=>nomatch z⟩
end K26
namespace K26
open PySem L2 PySem.W
seal L2.PSs L2.PS L2.PE L2.PT L2.PW L2.PA L2.PI L2.PG L2.PGs L2.PPs L2.PTs
abbrev sAs:Stmt:=top 59
section
variable{P:Program}{w:World}{K:PySem.W.Frag}{mg:Str->Option Value}{base:Heap}{f:Addr}{fd:FuncData}
def zVs:Sp:=λvs H Q _=>∃p q:Addr,vs= [.ref p, .ref q]/\(∀H',Same H H'->Q (.bl true) H')/\
  ((∃n:Nat,H p=some (.tup [.str (Str.ofString "bad"), .int n])/\H q=some (.tup [.str (Str.ofString "bad"), .int n]))\/
   (∃n:Int,H p=some (.tup [.str (Str.ofString "great"), .non])/\H q=some (.tup [.str (Str.ofString "great"), .int n]))\/
   ∃v u t,H p=some (.tup [.str (Str.ofString "good"),v])/\H q=some (.tup [.str (Str.ofString "good"),u])/\Rep H v t/\Rep H u t/\OkR t/\T.dep t<=8/\T.sz t<=200)
theorem scAs:zV ["_law_told_here","_law_due_here"] ["_law_told_here","_law_due_here"] (zO sAs):=by walk_at "sc"
theorem ok_as(F:Fun K "_law_as_due" "_law_as_due" sAs f fd)(B:Bl mg)(G_law_alike:Dn P w K mg base (2+10) "_law_alike" ["_law_one_here","_law_other"] (uE 10)):FnOk P w K mg base CX0 13 f fd ["_law_told_here","_law_due_here"] zVs:=by
 refine F.ok scAs (by walk_at "ln") λc A o s H vs Q E hr h=>?_;obtain⟨p,q,rfl,Q1,h⟩:=h;have nd:=scAs.nd;refine⟨_,(zD (zQ (zK qD (zR yC (pv 0) zE (λ_ _=>rfl)) (zR yC (pv 1) zE (λ_ _=>rfl)) (zJ _)) (zG (zM vQ)) zL)
  (zD (zQ (zK zS (zR yC (pv 1) zE (λ_ _=>rfl)) zC (zJ _)) (zG (zM (pD G_law_alike hr (zA (zR yC (pv 0) zE (λ_ _=>rfl)) (zA (zR yC (pv 1) zE (λ_ _=>rfl)) zB))))) zL)
  (zG (zM (zAq (zW zS (zR yC (pv 1) zE (λ_ _=>rfl)) zC (zJ _)) (xI (xV (pI B.isinstance zX B.int xH (zR yC (pv 0) zE (λ_ _=>rfl))) (xV (zQw (pI B.isinstance zX B.bool zEz (zR yC (pv 0) zE (λ_ _=>rfl)))) (xI (zW zS (zR yC (pv 0) zE (λ_ _=>rfl)) (zR yC (pv 1) zE (λ_ _=>rfl)) (zJ _))))))))))), ?_⟩
 walk_at "st";walk_at "rd6";have q0:=Q1 H (Same.refl _);rcases h with⟨n,hp,hq⟩|⟨n,hp,hq⟩|⟨v,u,t,hp,hq,hv,hu',hok,hd,hz⟩
 ·refine yD (SqT.of hp) (v:=.str (Str.ofString "bad")) rfl (yD (SqT.of hq) (v:=.str (Str.ofString "bad")) rfl ⟨rfl,false,by decide+kernel,gL (yD (SqT.of hq) (v:=.str (Str.ofString "bad")) rfl ⟨rfl,iN (by decide+kernel) (yD (SqT.of hq) (v:=.str (Str.ofString "bad")) rfl ⟨rfl,iN (by decide+kernel) ?_⟩)⟩)⟩)
  refine yD (SqT.of hp) (v:=.int n) rfl ⟨"int",rfl,iP (by decide) (yD (SqT.of hp) (v:=.int n) rfl ⟨"int",rfl,true,by decide,iP rfl (yD (SqT.of hp) (v:=.int n) rfl (yD (SqT.of hq) (v:=.int n) rfl ⟨rfl, ?_⟩))⟩)⟩;rw[nB rfl];exact q0
 ·exact yD (SqT.of hp) (v:=.str (Str.ofString "great")) rfl (yD (SqT.of hq) (v:=.str (Str.ofString "great")) rfl ⟨rfl,false,by decide+kernel,gL (yD (SqT.of hq) (v:=.str (Str.ofString "great")) rfl ⟨rfl,iN (by decide+kernel) (yD (SqT.of hq) (v:=.str (Str.ofString "great")) rfl ⟨rfl,iP rfl q0⟩)⟩)⟩)
 ·exact yD (SqT.of hp) (v:=.str (Str.ofString "good")) rfl (yD (SqT.of hq) (v:=.str (Str.ofString "good")) rfl ⟨rfl,false,by decide+kernel,gL (yD (SqT.of hq) (v:=.str (Str.ofString "good")) rfl ⟨rfl,iP rfl (yD (SqT.of hp) (v:=v) rfl (yD (SqT.of hq) (v:=u) rfl ⟨v,u,t,rfl,hv,hu',hok,by lia,by lia,Q1⟩))⟩)⟩)
end
end K26
namespace K26
open PySem L2 PySem.W
seal L2.PSs L2.PS L2.PE L2.PT L2.PW L2.PA L2.PI L2.PG L2.PGs L2.PPs L2.PTs
abbrev zFn:Stmt:=top 47
abbrev zJn:Stmt:=top 48
def OkN(t:Tk):Prop:=(OkTk t/\(t.1=2->t.2.length<=70))\/(t.1=5/\∃last,uO t.2 last)
theorem zKu:∀j∈ [0,1,2,3,5],∀k∈ [0,1,2,3,5],kL j=kL k->j=k:=by decide+kernel
theorem OkN.k{t:Tk}(h:OkN t):t.1∈ [0,1,2,3,5]:=by
 rcases h with⟨⟨_,⟨a,_⟩|⟨a,_⟩|⟨a,_⟩|⟨a,_⟩⟩,_⟩|⟨a,_⟩<;>rw[a]<;>decide
theorem xN{t:Tk}(h:OkN t){j:Nat}(hj:j∈ [0,1,2,3,5]):(V.str (kL t.1)=V.str (kL j))↔t.1=j:=⟨λz=>zKu _ h.k _ hj (V.str.inj z),λz=>by rw[z]⟩
theorem OkN.len{t:Tk}(h:OkN t):t.2.length<=5000:=by
 rcases h with⟨h,_⟩|⟨_,l,h⟩
 ·exact h.1
 ·have:=h.1;lia
theorem OkN.slen{t:Tk}(h:OkN t):(shw t).length<=5000:=by
 have hl:=h.len;unfold shw;split
 ·rename_i h2
  have:t.2.length<=70:=by
   rcases h with⟨_,h⟩|⟨h,_⟩
   ·exact h h2
   ·rw[h] at h2;cases h2
  have:=zBc t.2;rw[mE,mC];simp only[mE,nL]
  lia
 ·lia
noncomputable def zAa(a b:Tk):Bool:=if a.1=5\/b.1=5 then decide (a.1=5)||(decide (a.1=2)&& decide (b.2.head? =some 39)) else stk a b
section
variable{P:Program}{w:World}{K:PySem.W.Frag}{mg:Str->Option Value}{base:Heap}{f:Addr}{fd:FuncData}
def TkP(H:Hp)(p:Addr)(t:Tk):Prop:=H p=some (.tup [.str (kL t.1), .str (tx t.2)])
def zHi:Sp:=λvs H Q _=>∃(p p':Addr)(t t':Tk),vs= [.ref p, .ref p']/\TkP H p t/\TkP H p' t'/\OkN t/\OkN t'/\Q (.bl (zAa t t')) H
theorem scSticks:zV ["_law_one_here","_law_other"] ["_law_one_here","_law_other"] (zO zFn):=by walk_at "sc"
theorem zNo(F:Fun K "_law_sticks" "_law_sticks" zFn f fd):FnOk P w K mg base CX0 1 f fd ["_law_one_here","_law_other"] zHi:=by
 refine F.ok scSticks (by walk_at "ln") λc A o s H vs Q E hr h=>?_;obtain⟨p,p',t,t',rfl,hp,hp',ht,ht',q⟩:=h;have nd:=scSticks.nd;refine⟨_,(zD (zQ (PW.pt (jV (zK zS (zR yC (pv 0) zE (λ_ _=>rfl)) zC (zJ _)) (vZ (zK zS (zR yC (pv 1) zE (λ_ _=>rfl)) zC (zJ _))))) (zG (zM (zAq (zW zS (zR yC (pv 0) zE (λ_ _=>rfl)) zC (zJ _)) (xI (xV (zW zS (zR yC (pv 0) zE (λ_ _=>rfl)) zC (zJ _)) (xI (zW zS (zR vO (zR yC (pv 1) zE (λ_ _=>rfl)) zE (λ_ _=>rfl)) zC (zJ _)))))))) zL)
  (zD (zQ (PW.pt (qJ (zK zS (yV wO (zR yC (pv 1) zE (λ_ _=>rfl)) wP (yQ zE)) zC (zJ _)) (vJ (zK zS (zR yC (pv 1) zE (λ_ _=>rfl)) zC (zJ _))))) (zG (zM vQ)) zL)
  (zD (zQ (zK zS (zR yC (pv 0) zE (λ_ _=>rfl)) zC (zJ _)) (zG (zM (zAq (zW zS (zR yC (pv 1) zE (λ_ _=>rfl)) zC (zJ _)) (xI (zW zS (zR yC (pv 1) zE (λ_ _=>rfl)) zC (zJ _)))))) zL)
  (zG (zM (xV (zW zS (zR yC (pv 0) zE (λ_ _=>rfl)) (zR yC (pv 1) zE (λ_ _=>rfl)) (zJ _)) (xI (zW qD (zR yC (pv 0) zE (λ_ _=>rfl)) zC (zJ _))))))))), ?_⟩
 walk_at "st";walk_at "rd6";have r0:∀{Q:VK},Q (V.str (kL t.1)) H->zNb K (.ref p) (.int 0) H Q:=λq=>yD (SqT.of hp) (yF (j:=0) rfl) q;have r0':∀{Q:VK},Q (V.str (kL t'.1)) H->zNb K (.ref p') (.int 0) H Q:=λq=>yD (SqT.of hp') (yF (j:=0) rfl) q;have hl':=ht'.len;have k_is:∀{t:Tk},OkN t->∀j∈ [0,1,2,3,5],(V.str (kL t.1)=V.str (kL j))↔t.1=j:=λh j hj=>xN h hj;rw[show Str.ofString "none" =kL 5 from rfl];unfold zAa at q
 by_cases a5:t.1=5
 ·rw[mL (.inl a5),nB a5,aR] at q
  exact r0 ⟨rfl,iP ((xN ht (by decide)).mpr a5) (r0 ⟨rfl,iP ((xN ht (by decide)).mpr a5) q⟩)⟩
 refine r0 ⟨rfl,iN (λz=>a5 ((xN ht (by decide)).mp z)) (r0' ⟨rfl, ?_⟩)⟩
 by_cases b5:t'.1=5
 ·rw[mL (.inr b5),mM a5,tP] at q
  refine iP ((xN ht' (by decide)).mpr b5) (r0 ⟨rfl,iN (λz=>a5 ((xN ht (by decide)).mp z)) (r0 ⟨rfl, ?_⟩)⟩);rw[show Str.ofString "text" =kL 2 from rfl]
  by_cases a2:t.1=2
  ·rw[nB a2,Bool.true_and] at q
   obtain⟨c,b',e,_⟩:∃c b',t'.2=c::b'/\c∉vB++xD:=by
    rcases ht' with⟨h,_⟩|⟨_,l,h⟩
    ·have:=OkTk.k h
     rw[b5] at this;exact absurd this (by decide)
    ·exact h.2.1
   refine iP ((xN ht (by decide)).mpr a2) (yD (SqT.of hp') (v:=.str (tx t'.2)) rfl (xU (by rw[zU,mJ];lia) (yF (j:=0) (show(ts (tx t'.2))[0]? =some c by rw[yK,e];rfl)) ⟨rfl, ?_⟩));rw[e] at q;have:decide (V.str (tx [c])=V.str (Str.ofString "'"))=decide ((c::b').head? =some 39):=pJ.mpr ⟨λy=>by
    have:=congrArg ts (V.str.inj y);have: [c]= [39]:=this
    simpa using this,λy=>by
    have:c=39:=by simpa using y
    rw[this];rfl⟩
   rw[this];exact q
  ·rw[mM a2,aA] at q
   exact iN (λz=>a2 ((xN ht (by decide)).mp z)) q
 refine iN (λz=>b5 ((xN ht' (by decide)).mp z)) ?_;rw[mG (λz=>z.elim a5 b5)] at q;refine yD (SqT.of hp') (yF (j:=1) rfl) ⟨_,rfl,by rw[zU,mJ];lia, ?_⟩;rw[show(some (1:Int))=some ((1:Nat):Int) from rfl,zBn,yK,zEo,show Str.ofString "number" =kL 0 from rfl,show Str.ofString "word" =kL 1 from rfl,show Str.ofString "mark" =kL 3 from rfl];refine⟨rfl, ?_⟩;have e45:(V.str (tx (t'.2.take 1))=V.str (tx [45]))↔t'.2.take 1= [45]:=⟨λz=>by have:=congrArg ts (V.str.inj z);rwa [yK,yK] at this,λz=>by rw[z]⟩;unfold stk at q
 by_cases c1:t'.2.take 1= [45]
 ·refine iP (e45.mpr c1) (r0' ⟨rfl, ?_⟩)
  by_cases c2:t'.1=0
  ·rw[mL ⟨c1,c2⟩] at q
   exact iP ((xN ht' (by decide)).mpr c2) q
  ·rw[mG λz=>c2 z.2] at q
   refine iN (λz=>c2 ((xN ht' (by decide)).mp z)) ?_;refine r0 ⟨rfl, ?_⟩
   by_cases a:t.1=1
   ·refine iP ((xN ht (by decide)).mpr a) (r0' ⟨rfl, ?_⟩)
    rw[mL a] at q
    by_cases b:t'.1=1
    ·rw[nB b,aR] at q
     exact iP ((xN ht' (by decide)).mpr b) q
    ·rw[mM b,tP] at q
     refine iN (λz=>b ((xN ht' (by decide)).mp z)) (r0' ⟨rfl, ?_⟩);rw[show decide (V.str (kL t'.1)=V.str (kL 0))=decide (t'.1=0) from pJ.mpr (xN ht' (by decide))];exact q
   ·refine iN (λz=>a ((xN ht (by decide)).mp z)) (r0 (r0' ⟨rfl, ?_⟩))
    rw[mG a] at q
    by_cases b:t.1=t'.1
    ·rw[nB b,Bool.true_and] at q
     refine iP (by rw[b]) (r0 ⟨rfl, ?_⟩);rw[show decide (V.str (kL t.1)=V.str (kL 3))=decide (t.1=3) from pJ.mpr (xN ht (by decide))];exact q
    ·rw[mM b,aA] at q
     exact iN (λz=>b (zKu _ ht.k _ ht'.k (V.str.inj z))) q
 ·rw[mG λz=>c1 z.1] at q
  refine iN (λz=>c1 (e45.mp z)) ?_;refine r0 ⟨rfl, ?_⟩
  by_cases a:t.1=1
  ·refine iP ((xN ht (by decide)).mpr a) (r0' ⟨rfl, ?_⟩)
   rw[mL a] at q
   by_cases b:t'.1=1
   ·rw[nB b,aR] at q
    exact iP ((xN ht' (by decide)).mpr b) q
   ·rw[mM b,tP] at q
    refine iN (λz=>b ((xN ht' (by decide)).mp z)) (r0' ⟨rfl, ?_⟩);rw[show decide (V.str (kL t'.1)=V.str (kL 0))=decide (t'.1=0) from pJ.mpr (xN ht' (by decide))];exact q
  ·refine iN (λz=>a ((xN ht (by decide)).mp z)) (r0 (r0' ⟨rfl, ?_⟩))
   rw[mG a] at q
   by_cases b:t.1=t'.1
   ·rw[nB b,Bool.true_and] at q
    refine iP (by rw[b]) (r0 ⟨rfl, ?_⟩);rw[show decide (V.str (kL t.1)=V.str (kL 3))=decide (t.1=3) from pJ.mpr (xN ht (by decide))];exact q
   ·rw[mM b,aA] at q
    exact iN (λz=>b (zKu _ ht.k _ ht'.k (V.str.inj z))) q
def zLx:Sp:=λvs H Q _=>∃(p:Addr)(t:Tk),vs= [.ref p]/\TkP H p t/\OkN t/\∀H',Same H H'->Q (.str (tx (shw t))) H'
theorem scShown:zV ["_law_token"] ["_law_token"] (zO zJn):=by walk_at "sc"
theorem zPl(F:Fun K "_law_shown" "_law_shown" zJn f fd)(B:Bl mg):FnOk P w K mg base CX0 1 f fd ["_law_token"] zLx:=by
 refine F.ok scShown (by walk_at "ln") λc A o s H vs Q E hr h=>?_;obtain⟨p,t,rfl,hp,ht,q⟩:=h;have nd:=scShown.nd;refine⟨_,(zD (zQ (zK zS (zR yC (pv 0) zE (λ_ _=>rfl)) zC (zJ _)) (zG (zM (zI yY (zI yY zC (wG pT PySem.F.slot_str_join PySem.F.type_str_join zQx zC (zA (wG pT PySem.F.slot_str_split PySem.F.type_str_split zPf (zR yC (pv 0) zE (λ_ _=>rfl)) (zA zC zB)) zB))) zC))) zL)
  (zG (zM (zR yC (pv 0) zE (λ_ _=>rfl))))), ?_⟩
 walk_at "st";walk_at "rd6";have hl:=ht.len;have hk:=xN ht (j:=2) (by decide);rw[show Str.ofString "text" =kL 2 from rfl];refine yD (SqT.of hp) (yF (j:=0) rfl) ⟨rfl, ?_⟩
 by_cases c:t.1=2
 ·refine iP (hk.mpr c) ⟨rfl,yD (SqT.of hp) (yF (j:=1) rfl) ⟨rfl, ?_⟩⟩
  have hx:(tx t.2).length=t.2.length:=zU _;have h1:=zJc (tx t.2) (Str.ofString "'") (Str.ofString "''");have h2:(Str.ofString "''").length=2:=by decide+kernel
  have h3:(Str.ofString "'").length=1:=by decide+kernel
  rw[hx,h2] at h1;have hsl:=PyProof.Rows.split_le (tx t.2) (Str.ofString "'");rw[hx] at hsl;refine⟨tx t.2,Str.ofString "'",rfl,rfl,by lia,by lia,λl hl'=>?_⟩;refine⟨Str.ofString "''",l,Txt.split (tx t.2) (Str.ofString "'"),rfl,rfl,SqL.of zF, ?_, ?_⟩
  ·have:=zOr (tx t.2) (Str.ofString "'")
   rw[hx] at this;rw[h2];lia
  ·rw[zDh]
   refine⟨_,rfl,by lia,by rw[zVz];lia, ?_⟩;have e:Txt.replace (tx t.2) (Str.ofString "'") (Str.ofString "''")=tx (dbl t.2):=by
    apply kD;rw[zBr,zWw,show(tx [39]:Str)=⟨#[39]⟩ from rfl,zKk,yK,yK,yK];rfl
   rw[e,zBr,wZ,wZ];have e2: [39]++dbl t.2++ [39]=shw t:=by unfold shw;rw[mL c];rfl
   rw[e2];exact q _ (zH hl' _)
 ·have e:shw t=t.2:=by unfold shw;rw[mG c]
  rw[e] at q;exact iN (λz=>c (hk.mp z)) (yD (SqT.of hp) (yF (j:=1) rfl) (q _ (Same.refl _)))
end
end K26
namespace K26
open PySem L2 PySem.W
seal L2.PSs L2.PS L2.PE L2.PT L2.PW L2.PA L2.PI L2.PG L2.PGs L2.PPs L2.PTs
abbrev zRh:Stmt:=top 49
noncomputable def wid:List Tk->Nat
 | []=>0
 | t::l=>(shw t).length+wid l
theorem wQ:∀a b:List Tk,wid (a++b)=wid a+wid b
 | [],b=>(rY _).symm
 | t::a,b=>by
  show(shw t).length+wid (a++b)=(shw t).length+wid a+wid b;rw[wQ a b];lia
theorem zGw(l:List Tk)(i:Nat):wid (l.take i)<=wid l:=by
 conv=>rhs;rw[<-bN i l]
 rw[wQ];lia
theorem zTx{l:List Tk}{i:Nat}{t:Tk}(h:l[i]? =some t):wid (l.take (i+1))=wid (l.take i)+(shw t).length:=by
 rw[vH h,wQ];rfl
def ChnN(r:List (Nat×Tk)):Prop:=∀i x y,r[i]? =some x->r[i+1]? =some y->zAa x.2 y.2=true->0<y.1
theorem ChnN.snoc{r:List (Nat×Tk)}{y:Nat×Tk}(h:ChnN r)(hy:∀x,r.getLast? =some x->zAa x.2 y.2=true->0<y.1):ChnN (r++ [y]):=by
 intro i a b ha hb hs
 by_cases c:i+1<r.length
 ·rw[nQ (by lia)] at ha
  rw[nQ c] at hb;exact h i a b ha hb hs
 ·have hl:=(nF.mp hb).1
  rw[mC] at hl;simp only[mE,nL] at hl;have e:i+1=r.length:=by lia
  rw[nO (by lia),e,aE] at hb;cases hb;rw[nQ (by lia)] at ha;refine hy a ?_ hs;rw[aO,<-e];exact ha
def PvL(H:Hp)(p:Addr)(c:Int)(p2:Addr)(tks:List Tk):Nat->St->Hp->Prop:=λi σ H'=>∃(r:List (Nat×Tk))(b:Nat)(o4 o5 o6:Option V)(ys:List V),σ= [some (.ref p),some (.int c),some (.str (tx (lay r++List.replicate b 32))),some (.ref p2),o4,o5,o6]/\Same H H'/\H' p2=some (.lst ys)/\Tks H' ys (wX 0 r)/\ys.length=i/\r.map (·.2)=tks.take i/\ChnN r/\b<=3/\(0<i->b=0)/\(lay r).length<=wid (tks.take i)+3*i/\(∀y∈r,OkN y.2)
def MidI(H:Hp)(p:Addr)(c:Int)(p2:Addr)(r:List (Nat×Tk))(t:Tk)(i:Nat):St->Hp->Prop:=λσ H'=>∃(b:Nat)(o5 o6:Option V),σ= [some (.ref p),some (.int c),some (.str (tx (lay r++List.replicate b 32))),some (.ref p2),some (.int i),o5,o6]/\Same H H'/\b<=3/\ChnN (r++ [(b,t)])
theorem zCp:∀(n:Nat)(a b:List (Nat×Tk)),wX n (a++b)=wX n a++wX (n+(lay a).length) b
 | n,[],b=>rfl
 | n,x::a,b=>by
  show _::wX _ (a++b)=_::(wX _ a++_);rw[zCp,uP,show n+x.1+(shw x.2).length+(lay a).length=n+(x.1+(shw x.2).length+(lay a).length) by lia]
theorem zSv(n b:Nat)(t:Tk):wX n [(b,t)]= [⟨t.1,t.2,n+b⟩]:=rfl
theorem Tks.same{H H':Hp}{xs:List V}{l:List Lk}(g:Same H H')(h:Tks H xs l):Tks H' xs l:=⟨h.1,λi t e=>by obtain⟨a,h1,h2⟩:=h.2 i t e;exact⟨a,h1,g _ _ h2⟩⟩
theorem Tks.snoc{H:Hp}{xs:List V}{l:List Lk}{q:Addr}{t:Lk}(h:Tks H xs l)(hq:TkN H q t):Tks H (xs++ [.ref q]) (l++ [t]):=by
 refine⟨by rw[mC,mC,h.1];rfl,λi u e=>?_⟩
 by_cases hi:i<l.length
 ·rw[nQ hi] at e
  obtain⟨a,h1,h2⟩:=h.2 i u e;exact⟨a,by rw[nQ (by rw[h.1];exact hi)];exact h1,h2⟩
 ·have:i=l.length:=by
   have:=(nF.mp e).1;rw[mC] at this;simp only[mE,nL] at this
   lia
  subst this;rw[nO (mK _),aE] at e;cases e;exact⟨q,by rw[nO (by rw[h.1];exact mK _),h.1,aE];rfl,hq⟩
theorem Tks.put{H:Hp}{xs zs:List V}{l:List Lk}{p:Addr}{u:HO}(h:Tks H xs l)(hp:H p=some (.lst zs)):Tks (upd H p u) xs l:=⟨h.1,λi t e=>by
 obtain⟨a,h1,h2⟩:=h.2 i t e;refine⟨a,h1, ?_⟩;show upd H p u a=_;rw[zN (λz=>by rw[z] at h2;exact absurd (hp.symm.trans h2) (by simp))];exact h2⟩
theorem zSt{H H2:Hp}{p q:Addr}{xs:List V}{l:List Lk}(t:Lk)(g:Same H H2)(hp0:H p=none)(hp:H2 p=some (.lst xs))(h:Tks H2 xs l)(hq:H2 q=none):Same H (upd (upd H2 q (.tup [.str (kL t.k), .str (tx t.s), .int t.n])) p (.lst (xs++ [.ref q])))/\Tks (upd (upd H2 q (.tup [.str (kL t.k), .str (tx t.s), .int t.n])) p (.lst (xs++ [.ref q]))) (xs++ [.ref q]) (l++ [t]):=by
 have s1:=zH hq (.tup [.str (kL t.k), .str (tx t.s), .int t.n]);have hne:q≠p:=λz=>by rw[z,hp] at hq;cases hq
 refine⟨λb u e=>?_, ?_⟩
 ·have hb:b≠p:=λz=>by rw[z,hp0] at e;cases e
  rw[zN hb];exact s1 _ _ (g _ _ e)
 ·refine Tks.snoc ((h.same s1).put (s1 _ _ hp)) ?_
  show upd _ p _ q=_;rw[zN hne];exact zF
def TksP(H:Hp)(xs:List V)(l:List Tk):Prop:=xs.length=l.length/\∀(i:Nat) t,l[i]? =some t->∃a,xs[i]? =some (.ref a)/\TkP H a t
theorem zHm(r:List (Nat×Tk))(b:Nat)(t:Tk):lay (r++ [(b,t)])=lay r++List.replicate b 32++shw t:=by
 rw[jB,mY];show lay r++(List.replicate b 32++(shw t++ []))=_;rw[mN]
section
variable{P:Program}{w:World}{K:PySem.W.Frag}{mg:Str->Option Value}{base:Heap}{f:Addr}{fd:FuncData}
def zTv:Sp:=λvs H Q _=>∃(p:Addr)(xs:List V)(tks:List Tk)(c:Int),vs= [.ref p, .int c]/\H p=some (.lst xs)/\TksP H xs tks/\(∀t∈tks,OkN t)/\tks.length<=1000/\wid tks<=16000/\0<=c/\c<1000003/\
 ∀(o l:Addr)(r:List (Nat×Tk))(e:Nat)(H':Hp),Same H H'->H' o=some (.tup [.str (tx (lay r++List.replicate e 32)), .ref l])->(∃zs,H' l=some (.lst zs)/\Tks H' zs (wX 0 r++ [⟨4,[],(lay r++List.replicate e 32).length⟩]))->(∀y∈r,OkN y.2)->ChnN r->r.map (·.2)=tks->(lay r++List.replicate e 32).length<=19996->Q (.ref o) H'
theorem scLaid:zV ["_law_row","_law_cell_here","_law_text","_law_found","_law_k","_law_more","_law_least"] ["_law_row","_law_cell_here"] (zO zRh):=by walk_at "sc"
theorem zVi(F:Fun K "_law_laid" "_law_laid" zRh f fd)(B:Bl2 mg)(G_law_sticks:Dn P w K mg base 1 "_law_sticks" ["_law_one_here","_law_other"] zHi)(G_law_shown:Dn P w K mg base 1 "_law_shown" ["_law_token"] zLx):FnOk P w K mg base CX0 2 f fd ["_law_row","_law_cell_here"] zTv:=by
 refine F.ok scLaid (by walk_at "ln") λc A o s H vs Q E hr h=>?_;obtain⟨p,xs,tks,c,rfl,hp,hT,hok,h24,hwid,hc0,hc1,q⟩:=h;have nd:=scLaid.nd;refine⟨_,(zD (pS 2 nd (zI kX zC (zR zY (zT (zA zE (zA zE (zA (zI yB (pv 1) zE) zB)))) (zI yB (zI yG (pv 1) zE) zE) (λ_ _=>rfl))))
  (zD (pS 3 nd (zT zB))
  (zD (gJ PassesOwn.never rfl (xX rfl B.range (zA (zP yI rfl B.len yH (zA (pv 0) zB)) zB)) (yO (i:=4) nd rfl (pR rfl)) (zD (pS 5 nd (zI yB (zI yL (zI yL (pv 1) (zI wY (pv 4) zE)) (zI wY (zI wY (pv 4) (pv 4)) zE)) zE))
  (zD (vA (zQ (zK wW (pv 4) zE (zJ _)) (zD (pS 6 nd (yM yX rfl B.int xH (zA (pD G_law_sticks hr (zA (zR zY (pv 0) (zI qB (pv 4) zE) (λ_ _=>rfl)) (zA (zR zY (pv 0) (pv 4) (λ_ _=>rfl)) zB))) zB)))
  (zG (pS 2 nd (zI yY (pv 2) (zI kX zC (zP (zNx rfl) rfl B.max zZc (zA (pv 6) (zA (zR zY (zT (zA zE (zA zE (zA (zI yB (zI yG (pv 5) zE) zE) zB)))) (zI yB (pv 5) zE) (λ_ _=>rfl)) zB)))))))) zL))
  (zD (xF (wG nX pH pP xP (pv 3) (zA (yA (zA (zR yC (zR zY (pv 0) (pv 4) (λ_ _=>rfl)) zE (λ_ _=>rfl)) (zA (zR yC (zR zY (pv 0) (pv 4) (λ_ _=>rfl)) zE (λ_ _=>rfl)) (zA (zP yE rfl B.len yH (zA (pv 2) zB)) zB)))) zB)))
  (zG (pS 2 nd (zI yY (pv 2) (pD G_law_shown hr (zA (zR zY (pv 0) (pv 4) (λ_ _=>rfl)) zB)))))))))
  (zD (pS 2 nd (zI yY (pv 2) (zI kX zC (zR zY (zT (zA zE (zA (zI yB (zI yG (pv 1) zE) zE) zB))) (zI yB (zI yG (pv 1) zE) zE) (λ_ _=>rfl)))))
  (zG (zM (yA (zA (pv 2) (zA (zI yW (pv 3) (zT (zA (yA (zA zC (zA zC (zA (zP yE rfl B.len yH (zA (pv 2) zB)) zB)))) zB))) zB))))))))), ?_⟩
 walk_at "st";walk_at "rd6";intro p1 hp1;have e1:=zF (H:=H) (a:=p1) (o:=.lst [V.int 0,V.int 0,V.int (c % 4)]);have s1:=zH hp1 (.lst [V.int 0,V.int 0,V.int (c % 4)]);generalize upd H p1 _=H1 at s1 e1⊢;obtain⟨v,hv,hm⟩:=wD (xs:=[V.int 0,V.int 0,V.int (c % 4)]) (i:=c / 4 % 3) (by lia) (by simp only[mE,nL];lia);obtain⟨n,rfl,n0,n3⟩:∃n:Int,v= .int n/\0<=n/\n<=3:=by
  simp only[mF,nM,pZ] at hm;rcases hm with rfl | rfl | rfl
  ·exact⟨_,rfl,by lia,by lia⟩
  ·exact⟨_,rfl,by lia,by lia⟩
  ·exact⟨_,rfl,by lia,by lia⟩
 refine zZ (SqL.of e1) hv ⟨n,rfl,by decide,by lia,by lia,λp2 hp2=>?_⟩;have s2:=s1.trans (zH hp2 (.lst []));have hp2H:H p2=none:=uZ s1 hp2;have hxl:=hT.1;have ts_sp:ts (Str.ofString " ")= [32]:=by decide+kernel
 rw[ts_sp,qH];refine⟨xs,SqL.of (s2 _ _ hp),by lia,by lia,qU (PvL H p c p2 tks) ⟨[],n.toNat,none,none,none,[],rfl,s2,zF,⟨rfl,(λi t e=>nomatch e)⟩,rfl,rfl,(λi x y h=>nomatch h),by lia,λh=>absurd h (rF _),pW _,(λy h=>nomatch h)⟩ ?_ ?_⟩
 ·rintro i σ H' hi ⟨r,b,o4,o5,o6,ys,rfl,g,hp2',hR,hyl,hrm,hch,hb3,hb0,hlen,hrok⟩
  obtain⟨t,ht⟩:∃t,tks[i]? =some t:=⟨_,pY (by lia)⟩;obtain⟨a,ha1,ha2⟩:=hT.2 i t ht;have htok:=hok t (nW ht);have hrl:r.length=i:=by
   have:=congrArg List.length hrm;rw[nA,nY] at this
   lia
  have hwt:=zGw tks i;have hws:=zTx ht;walk_at "rd6";refine⟨.inl (by lia),MidI H' p c p2 r t i, ?_, ?_⟩
  ·walk_at "rd6"
   simp only[dB];have hpH:=g _ _ hp
   by_cases c0:(0:Int)<(i:Int)
   ·have hi0:0<i:=by lia
    have hb:=hb0 hi0;subst hb;obtain⟨u,hu⟩:∃u,tks[i - 1]? =some u:=⟨_,pY (by lia)⟩;obtain⟨a',hb1,hb2⟩:=hT.2 (i - 1) u hu;have huok:=hok u (nW hu);have elast:∀x,r.getLast? =some x->x.2=u:=λx hx=>by
     rw[aO,hrl] at hx;have h1:(r.map (·.2))[i - 1]? =some x.2:=by rw[pM,hx];rfl
     rw[hrm,tH (by lia),hu] at h1;exact(nU h1).symm
    refine iP c0 (zZ (SqL.of hpH) (show atI xs ((i:Int)- 1)=some (V.ref a') by rw[show(i:Int)- 1=((i - 1:Nat):Int) by lia];exact yF hb1) (zZ (SqL.of hpH) (yF ha1) ⟨a',a,u,t,rfl,g _ _ hb2,g _ _ ha2,huok,htok,zAa u t,rfl,λq1 hq1=>?_⟩));have hm0:=tT (c+(i:Int)*7919+(i:Int)*(i:Int)*31) (show(1000003:Int)≠0 by decide);generalize (c+(i:Int)*7919+(i:Int)*(i:Int)*31)% 1000003=m at hm0⊢;obtain⟨v,hv,hm⟩:=wD (xs:=[V.int 0,V.int 1,V.int (m / 3 % 4)]) (i:=m % 3) (by lia) (by simp only[mE,nL];lia);obtain⟨j,rfl,j0,j3⟩:∃n:Int,v= .int n/\0<=n/\n<=3:=by
     simp only[mF,nM,pZ] at hm;rcases hm with rfl | rfl | rfl
     ·exact⟨_,rfl,by lia,by lia⟩
     ·exact⟨_,rfl,by lia,by lia⟩
     ·exact⟨_,rfl,by lia,by lia⟩
    have sq:=zH hq1 (.lst [V.int 0,V.int 1,V.int (m / 3 % 4)]);obtain⟨k,hk0,hk3,hks⟩:∃k:Nat,(if j>(if zAa u t=true then(1:Int) else 0) then j else(if zAa u t=true then 1 else 0))=(k:Int)/\k<=3/\(zAa u t=true->0<k):=by
     refine⟨(if j>(if zAa u t=true then(1:Int) else 0) then j else(if zAa u t=true then 1 else 0)).toNat, ?_⟩
     cases zAa u t with
     | false=>
      simp only[sS,sW];split
      ·exact⟨by lia,by lia,λh=>nomatch h⟩
      ·exact⟨rfl,by decide,λh=>nomatch h⟩
     | true=>
      simp only[tO];split
      ·exact⟨by lia,by lia,λ_=>by lia⟩
      ·exact⟨rfl,by decide,λ_=>by decide⟩
    refine zZ (SqL.of zF) hv ⟨_,j,⟨rfl,rfl⟩, ?_⟩;rw[hk0,ts_sp,qH,rK,wZ,zU,zU];simp only[aK,mN];refine⟨by decide,by lia,by lia, ?_,k,_,_,rfl,sq,hk3,hch.snoc λx hx hs=>?_⟩
    ·rw[zU,mU];lia
    ·rw[elast x hx] at hs
     exact hks hs
   ·have hi0:i=0:=by lia
    subst hi0;have er:r= []:=pB hrl;subst er;refine iN c0 ⟨b,_,_,rfl,Same.refl _,hb3,hch.snoc λx hx=>?_⟩;cases hx
  ·rintro σ' H'' ⟨b',o5',o6',rfl,g',hb',hch'⟩
   walk_at "rd6";have G:=g.trans g';have hlr:(lay r++List.replicate b' 32).length=(lay r).length+b':=by rw[mC,mU]
   refine⟨.inl ⟨rfl,_,SqL.of (g' _ _ hp2')⟩,zZ (SqL.of (G _ _ hp)) (yF ha1) (yD (SqT.of (G _ _ ha2)) (yF (j:=0) rfl) (zZ (SqL.of (G _ _ hp)) (yF ha1) (yD (SqT.of (G _ _ ha2)) (yF (j:=1) rfl) ⟨by rw[zU,hlr];lia,λq1 hq1=>?_⟩)))⟩;rw[zU];obtain⟨g3,g4⟩:=zSt ⟨t.1,t.2,(lay r++List.replicate b' 32).length⟩ G hp2H (g' _ _ hp2') (hR.same g') hq1;refine⟨p2,ys,_,rfl,rfl,zH hq1 _ _ _ (g' _ _ hp2'),by rw[mJ];lia, ?_⟩;generalize hHH:upd (upd H'' q1 _) p2 _=HH at g3 g4⊢;have e2:HH p2=some (.lst (ys++ [.ref q1])):=by rw[<-hHH];exact zF
   refine zZ (SqL.of (g3 _ _ hp)) (yF ha1) ⟨a,t,rfl,g3 _ _ ha2,htok,λH3 g5=>⟨_,rfl, ?_, ?_⟩⟩
   ·have:=htok.slen
    rw[zU,hlr];lia
   ·rw[wZ,<-zHm]
    refine⟨r++ [(b',t)],0,_,_,_,_,by rw[aK,mN],g3.trans g5,g5 _ _ e2, ?_,by rw[mC,hyl];rfl, ?_,hch',pW _,λ_=>rfl, ?_,λy hy=>?_⟩
    ·rw[zCp,zSv,rY,<-hlr]
     exact g4.same g5
    ·rw[pL,hrm,vH ht];rfl
    ·have:=htok.slen
     rw[zHm,mC,hlr,hws];lia
    ·rcases pG.mp hy with z | z
     ·exact hrok y z
     ·rw[mS.mp z];exact htok
 ·rintro σ H' ⟨r,b,o4,o5,o6,ys,rfl,g,hp2',hR,hyl,hrm,hch,hb3,hb0,hlen,hrok⟩
  rw[rK] at hrm hlen hyl hb0;walk_at "rd6";intro q1 hq1;have e1:=zF (H:=H') (a:=q1) (o:=.lst [V.int 0,V.int (c / 12 % 4)]);have s1:=zH hq1 (.lst [V.int 0,V.int (c / 12 % 4)]);generalize upd H' q1 _=H1 at s1 e1⊢;obtain⟨v,hv,hm⟩:=wD (xs:=[V.int 0,V.int (c / 12 % 4)]) (i:=c / 48 % 2) (by lia) (by simp only[mE,nL];lia);obtain⟨j,rfl,j0,j3⟩:∃n:Int,v= .int n/\0<=n/\n<=3:=by
   simp only[mF,nM,pZ] at hm;rcases hm with rfl | rfl
   ·exact⟨_,rfl,by lia,by lia⟩
   ·exact⟨_,rfl,by lia,by lia⟩
  have hrl:r.length=xs.length:=by
   have:=congrArg List.length hrm;rw[nA,nY] at this
   lia
  have hlr:(lay r++List.replicate b 32).length=(lay r).length+b:=by rw[mC,mU]
  have hL:lay r++List.replicate b 32++List.replicate j.toNat 32=lay r++List.replicate (b+j.toNat) 32:=by rw[mY,List.replicate_append_replicate]
  have hwt:=zGw tks xs.length;have hLl:(lay r++List.replicate (b+j.toNat) 32).length<=19996:=by rw[mC,mU];lia
  refine zZ (SqL.of e1) hv ⟨j,rfl,by decide,by lia,by lia, ?_⟩;rw[ts_sp,qH,wZ,hL,zU,zU,zU,hlr,mU];generalize hLe:lay r++List.replicate (b+j.toNat) 32=L at hLl⊢;refine⟨by lia,by lia,λq2 hq2 q3 hq3=>?_⟩;have e2:=zF (H:=H1) (a:=q2) (o:=.tup [V.str (Str.ofString "end"),V.str (Str.ofString ""),V.int L.length]);have s2:=zH hq2 (.tup [V.str (Str.ofString "end"),V.str (Str.ofString ""),V.int L.length]);generalize upd H1 q2 _=H2 at s2 e2 hq3⊢;have e3:=zF (H:=H2) (a:=q3) (o:=.lst [V.ref q2]);have s3:=zH hq3 (.lst [V.ref q2]);generalize upd H2 q3 _=H3 at s3 e3⊢;have g3:=s1.trans (s2.trans s3);refine⟨p2,q3,ys,[V.ref q2],rfl,rfl,g3 _ _ hp2',e3,by rw[mJ];simp only[mE,nL];lia,λq4 hq4 q5 hq5=>?_⟩;have e4:=zF (H:=H3) (a:=q4) (o:=.lst (ys++ [V.ref q2]));have s4:=zH hq4 (.lst (ys++ [V.ref q2]));generalize upd H3 q4 _=H4 at s4 e4 hq5⊢;have s5:=zH hq5 (.tup [V.str (tx L),V.ref q4]);have g5:=g3.trans (s4.trans s5);have eL:(lay r++List.replicate (b+j.toNat) 32).length=L.length:=by rw[hLe]
  refine q q5 q4 r (b+j.toNat) _ (g.trans g5) (by rw[hLe];exact zF) ⟨_,s5 _ _ e4, ?_⟩ hrok hch (by rw[hrm,hxl,sQ]) (by lia);rw[eL];exact Tks.snoc (hR.same g5) ((s3.trans (s4.trans s5)) _ _ e2)
end
end K26
namespace K26
open PySem L2 PySem.W
def zXg(tks:List Tk):Prop:=(∀t∈tks,OkTk t)\/∃pre b last post,tks=pre++(5,b)::post/\(∀t∈pre,OkTk t)/\(∀t∈post,OkTk t)/\uO b last/\(last=true->post= [])
theorem zHv{b:List Nat}{n:Nat}{rest:List Lk}:∀(a:List Lk)(S:Mc),run S (a++⟨5,b,n⟩::rest)=run S (a++ [⟨5,[],n⟩])
 | [],S=>by
  rw[nH,nH,vI (t:=⟨5,b,n⟩) (zQy S b),vI (t:=⟨5,[],n⟩) (zQy S [])]
 | u::a,S=>by
  show(match nxt S u.k u.s with | .go S'=>run S' (a++Lk.mk 5 b n::rest)| .bad=>.bad u.n | .great=>.great | .good=>.good S.whole)=(match nxt S u.k u.s with | .go S'=>run S' (a++ [Lk.mk 5 [] n])| .bad=>.bad u.n | .great=>.great | .good=>.good S.whole)
  cases nxt S u.k u.s with
  | go S'=>exact zHv a S'
  | bad=>rfl
  | great=>rfl
  | good=>rfl
theorem zTo{t:Tk}(h:OkTk t):t.1≠5:=λz=>by
 have:=OkTk.k h;rw[z] at this;exact absurd this (by decide)
theorem zNd{a b:Tk}(ha:OkTk a)(hb:OkTk b):zAa a b=stk a b:=mG (λz=>z.elim (zTo ha) (zTo hb))
theorem zUb{r:List (Nat×Tk)}(h:ChnN r)(hok:∀y∈r,OkTk y.2):Chn r:=λi x y hx hy hs=>h i x y hx hy (by rw[zNd (hok x (nW hx)) (hok y (nW hy))];exact hs)
theorem zUf{a b:List (Nat×Tk)}(h:ChnN (a++b)):ChnN a:=λi x y hx hy hs=>h i x y (by rw[nQ (nF.mp hx).1];exact hx) (by rw[nQ (nF.mp hy).1];exact hy) hs
theorem zHl:∀(n:Nat)(r:List (Nat×Tk)),(∀y∈r,OkN y.2)->OkLs (wX n r)
 | _,[],_=>λt ht=>nomatch ht
 | n,x::r,h=>λt ht=>by
  rcases mF.mp ht with e | ht
  ·rw[e]
   have hx:=h x mH;have hl:=hx.len;refine⟨by show x.2.2.length<=_;lia, ?_⟩;rcases hx with⟨⟨_,h2⟩,_⟩|⟨h5,_⟩
   ·rcases h2 with a | a | a | a
    ·exact .inl a
    ·exact .inr (.inl a)
    ·exact .inr (.inr (.inl a))
    ·exact .inr (.inr (.inr (.inl a)))
   ·exact .inr (.inr (.inr (.inr (.inr h5))))
  ·exact zHl _ r (λy hy=>h y (mR _ hy)) t ht
theorem zZm{tks:List Tk}{r:List (Nat×Tk)}{e:Nat}(hrow:zXg tks)(hm:r.map (·.2)=tks)(hN:∀y∈r,OkN y.2)(hc:ChnN r)(hl:tks.length<=1000):
  ∃l,Src (lay r++List.replicate e 32) l/\run S0 (wX 0 r++ [⟨4,[],(lay r++List.replicate e 32).length⟩])=run S0 l:=by
 have hrl:r.length=tks.length:=by rw[<-hm,nA]
 rcases hrow with hg |⟨pre,b,last,post,e1,hpre,hpost,hb,hlast⟩
 ·have hok:∀y∈r,OkTk y.2:=λy hy=>hg y.2 (by rw[<-hm];exact sM hy)
  exact⟨_, .inl ⟨r,e,rfl,hok,zUb hc hok,by lia,rfl⟩,rfl⟩
 ·rw[e1] at hm
  obtain⟨r1,r2',er,m1,m2⟩:=List.map_eq_append_iff.mp hm
  cases r2' with
  | nil=>cases m2
  | cons x r2=>
  rw[nD] at m2;obtain⟨m3,m4⟩:=List.cons.inj m2;obtain⟨g,tk⟩:=x;have m3:tk=(5,b):=m3;subst m3;subst er;have hok1:∀y∈r1,OkTk y.2:=λy hy=>hpre y.2 (by rw[<-m1];exact sM hy);have hok2:∀y∈r2,OkTk y.2:=λy hy=>hpost y.2 (by rw[<-m4];exact sM hy);obtain⟨c,b',eb,hcb⟩:=hb.2.1;have eL:lay (r1++(g,(5,b))::r2)++List.replicate e 32=lay r1++List.replicate g 32++(b++(lay r2++List.replicate e 32)):=by
   rw[jB];show lay r1++(List.replicate g 32++(shw (5,b)++lay r2))++_=_;rw[show shw (5,b)=b from rfl];simp only[mY]
  rw[eL];have hi1:(r1++(g,(5,b))::r2)[r1.length]? =some (g,(5,b)):=by
   rw[nO (mK _),aE];rfl
  have hbad:BadT (b++(lay r2++List.replicate e 32)):=by
   cases r2 with
   | nil=>exact hb.2.2.1 e
   | cons x r2=>
    have hx:0<x.1:=by
     refine hc r1.length (g,(5,b)) x hi1 ?_ ?_
     ·rw[nO (by lia),show r1.length+1 - r1.length=1 by lia];rfl
     ·show(if(5:Nat)=5\/x.2.1=5 then decide ((5:Nat)=5)|| _ else _)=true
      rw[mL (.inl rfl)];rfl
    have hlf:last=false:=by
     cases last with
     | false=>rfl
     | true=>
      have:=hlast rfl;rw[this] at m4;cases m4
    have:lay (x::r2)++List.replicate e 32=32::(List.replicate (x.1 - 1) 32++(shw x.2++lay r2)++List.replicate e 32):=by
     show List.replicate x.1 32++(shw x.2++lay r2)++_=_;rw[show x.1=(x.1 - 1)+1 by lia,pA];simp
    rw[this];exact hb.2.2.2 hlf _
  refine⟨_, .inr ⟨r1,g,_,rfl,hok1,zUb (zUf hc) hok1,by rw[mC] at hrl;lia,hbad,λhg0 z hz=>?_,rfl⟩, ?_⟩
  ·intro c1 r' e2
   rw[eb] at e2;have hc1:c1=c:=(List.cons.inj e2).1.symm;rw[hc1];have hz':r1[r1.length - 1]? =some z:=by rw[<-aO];exact hz
   have hr1:0<r1.length:=by
    cases r1 with
    | nil=>cases hz
    | cons _ _=>exact pO _
   have hns:¬zAa z.2 (5,b)=true:=λy=>by
    have:=hc (r1.length - 1) z (g,(5,b)) (by rw[nQ (by lia)];exact hz') (by rw[show r1.length - 1+1=r1.length by lia];exact hi1) y;have this:0<g:=this
    lia
   unfold zTm;split
   ·exact λy=>hcb (nV _ y)
   split
   ·exact hcb
   split
   ·rename_i h2
    intro y;refine hns ?_;show(if z.2.1=5\/(5:Nat)=5 then decide (z.2.1=5)||(decide (z.2.1=2)&& decide (b.head? =some 39)) else _)=true
    rw[mL (.inr rfl),nB h2,eb,mS.mp y];simp
   ·exact λy=>nomatch y
  ·rw[zCp,mY]
   show run S0 (wX 0 r1++(⟨5,b,0+(lay r1).length+g⟩::(wX _ r2++_)))=_;rw[rY];exact zHv _ _
end K26
namespace K26
open PySem L2 PySem.W
seal L2.PSs L2.PS L2.PE L2.PT L2.PW L2.PA L2.PI L2.PG L2.PGs L2.PPs L2.PTs
abbrev sWb:Stmt:=top 66
def OkS(t:Tk):Prop:=OkTk t/\(t.1=2->t.2.length<=70)
theorem TksP.same{H H':Hp}{xs:List V}{l:List Tk}(g:Same H H')(h:TksP H xs l):TksP H' xs l:=⟨h.1,λi t e=>by obtain⟨a,h1,h2⟩:=h.2 i t e;exact⟨a,h1,g _ _ h2⟩⟩
theorem TksP.app{H:Hp}{xs ys:List V}{a b:List Tk}(h:TksP H xs a)(h':TksP H ys b):TksP H (xs++ys) (a++b):=by
 refine⟨by rw[mC,mC,h.1,h'.1],λi t e=>?_⟩
 by_cases hi:i<a.length
 ·rw[nQ hi] at e
  rw[nQ (by rw[h.1];exact hi)];exact h.2 i t e
 ·rw[nO (by lia)] at e
  rw[nO (by rw[h.1];lia),h.1];exact h'.2 _ t e
theorem TksP.take{H:Hp}{xs:List V}{a:List Tk}(n:Nat)(h:TksP H xs a):TksP H (xs.take n) (a.take n):=by
 refine⟨by rw[nY,nY,h.1],λi t e=>?_⟩;have hi:i<n:=by
  have:=(nF.mp e).1;rw[nY] at this
  lia
 rw[tH hi] at e;rw[tH hi];exact h.2 i t e
theorem TksP.drop{H:Hp}{xs:List V}{a:List Tk}(n:Nat)(h:TksP H xs a):TksP H (xs.drop n) (a.drop n):=by
 refine⟨by rw[nG,nG,h.1],λi t e=>?_⟩;rw[rV] at e⊢;exact h.2 _ t e
theorem TksP.one{H:Hp}{q:Addr}{t:Tk}(h:TkP H q t):TksP H [.ref q] [t]:=⟨rfl,λi u e=>by
 cases i with
 | zero=>cases e;exact⟨q,rfl,h⟩
 | succ i=>simp at e⟩
section
variable{P:Program}{w:World}{K:PySem.W.Frag}{mg:Str->Option Value}{base:Heap}{f:Addr}{fd:FuncData}
def spWb:Sp:=λvs H Q _=>∃(p:Addr)(xs:List V)(tks:List Tk)(n:Nat)(c:Int),vs= [.ref p, .int n, .int c]/\H p=some (.lst xs)/\TksP H xs tks/\(∀t∈tks,OkS t)/\n<=tks.length/\tks.length<=1000/\0<=c/\
 ∀(q:Addr)(zs:List V)(tks':List Tk)(H':Hp),Same H H'->H' q=some (.lst zs)->TksP H' zs tks'->zXg tks'->(∀t∈tks',OkN t)->tks'.length<=tks.length+1->wid tks'<=wid tks+5000->Q (.ref q) H'
theorem scWb:zV ["_law_row","_law_at","_law_cell_here","_law_string","_law_last","_law_found"] ["_law_row","_law_at","_law_cell_here"] (zO sWb):=by walk_at "sc"
theorem ok_wb(F:Fun K "_law_with_bad" "_law_with_bad" sWb f fd)(G_law_bad:Dn P w K mg base 1 "_law_bad" ["_law_cell_here"] zWv):FnOk P w K mg base CX0 2 f fd ["_law_row","_law_at","_law_cell_here"] spWb:=by
 refine F.ok scWb (by walk_at "ln") λc A o s H vs Q E hr h=>?_;obtain⟨p,xs,tks,n,c,rfl,hp,hT,hok,hn,h500,hc,q⟩:=h;have nd:=scWb.nd;refine⟨_,(zD (uW (pD G_law_bad hr (zA (pv 2) zB)) (zFd (n:=2) rfl (xS (yO (i:=3) nd rfl (pR rfl)) (xS (yO (i:=4) nd rfl (pR rfl)) zAv))))
  (zD (pS 5 nd (zI yW (yV uF (pv 0) wP (yQ (pv 1))) (zT (zA (yA (zA zC (zA (pv 3) zB))) zB))))
  (zG (zM (qO (yT (pv 4)) (pv 5) (zI yW (pv 5) (yV uF (pv 0) (yQ (pv 1)) wP))))))), ?_⟩
 walk_at "st";walk_at "rd6";refine⟨c,rfl,hc,λp1 b l H1 g1 hp1 hb=>?_⟩;refine⟨p1,rfl,_,SqT.of hp1,rfl,_,_,rfl,_,_,rfl,rfl,p,xs,rfl,SqL.of (g1 _ _ hp),λp2 hp2=>?_⟩;rw[zUg];have g2:=zH hp2 (.lst (xs.take n));have h2:upd H1 p2 (.lst (xs.take n)) p2=_:=zF;generalize upd H1 p2 (.lst (xs.take n))=H2 at g2 h2⊢;intro p3 hp3;have g3:=zH hp3 (.tup [V.str (Str.ofString "none"),V.str (tx b)]);have h3:upd H2 p3 (.tup [V.str (Str.ofString "none"),V.str (tx b)]) p3=_:=zF;generalize upd H2 p3 (.tup [V.str (Str.ofString "none"),V.str (tx b)])=H3 at g3 h3⊢;intro p4 hp4;have g4:=zH hp4 (.lst [V.ref p3]);have h4:upd H3 p4 (.lst [V.ref p3]) p4=_:=zF;generalize upd H3 p4 (.lst [V.ref p3])=H4 at g4 h4⊢;have hxl:=hT.1;refine⟨p2,p4,_,_,rfl,rfl,g4 _ _ (g3 _ _ h2),h4,by rw[mJ,nY];show _+1<=_;lia,λp5 hp5=>⟨l,rfl, ?_⟩⟩;have g5:=zH hp5 (.lst (xs.take n++ [V.ref p3]));have h5:upd H4 p5 (.lst (xs.take n++ [V.ref p3])) p5=_:=zF;generalize upd H4 p5 (.lst (xs.take n++ [V.ref p3]))=H5 at g5 h5⊢;have g15:=g1.trans (g2.trans (g3.trans (g4.trans g5)));have hP:TksP H5 (xs.take n++ [V.ref p3]) (tks.take n++ [(5,b)]):=((hT.take n).same g15).app (TksP.one (t:=(5,b)) (g5 _ _ (g4 _ _ h3)));have hpre:∀t∈tks.take n,OkTk t:=λt ht=>(hok t (aI ht)).1;have hpost:∀t∈tks.drop n,OkTk t:=λt ht=>(hok t (cB ht)).1;have hN:∀t∈tks.take n++ [(5,b)],OkN t:=λt ht=>(pG.mp ht).elim (λz=>.inl (hok t (aI z))) λz=>by rw[mS.mp z];exact .inr ⟨rfl,l,hb⟩
 have hl1:(tks.take n++ [(5,b)]).length=n+1:=by rw[mC,nY];show _+1=_;lia
 have hw:wid (tks.take n++ [(5,b)])<=wid (tks.take n)+5000:=by
  have:=OkN.slen (t:=(5,b)) (.inr ⟨rfl,l,hb⟩);rw[wQ];show _+((shw (5,b)).length+0)<=_
  lia
 have hw2:wid tks=wid (tks.take n)+wid (tks.drop n):=by rw[<-wQ,bN]
 cases l with
 | true=>exact iP rfl (q p5 _ _ H5 g15 h5 hP (.inr ⟨tks.take n,b,true,[],rfl,hpre,(λt z=>nomatch z),hb,λ_=>rfl⟩) hN (by lia) (by lia))
 | false=>
  refine iN (by decide) ⟨p,xs,rfl,SqL.of (g15 _ _ hp),λp6 hp6=>?_⟩;rw[zHh];have g6:=zH hp6 (.lst (xs.drop n));have h6:upd H5 p6 (.lst (xs.drop n)) p6=_:=zF;generalize upd H5 p6 (.lst (xs.drop n))=H6 at g6 h6⊢;refine⟨p5,p6,_,_,rfl,rfl,g6 _ _ h5,h6, ?_,λp7 hp7=>?_⟩
  ·rw[mJ,mC,nY,nG];show _+1+_<=_;lia
  have g7:=g15.trans (g6.trans (zH hp7 (.lst (xs.take n++ [V.ref p3]++xs.drop n))));refine q p7 _ _ _ g7 zF ((hP.same (g6.trans (zH hp7 _))).app ((hT.drop n).same g7)) (.inr ⟨tks.take n,b,false,tks.drop n,by rw[mY];rfl,hpre,hpost,hb,λz=>nomatch z⟩) (λt ht=>(pG.mp ht).elim (hN t) λz=>.inl (hok t (cB z))) ?_ (by rw[wQ];lia);rw[mC,hl1,nG]
  lia
end
end K26
namespace K26
open PySem L2 PySem.W
theorem sl_to{K:PySem.W.Frag}{H:Hp}{p:Addr}{xs:List V}{n:Nat}{Q:VK}(hp:H p=some (.lst xs))(q:∀p2 H2,Same H H2->H2 p2=some (.lst (xs.take n))->Q (.ref p2) H2):zXs K (.ref p) none (some (n:Int)) H Q:=⟨p,xs,rfl,SqL.of hp,λp2 hp2=>by rw[zUg];exact q p2 _ (zH hp2 _) zF⟩
theorem sl_fr{K:PySem.W.Frag}{H:Hp}{p:Addr}{xs:List V}{n:Nat}{Q:VK}(hp:H p=some (.lst xs))(q:∀p2 H2,Same H H2->H2 p2=some (.lst (xs.drop n))->Q (.ref p2) H2):zXs K (.ref p) (some (n:Int)) none H Q:=⟨p,xs,rfl,SqL.of hp,λp2 hp2=>by rw[zHh];exact q p2 _ (zH hp2 _) zF⟩
def RwP(H:Hp)(p:Addr)(tks:List Tk):Prop:=∃zs,H p=some (.lst zs)/\TksP H zs tks
theorem RwP.same{H H':Hp}{p:Addr}{l:List Tk}(h:RwP H p l)(g:Same H H'):RwP H' p l:=by
 obtain⟨zs,h1,h2⟩:=h;exact⟨zs,g _ _ h1,h2.same g⟩
theorem RwP.cat{H:Hp}{a b:Addr}{l m:List Tk}{Q:VK}(ha:RwP H a l)(hb:RwP H b m)(hl:l.length+m.length<=10000)(q:∀p H2,Same H H2->RwP H2 p (l++m)->Q (.ref p) H2):zGs (.ref a) (.ref b) H Q:=by
 obtain⟨xs,h1,h2⟩:=ha;obtain⟨ys,h3,h4⟩:=hb;refine⟨a,b,xs,ys,rfl,rfl,h1,h3,by rw[mJ,h2.1,h4.1];lia,λp hp=>?_⟩;have g:=zH hp (.lst (xs++ys));exact q p _ g ⟨_,zF,(h2.app h4).same g⟩
theorem TksP.nil{H:Hp}:TksP H [] []:=⟨rfl,λi t e=>by simp at e⟩
theorem RwP.rep{H:Hp}{a:Addr}{t:Tk}{n:Int}{Q:VK}(ha:RwP H a [t])(h0:0<=n)(h1:n<=1)(q:∀p H2,Same H H2->RwP H2 p (if n=1 then[t] else[])->Q (.ref p) H2):zXo (.ref a) (.int n) H Q:=by
 obtain⟨xs,e1,e2⟩:=ha;have hl:xs.length=1:=e2.1;have:n=0\/n=1:=by lia
 rcases this with rfl | rfl
 ·refine⟨a,0,xs,rfl,rfl,e1,by decide,by decide,by rw[mJ,hl];decide,λp hp=>?_⟩
  exact q p _ (zH hp _) ⟨[],zF,TksP.nil⟩
 ·refine⟨a,1,xs,rfl,rfl,e1,by decide,by decide,by rw[mJ,hl];decide,λp hp=>?_⟩
  have e3:(List.replicate (Int.toNat 1) xs).flatten=xs:=by show xs++ []=xs;rw[mN]
  rw[e3];have g:=zH hp (.lst xs);exact q p _ g ⟨xs,zF,e2.same g⟩
theorem RwP.one{H:Hp}{R:Addr->Hp->Prop}(t:Tk){k x:Str}(hk:k=kL t.1)(hx:x=tx t.2)(q:∀p H2,Same H H2->RwP H2 p [t]->R p H2):∀p,H p=none->∀p1,upd H p (.tup [.str k, .str x]) p1=none->R p1 (upd (upd H p (.tup [.str k, .str x])) p1 (.lst [.ref p])):=by
 intro p hp p1 hp1;have g:=zH hp1 (.lst [.ref p]);subst hk hx;exact q p1 _ ((zH hp _).trans g) ⟨_,zF,TksP.one (g _ _ zF)⟩
theorem TksP.two{H:Hp}{a b:Addr}{t u:Tk}(ha:TkP H a t)(hb:TkP H b u):TksP H [.ref a, .ref b] [t,u]:=(TksP.one ha).app (TksP.one hb)
theorem TksP.three{H:Hp}{a b c:Addr}{t u v:Tk}(ha:TkP H a t)(hb:TkP H b u)(hc:TkP H c v):TksP H [.ref a, .ref b, .ref c] [t,u,v]:=(TksP.two ha hb).app (TksP.one hc)
theorem RwP.mk1{H:Hp}{p p1:Addr}{k x:Str}(t:Tk)(hp:H p=none)(hp1:upd H p (.tup [.str k, .str x]) p1=none)(hk:k=kL t.1)(hx:x=tx t.2):Same H (upd (upd H p (.tup [.str k, .str x])) p1 (.lst [.ref p]))/\RwP (upd (upd H p (.tup [.str k, .str x])) p1 (.lst [.ref p])) p1 [t]:=RwP.one (R:=λp1 H2=>Same H H2/\RwP H2 p1 [t]) t hk hx (λ_ _ g h=>⟨g,h⟩) p hp p1 hp1
theorem RwP.mk3{H:Hp}{p p1 p2 p3:Addr}{k1 x1 k2 x2 k3 x3:Str}(t u v:Tk)(hp:H p=none)(hp1:upd H p (.tup [.str k1, .str x1]) p1=none)(hp2:upd (upd H p (.tup [.str k1, .str x1])) p1 (.tup [.str k2, .str x2]) p2=none)(hp3:upd (upd (upd H p (.tup [.str k1, .str x1])) p1 (.tup [.str k2, .str x2])) p2 (.tup [.str k3, .str x3]) p3=none)(h1:k1=kL t.1)(i1:x1=tx t.2)(h2:k2=kL u.1)(i2:x2=tx u.2)(h3:k3=kL v.1)(i3:x3=tx v.2):
  Same H (upd (upd (upd (upd H p (.tup [.str k1, .str x1])) p1 (.tup [.str k2, .str x2])) p2 (.tup [.str k3, .str x3])) p3 (.lst [.ref p, .ref p1, .ref p2]))/\RwP (upd (upd (upd (upd H p (.tup [.str k1, .str x1])) p1 (.tup [.str k2, .str x2])) p2 (.tup [.str k3, .str x3])) p3 (.lst [.ref p, .ref p1, .ref p2])) p3 [t,u,v]:=by
 subst h1 i1 h2 i2 h3 i3;have g1:=zH hp1 (.tup [.str (kL u.1), .str (tx u.2)]);have g2:=zH hp2 (.tup [.str (kL v.1), .str (tx v.2)]);have g3:=zH hp3 (.lst [.ref p, .ref p1, .ref p2]);exact⟨(zH hp _).trans (g1.trans (g2.trans g3)),_,zF,TksP.three ((g1.trans (g2.trans g3)) _ _ zF) ((g2.trans g3) _ _ zF) (g3 _ _ zF)⟩
theorem RwP.snoc{H:Hp}{pr:Addr}{l:List Tk}(t:Tk){k x:Str}{Q:VK}(hr:RwP H pr l)(hl:l.length<=5000)(hk:k=kL t.1)(hx:x=tx t.2)(q:∀p2 H2,Same H H2->RwP H2 p2 (l++ [t])->Q (.ref p2) H2):
  ∀p,H p=none->∀p1,upd H p (.tup [.str k, .str x]) p1=none->zGs (.ref pr) (.ref p1) (upd (upd H p (.tup [.str k, .str x])) p1 (.lst [.ref p])) Q:=by
 intro p hp p1 hp1;obtain⟨g,h⟩:=RwP.mk1 t hp hp1 hk hx;exact(hr.same g).cat h (by show _+1<=_;lia) λp2 H2 g2 h2=>q p2 H2 (g.trans g2) h2
theorem RwP.com{H:Hp}{pr:Addr}{l:List Tk}(t:Tk){k x:Str}{n:Int}{Q:VK}(hr:RwP H pr l)(hl:l.length<=5000)(hk:k=kL t.1)(hx:x=tx t.2)(h0:0<=n)(h1:n<=1)(q:∀p2 H2,Same H H2->RwP H2 p2 (l++if n=1 then[t] else[])->Q (.ref p2) H2):
  ∀p,H p=none->∀p1,upd H p (.tup [.str k, .str x]) p1=none->zXo (.ref p1) (.int n) (upd (upd H p (.tup [.str k, .str x])) p1 (.lst [.ref p])) λy H2=>zGs (.ref pr) y H2 Q:=by
 intro p hp p1 hp1;obtain⟨g,h⟩:=RwP.mk1 t hp hp1 hk hx;refine h.rep h0 h1 λp2 H2 g2 h2=>(hr.same (g.trans g2)).cat h2 ?_ λp3 H3 g3 h3=>q p3 H3 (g.trans (g2.trans g3)) h3;split
 ·show _+1<=_;lia
 ·show _+0<=_;lia
theorem RwP.cat3{H:Hp}{pr:Addr}{l:List Tk}(t u v:Tk){k1 x1 k2 x2 k3 x3:Str}{Q:VK}(hr:RwP H pr l)(hl:l.length<=5000)(h1:k1=kL t.1)(i1:x1=tx t.2)(h2:k2=kL u.1)(i2:x2=tx u.2)(h3:k3=kL v.1)(i3:x3=tx v.2)(q:∀p2 H2,Same H H2->RwP H2 p2 (l++ [t,u,v])->Q (.ref p2) H2):
  ∀p,H p=none->∀p1,upd H p (.tup [.str k1, .str x1]) p1=none->∀p2,upd (upd H p (.tup [.str k1, .str x1])) p1 (.tup [.str k2, .str x2]) p2=none->∀p3,upd (upd (upd H p (.tup [.str k1, .str x1])) p1 (.tup [.str k2, .str x2])) p2 (.tup [.str k3, .str x3]) p3=none->
   zGs (.ref pr) (.ref p3) (upd (upd (upd (upd H p (.tup [.str k1, .str x1])) p1 (.tup [.str k2, .str x2])) p2 (.tup [.str k3, .str x3])) p3 (.lst [.ref p, .ref p1, .ref p2])) Q:=by
 intro p hp p1 hp1 p2 hp2 p3 hp3;obtain⟨g,h⟩:=RwP.mk3 t u v hp hp1 hp2 hp3 h1 i1 h2 i2 h3 i3;exact(hr.same g).cat h (by show _+3<=_;lia) λp2 H2 g2 h2=>q p2 H2 (g.trans g2) h2
theorem RwP.pre{H:Hp}{pr:Addr}{l:List Tk}(t:Tk){k x:Str}{Q:VK}(hr:RwP H pr l)(hl:l.length<=5000)(hk:k=kL t.1)(hx:x=tx t.2)(q:∀p2 H2,Same H H2->RwP H2 p2 ([t]++l)->Q (.ref p2) H2):
  ∀p,H p=none->∀p1,upd H p (.tup [.str k, .str x]) p1=none->zGs (.ref p1) (.ref pr) (upd (upd H p (.tup [.str k, .str x])) p1 (.lst [.ref p])) Q:=by
 intro p hp p1 hp1;obtain⟨g,h⟩:=RwP.mk1 t hp hp1 hk hx;exact h.cat (hr.same g) (by show 1+_<=_;lia) λp2 H2 g2 h2=>q p2 H2 (g.trans g2) h2
theorem RwP.pre3{H:Hp}{pr:Addr}{l:List Tk}(t u v:Tk){k1 x1 k2 x2 k3 x3:Str}{Q:VK}(hr:RwP H pr l)(hl:l.length<=5000)(h1:k1=kL t.1)(i1:x1=tx t.2)(h2:k2=kL u.1)(i2:x2=tx u.2)(h3:k3=kL v.1)(i3:x3=tx v.2)(q:∀p2 H2,Same H H2->RwP H2 p2 ([t,u,v]++l)->Q (.ref p2) H2):
  ∀p,H p=none->∀p1,upd H p (.tup [.str k1, .str x1]) p1=none->∀p2,upd (upd H p (.tup [.str k1, .str x1])) p1 (.tup [.str k2, .str x2]) p2=none->∀p3,upd (upd (upd H p (.tup [.str k1, .str x1])) p1 (.tup [.str k2, .str x2])) p2 (.tup [.str k3, .str x3]) p3=none->
   zGs (.ref p3) (.ref pr) (upd (upd (upd (upd H p (.tup [.str k1, .str x1])) p1 (.tup [.str k2, .str x2])) p2 (.tup [.str k3, .str x3])) p3 (.lst [.ref p, .ref p1, .ref p2])) Q:=by
 intro p hp p1 hp1 p2 hp2 p3 hp3;obtain⟨g,h⟩:=RwP.mk3 t u v hp hp1 hp2 hp3 h1 i1 h2 i2 h3 i3;exact h.cat (hr.same g) (by show 3+_<=_;lia) λp2 H2 g2 h2=>q p2 H2 (g.trans g2) h2
theorem mkS(d:Nat)(h:d∈mkL):OkS (3,[d]):=⟨⟨(show 1<=5000 by decide), .inr (.inr (.inr ⟨rfl,d,rfl,h⟩))⟩,λz=>absurd (show(3:Nat)=2 from z) (by decide)⟩
theorem wdS{c:Nat}{r:List Nat}(h:c∈vB)(h2:∀d∈r,d∈vB++xD)(h3:r.length<=100):OkS (1,c::r):=⟨⟨by show r.length+1<=5000;lia, .inr (.inl ⟨rfl,c,r,rfl,h,h2⟩)⟩,λz=>absurd (show(1:Nat)=2 from z) (by decide)⟩
theorem nuS{s fs:List Nat}(h:s= []\/s= [45])(h1:fs≠ [])(h2:∀c∈fs,c∈xD)(h3:fs.length<=4999):OkS (0,s++fs):=by
 refine⟨⟨?_, .inl ⟨rfl,s,fs,rfl,h,h1,h2⟩⟩,λz=>absurd (show(0:Nat)=2 from z) (by decide)⟩;show(s++fs).length<=5000;rw[mC];rcases h with rfl | rfl
 ·show 0+_<=_;lia
 ·show 1+_<=_;lia
structure Fit(n w:Nat)(tks:List Tk):Prop where
 ok:∀t∈tks,OkS t
 len:tks.length<=n
 wid:wid tks<=w
theorem Fit.app{n w n' w':Nat}{l m:List Tk}(h:Fit n w l)(h':Fit n' w' m):Fit (n+n') (w+w') (l++m):=by
 have h1:=h.len;have h2:=h'.len;have h3:=h.wid;have h4:=h'.wid;exact⟨λt ht=>(pG.mp ht).elim (h.ok t) (h'.ok t),by rw[mC];lia,by rw[wQ];lia⟩
theorem Fit.le{n w n' w':Nat}{l:List Tk}(h:Fit n w l)(h1:n<=n')(h2:w<=w'):Fit n' w' l:=⟨h.ok,nN h.len h1,nN h.wid h2⟩
theorem Fit.nil:Fit 0 0 []:=⟨(λt ht=>nomatch ht),mK _,mK _⟩
theorem Fit.one{w:Nat}{t:Tk}(h:OkS t)(hw:(shw t).length<=w):Fit 1 w [t]:=⟨λu hu=>by rw[mS.mp hu];exact h,mK _,by show(shw t).length+0<=w;lia⟩
theorem Fit.cons{n w n' w':Nat}{t:Tk}{l:List Tk}(h:Fit n w [t])(h':Fit n' w' l):Fit (n+n') (w+w') (t::l):=h.app h'
theorem Fit.ite{c:Prop} [Decidable c] {n w:Nat} {l:List Tk} (h:Fit n w l):Fit n w (if c then l else[]):=by
 split
 ·exact h
 ·exact Fit.nil.le (pW _) (pW _)
theorem fMk(d:Nat)(h:d∈mkL):Fit 1 1 [(3,[d])]:=Fit.one (mkS d h) (mK _)
def zUj(n w:Nat)(H:Hp)(Q:VK):Prop:=∀p H' tks,Same H H'->RwP H' p tks->Fit n w tks->0<tks.length->Q (.ref p) H'
end K26
namespace K26
open PySem L2 PySem.W
seal L2.PSs L2.PS L2.PE L2.PT L2.PW L2.PA L2.PI L2.PG L2.PGs L2.PPs L2.PTs
abbrev sEn:Stmt:=top 60
def FgS(v:V):Prop:=∃fs,v= .str (tx fs)/\fs≠ []/\(∀x∈fs,x∈xD)/\fs.length<=4000
theorem zGn{n:Int}{d:Nat}(hd:d∈xD)(h0:0<n)(h1:n<=4000):FgS (.str (tx (List.replicate n.toNat d))):=⟨_,rfl,λz=>by
  have:=congrArg List.length z;rw[mU] at this;simp only[nL] at this
  lia,λx hx=>by rw[(sE.mp hx).2];exact hd,by rw[mU];lia⟩
theorem zMn{i:Int}(h0:0<=i)(h1:i<10 ^ 60):FgS (.str (Str.ofString (toString i))):=by
 obtain⟨a,b⟩:=uG h0;exact⟨zDg i,by rw[zCv],a,b,nN (qQ h0 h1) (by decide)⟩
theorem fgs_0{i:Int}(h0:0<=i)(h1:i<10 ^ 60):FgS (.str (Str.ofString "0" ++Str.ofString (toString i))):=by
 obtain⟨a,b⟩:=uG h0;have c:=qQ h0 h1;refine⟨48::zDg i, ?_,(λz=>nomatch z),λx hx=>?_, ?_⟩
 ·rw[zCv,show Str.ofString "0" =tx [48] by decide+kernel,wZ];rfl
 ·rcases mF.mp hx with z | z
  ·rw[z];exact zEe _ mH
  ·exact b x z
 ·rw[mE];lia
section
variable{P:Program}{w:World}{K:PySem.W.Frag}{mg:Str->Option Value}{base:Heap}{f:Addr}{fd:FuncData}
def spEn:Sp:=λvs H Q _=>∃(c:Int),vs= [.int c]/\0<=c/\c<1000003/\zUj 1 4001 H Q
theorem scEn:zV ["_law_cell_here","_law_figures"] ["_law_cell_here"] (zO sEn):=by walk_at "sc"
theorem ok_en(F:Fun K "_law_edge_number" "_law_edge_number" sEn f fd)(B:Bl mg):FnOk P w K mg base CX0 1 f fd ["_law_cell_here"] spEn:=by
 refine F.ok scEn (by walk_at "ln") λc A o s H vs Q E hr h=>?_;obtain⟨c,rfl,h0,h1,q⟩:=h;have nd:=scEn.nd;refine⟨_,(zD (pS 1 nd (zT (zA (yM wF rfl B.str gP (zA (zI qB (zI zCd zE zE) (zI yB (zI yG (pv 0) zE) zE)) zB)) (zA (yM wF rfl B.str gP (zA (zI yL (zI yL (zI zCd zE zE) zE) (zI yB (zI yG (pv 0) zE) zE)) zB)) (zA (zI xO zC (zI yL zE (zI yB (zI yG (pv 0) zE) zE))) zB)))))
  (zD (pS 1 nd (zI yW (pv 1) (zT (zA (zI xO zC (zI yL zE (zI yB (zI yG (pv 0) zE) zE))) (zA (zI yY zC (yM wF rfl B.str gP (zA (zI zCd zE zE) zB))) (zA (zI xO zC (zI yL zE (zI yB (zI yG (pv 0) zE) zE))) zB))))))
  (zG (zM (zT (zA (yA (zA zC (zA (zI yY (zI xO zC (zI yB (pv 0) zE)) (zR zY (pv 1) (zI yB (zI yG (pv 0) zE) zE) (λ_ _=>rfl))) zB))) zB)))))), ?_⟩
 walk_at "st";walk_at "rd6";unfold zPi;walk_at "rd6";have l1:∀d:Nat,(tx [d]).length=1:=λd=>rfl;have e1:Str.ofString "1" =tx [49]:=by decide+kernel
 have e9:Str.ofString "9" =tx [57]:=by decide+kernel
 have e0:Str.ofString "0" =tx [48]:=by decide+kernel
 refine⟨zBz (by lia) (by lia),zBz (by lia) (by lia),by decide,by lia,by lia,λp hp=>⟨by decide,by lia,by lia,zBz (by decide) (by decide),by decide+kernel,by decide,by lia,by lia,λp1 hp1=>?_⟩⟩;have F1:=zMn (i:=1000000000000 - c / 4 % 2) (by lia) (by lia);have F2:=zMn (i:=1000000000001+c / 4 % 5) (by lia) (by lia);have F3:FgS (V.str (tx (List.replicate (13+c / 4 % 3).toNat (ts (Str.ofString "1"))).flatten)):=by rw[e1,yK,qH];exact zGn (by decide+kernel) (by lia) (by lia)
 have F4:FgS (V.str (tx (List.replicate (1000+c / 4 % 3000).toNat (ts (Str.ofString "9"))).flatten)):=by rw[e9,yK,qH];exact zGn (by decide+kernel) (by lia) (by lia)
 have F5:=fgs_0 (i:=1000000000000) (by decide) (by decide);have F6:FgS (V.str (tx (List.replicate (2+c / 4 % 30).toNat (ts (Str.ofString "0"))).flatten)):=by rw[e0,yK,qH];exact zGn (by decide+kernel) (by lia) (by lia)
 generalize V.str (Str.ofString (toString (1000000000000 - c / 4 % 2)))=v1 at F1 hp1⊢;generalize V.str (Str.ofString (toString (1000000000001+c / 4 % 5)))=v2 at F2 hp1⊢;generalize V.str (tx (List.replicate (13+c / 4 % 3).toNat (ts (Str.ofString "1"))).flatten)=v3 at F3 hp1⊢;generalize V.str (tx (List.replicate (1000+c / 4 % 3000).toNat (ts (Str.ofString "9"))).flatten)=v4 at F4⊢;generalize V.str (Str.ofString "0" ++Str.ofString (toString (1000000000000:Int)))=v5 at F5⊢;generalize V.str (tx (List.replicate (2+c / 4 % 30).toNat (ts (Str.ofString "0"))).flatten)=v6 at F6⊢;have g1:=(zH hp (.lst [v1,v2,v3])).trans (zH hp1 (.lst [v4,v5,v6]));refine⟨p,p1,[v1,v2,v3],[v4,v5,v6],rfl,rfl,zH hp1 _ _ _ zF,zF,by rw[mJ];exact bM rfl,λp2 hp2=>⟨by decide,by lia,by lia, ?_⟩⟩;have g2:=g1.trans (zH hp2 (.lst ([v1,v2,v3]++ [v4,v5,v6])));obtain⟨v,hv,hm⟩:=wD (xs:=[v1,v2,v3]++ [v4,v5,v6]) (i:=c / 2 % 6) (by lia) (by show _<(6:Int);lia);obtain⟨fs,rfl,f1,f2,f3⟩:FgS v:=by
  simp only[nP,nH,mF,nM,pZ] at hm;rcases hm with rfl | rfl | rfl | rfl | rfl | rfl<;>assumption
 have em:tx (List.replicate (c % 2).toNat (ts (Str.ofString "-"))).flatten=tx (List.replicate (c % 2).toNat 45):=by rw[show ts (Str.ofString "-")= [45] by decide+kernel,qH]
 rw[em];have hs:List.replicate (c % 2).toNat 45= []\/List.replicate (c % 2).toNat 45= [45]:=by
  rcases(show(c % 2).toNat=0\/(c % 2).toNat=1 by lia) with z | z<;>rw[z]
  ·exact .inl rfl
  ·exact .inr rfl
 refine zZ (SqL.of zF) hv ⟨_,rfl,by rw[zU,zU,mU];lia, ?_⟩;rw[wZ];refine RwP.one (0,List.replicate (c % 2).toNat 45++fs) rfl rfl λp3 H3 g3 h3=>q p3 H3 _ (g2.trans g3) h3 (Fit.one (nuS hs f1 f2 (by lia)) ?_) Nat.one_pos;show(List.replicate (c % 2).toNat 45++fs).length<=4001;rw[mC,mU];lia
end
end K26
namespace K26
open PySem L2 PySem.W
seal L2.PSs L2.PS L2.PE L2.PT L2.PW L2.PA L2.PI L2.PG L2.PGs L2.PPs L2.PTs
abbrev sMa:Stmt:=top 61
theorem zWp{n j:Nat}(h:j<n):ixN n (j:Int)=some j:=by
 unfold ixN;simp[h]
def NmS(v:V):Prop:=∃fs,v= .str (tx (110::fs))/\(∀d∈fs,d∈vB++xD)/\fs.length<=60
theorem zVn{i:Int}(h0:0<=i)(h1:i<10 ^ 60):NmS (.str (Str.ofString "n" ++Str.ofString (toString i))):=by
 obtain⟨a,b⟩:=uG h0;refine⟨zDg i, ?_,λd hd=>nV _ (b d hd),qQ h0 h1⟩;rw[zCv,show Str.ofString "n" =tx [110] by decide+kernel,wZ];rfl
theorem zLl{a b c:Int}{i:Int}(h0:0<=i)(h1:i<3){P:Int->Prop}(ha:P a)(hb:P b)(hc:P c):∃n,atI [V.int a,V.int b,V.int c] i=some (.int n)/\P n:=by
 rcases(show i=0\/i=1\/i=2 by lia) with rfl | rfl | rfl
 ·exact⟨a,rfl,ha⟩
 ·exact⟨b,rfl,hb⟩
 ·exact⟨c,rfl,hc⟩
theorem fNo:Fit 1 2 [(1,[110,111])]:=Fit.one (wdS (by decide+kernel) (by decide+kernel) (by decide)) (mK _)
section
variable{P:Program}{w:World}{K:PySem.W.Frag}{mg:Str->Option Value}{base:Heap}{f:Addr}{fd:FuncData}
def spMa:Sp:=λvs H Q _=>∃(c:Int),vs= [.int c]/\0<=c/\c<1000003/\zUj 700 5000 H Q
theorem scMa:zV ["_law_cell_here","_law_many_here","_law_row","_law_k","_law_names"] ["_law_cell_here"] (zO sMa):=by walk_at "sc"
theorem ok_ma(F:Fun K "_law_many" "_law_many" sMa f fd)(B:Bl mg):FnOk P w K mg base CX0 1 f fd ["_law_cell_here"] spMa:=by
 refine F.ok scMa (by walk_at "ln") λc A o s H vs Q E hr h=>?_;obtain⟨c,rfl,h0,h1,q⟩:=h;have nd:=scMa.nd;refine⟨_,(zD (zQ (zK zS (zI yB (pv 0) zE) zE (zJ _)) (zD (pS 1 nd (zR zY (zT (zA zE (zA zE (zA zE zB)))) (zI yB (zI yG (pv 0) zE) zE) (λ_ _=>rfl)))
  (zD (pS 2 nd (zT (zA (yA (zA zC (zA zC zB))) zB)))
  (zD (gJ PassesOwn.never rfl (xX rfl B.range (zA (pv 1) zB)) (yO (i:=3) nd rfl (pR rfl)) (zG (pS 2 nd (zI yW (zI yW (pv 2) (zI zAb (zT (zA (yA (zA zC (zA zC zB))) zB)) (yM yX rfl B.int xH (zA (zW wW (pv 3) zE (zJ _)) zB)))) (zT (zA (yA (zA zC (zA (yM wF rfl B.str gP (zA (pv 3) zB)) zB))) zB))))))
  (zG (zM (zI yW (zI yW (pv 2) (zI zAb (zT (zA (yA (zA zC (zA zC zB))) zB)) (zI yG (zI yB (zI yG (pv 0) zE) zE) zE))) (zT (zA (yA (zA zC (zA zC zB))) zB)))))))) zL)
  (zD (pS 1 nd (zR zY (zT (zA zE (zA zE (zA zE zB)))) (zI yB (zI yG (pv 0) zE) zE) (λ_ _=>rfl)))
  (zD (zVp (i:=4) nd rfl (pR rfl) (own:=["_law_k"]) (F:=[]) ⟨rfl,by walk_at "wu",by walk_at "wu",by walk_at "wu", .nil⟩ rfl (xX rfl B.range (zA (pv 1) zB)) (λ_ _ _ _=>yO (i:=0) (by show(qR ["_law_k"] []).Nodup;decide+kernel) rfl (pR rfl)) (λ_ _ _ _=>wR) (λ_ _ _ _=>(zI yY zC (yM wF rfl B.str gP (zA (pv 0) zB)))))
  (zD (vA (zQ (zK zS (zI yB (zI yG (pv 0) zE) zE) zE (zJ _)) (zG (uW (zR zY (pv 4) (zI yB (zI yG (pv 0) zE) (zI qB (pv 1) zE)) (λ_ _=>rfl)) (zSx (pv 4) (zI qB (pv 1) zE) zHs))) zL))
  (zD (pS 2 nd (zT (zA (yA (zA zC (zA zC zB))) zB)))
  (zD (gJ PassesOwn.never rfl (xX rfl B.range (zA (pv 1) zB)) (yO (i:=3) nd rfl (pR rfl)) (zG (pS 2 nd (zI yW (zI yW (pv 2) (zI zAb (zT (zA (yA (zA zC (zA zC zB))) zB)) (yM yX rfl B.int xH (zA (zW wW (pv 3) zE (zJ _)) zB)))) (zT (zA (yA (zA zC (zA (zR zY (pv 4) (pv 3) (λ_ _=>rfl)) zB))) (zA (yA (zA zC (zA zC zB))) (zA (yA (zA zC (zA zC zB))) zB))))))))
  (zG (zM (zI yW (pv 2) (zT (zA (yA (zA zC (zA zC zB))) zB))))))))))), ?_⟩
 unfold zPn;walk_at "st";walk_at "rd6"
 by_cases c2:c % 2=0
 ·refine iP c2 λp hp=>?_
  have g1:=zH hp (.lst [V.int 60,V.int 61,V.int 59]);have h1':upd H p (.lst [V.int 60,V.int 61,V.int 59]) p=_:=zF;generalize upd H p (.lst [V.int 60,V.int 61,V.int 59])=H1 at g1 h1'⊢;obtain⟨n,hn,hn0,hn1⟩:=zLl (a:=60) (b:=61) (c:=59) (i:=c / 2 % 3) (by lia) (by lia) (P:=λn=>0<=n/\n<=61) (by decide) (by decide) (by decide);refine zZ (SqL.of h1') hn λp2 hp2 p3 hp3=>?_;obtain⟨g2,r2⟩:=RwP.mk1 (3,[91]) hp2 hp3 rfl (by decide+kernel);generalize upd (upd H1 p2 _) p3 _=H2 at g2 r2⊢;have g12:=g1.trans g2;refine⟨n,rfl,by lia,by lia,qU (λi σ' H'=>∃p' o3 tks,σ'= [some (.int c),some (.int n),some (.ref p'),o3,none]/\Same H H'/\RwP H' p' tks/\Fit (1+2*i) (1+61*i) tks) ⟨p3,none,_,rfl,g12,r2,fMk 91 (by decide+kernel)⟩ ?_ ?_⟩
  ·rintro i σ' H' hi ⟨p',o3,tks,rfl,g,r,ft⟩
   have hl:=ft.len;walk_at "rd6";refine r.com (3,[44]) (by lia) rfl (by decide+kernel) (by split<;>decide) (by split<;>decide) λp4 H4 g4 r4=>?_;have f4:=ft.app (Fit.ite (c:=(if 0<0+(i:Int) then(1:Int) else 0)=1) (fMk 44 (by decide+kernel)));have hl4:=f4.len;refine⟨zBz (by lia) (by lia),r4.snoc (0,zDg (0+(i:Int))) (by lia) rfl (zCv _) λp5 H5 g5 r5=>⟨p5,⟨rfl,_,rfl⟩,g.trans (g4.trans g5),_,r5,(f4.app (Fit.one (w:=60) (t:=(0,zDg (0+(i:Int)))) ?_ ?_)).le (by lia) (by lia)⟩⟩
   ·obtain⟨a1,a2⟩:=uG (i:=0+(i:Int)) (by lia)
    exact nuS (s:=[]) (.inl rfl) a1 a2 (nN (qQ (by lia) (by lia)) (by decide))
   ·exact qQ (i:=0+(i:Int)) (by lia) (by lia)
  ·rintro σ' H' ⟨p',o3,tks,rfl,g,r,ft⟩
   have hl:=ft.len;walk_at "rd6";refine r.com (3,[44]) (by lia) rfl (by decide+kernel) (by lia) (by lia) λp4 H4 g4 r4=>?_;have f4:=ft.app (Fit.ite (c:=c / 6 % 4 / 3=1) (fMk 44 (by decide+kernel)));have hl4:=f4.len;exact r4.snoc (3,[93]) (by lia) rfl (by decide+kernel) λp5 H5 g5 r5=>q p5 H5 _ (g.trans (g4.trans g5)) r5 ((f4.app (fMk 93 (by decide+kernel))).le (by lia) (by lia)) (by rw[mC];exact pO _)
 refine iN c2 λp hp=>?_;have g1:=zH hp (.lst [V.int 30,V.int 31,V.int 29]);have h1':upd H p (.lst [V.int 30,V.int 31,V.int 29]) p=_:=zF;generalize upd H p (.lst [V.int 30,V.int 31,V.int 29])=H1 at g1 h1'⊢;obtain⟨n,hn,hn0,hn1⟩:=zLl (a:=30) (b:=31) (c:=29) (i:=c / 2 % 3) (by lia) (by lia) (P:=λn=>29<=n/\n<=31) (by decide) (by decide) (by decide);refine zZ (SqL.of h1') hn ⟨n,rfl,by lia,by lia,zIl (λi ys H'=>Same H H'/\ys.length=i/\∀v∈ys,NmS v) (by rw[mJ];lia) ⟨g1,rfl,λv hv=>nomatch hv⟩ ?_ ?_⟩
 ·rintro i ys H' hi _ ⟨g,hyl,hys⟩
  walk_at "rd6";have hf:=qQ (i:=0+(i:Int)) (by lia) (by lia);refine⟨zBz (by lia) (by lia),by rw[show(Str.ofString "n").length=1 by decide+kernel,zCv,zU];lia,g,by rw[mC,hyl];rfl,λv hv=>(pG.mp hv).elim (hys v) λz=>?_⟩;rw[mS.mp z];exact zVn (by lia) (by lia)
 rintro ys H' _ ⟨g,hyl,hys⟩ pn hpn;have hpn0:H pn=none:=uZ g hpn;have g2:=g.trans (zH hpn (.lst ys));have hpn':upd H' pn (.lst ys) pn=_:=zF;generalize upd H' pn (.lst ys)=H2 at g2 hpn'⊢;refine⟨λσ' H'=>∃zs,σ'= [some (.int c),some (.int n),none,none,some (.ref pn)]/\Same H H'/\H' pn=some (.lst zs)/\zs.length=n.toNat/\∀v∈zs,NmS v, ?_, ?_⟩
 ·by_cases c6:c / 6 % 3=1
  ·have e1:=tT (c / 18) (show n - 1≠0 by lia)
   have e2:=tU (c / 18) (show 0<n - 1 by lia);obtain⟨v,hv,hm⟩:=wD (xs:=ys) (i:=c / 18 % (n - 1)) e1 (by lia);refine iP c6 ⟨n,rfl,by lia,zZ (SqL.of hpn') hv ?_⟩;unfold zYu;walk_at "rd6";refine⟨pn,ys,n - 1,(n - 1).toNat,rfl,rfl,hpn', ?_,λb o e=>?_,_,zF,by rw[List.length_set];exact hyl,λu hu=>?_⟩
   ·obtain⟨m,hm'⟩:∃m:Nat,n - 1=m:=⟨(n - 1).toNat,by lia⟩
    rw[hm',rK];exact zWp (by lia)
   ·rw[zN (λz=>by rw[z,hpn0] at e;cases e)]
    exact g2 _ _ e
   ·rcases List.mem_or_eq_of_mem_set hu with z | z
    ·exact hys u z
    ·rw[z];exact hys v hm
  ·exact iN c6 ⟨ys,rfl,g2,hpn',hyl,hys⟩
 rintro σ' H3 ⟨zs,rfl,g3,hpn3,hzl,hzs⟩;walk_at "rd6";intro p2 hp2 p3 hp3;obtain⟨g4,r4⟩:=RwP.mk1 (3,[123]) hp2 hp3 rfl (by decide+kernel);generalize upd (upd H3 p2 _) p3 _=H4 at g4 r4⊢;refine⟨by lia,by lia,qU (λi σ' H'=>∃p' o3 tks,σ'= [some (.int c),some (.int n),some (.ref p'),o3,some (.ref pn)]/\Same H3 H'/\RwP H' p' tks/\Fit (1+4*i) (1+66*i) tks) ⟨p3,none,_,rfl,g4,r4,fMk 123 (by decide+kernel)⟩ ?_ ?_⟩
 ·rintro i σ' H' hi ⟨p',o3,tks,rfl,g,r,ft⟩
  have hl:=ft.len;walk_at "rd6";refine r.com (3,[44]) (by lia) rfl (by decide+kernel) (by split<;>decide) (by split<;>decide) λp4 H4 g4 r4=>?_;have f4:=ft.app (Fit.ite (c:=(if 0<0+(i:Int) then(1:Int) else 0)=1) (fMk 44 (by decide+kernel)));have hl4:=f4.len;obtain⟨v,hv⟩:∃v,zs[i]? =some v:=⟨_,pY (by lia)⟩;obtain⟨fs,rfl,n1,n2⟩:=hzs v (nW hv);refine zZ (SqL.of ((g.trans g4) _ _ hpn3)) (by rw[dB];exact yF hv) (r4.cat3 (1,110::fs) (3,[58]) (1,[110,111]) (by lia) rfl rfl rfl (by decide+kernel) rfl (by decide+kernel) λp5 H5 g5 r5=>⟨p5,⟨rfl,_,rfl⟩,g.trans (g4.trans g5),_,r5,(f4.app ((Fit.one (w:=61) (t:=(1,110::fs)) (wdS (by decide+kernel) n1 (by lia)) ?_).cons ((fMk 58 (by decide+kernel)).cons fNo))).le (by lia) (by lia)⟩);show(110::fs).length<=61;rw[mE];lia
 ·rintro σ' H' ⟨p',o3,tks,rfl,g,r,ft⟩
  have hl:=ft.len;walk_at "rd6";exact r.snoc (3,[125]) (by lia) rfl (by decide+kernel) λp5 H5 g5 r5=>q p5 H5 _ (g3.trans (g.trans g5)) r5 ((ft.app (fMk 125 (by decide+kernel))).le (by lia) (by lia)) (by rw[mC];exact pO _)
end
end K26
namespace K26
open PySem L2 PySem.W
seal L2.PSs L2.PS L2.PE L2.PT L2.PW L2.PA L2.PI L2.PG L2.PGs L2.PPs L2.PTs
abbrev sDe:Stmt:=top 62
section
variable{P:Program}{w:World}{K:PySem.W.Frag}{mg:Str->Option Value}{base:Heap}{f:Addr}{fd:FuncData}
def spDe:Sp:=λvs H Q _=>∃(c:Int),vs= [.int c]/\0<=c/\c<1000003/\zUj 100 200 H Q
theorem scDe:zV ["_law_cell_here","_law_row","_law_k"] ["_law_cell_here"] (zO sDe):=by walk_at "sc"
theorem ok_de(F:Fun K "_law_deep" "_law_deep" sDe f fd)(B:Bl mg):FnOk P w K mg base CX0 1 f fd ["_law_cell_here"] spDe:=by
 refine F.ok scDe (by walk_at "ln") λc A o s H vs Q E hr h=>?_;obtain⟨c,rfl,h0,h1,q⟩:=h;have nd:=scDe.nd;have hu0:=hr.units0;refine⟨_,(zD (pS 1 nd (zI zAb (zT (zA (yA (zA zC (zA zC zB))) zB)) (zI yB (zI yG (pv 0) zE) zE)))
  (zD (gJ PassesOwn.never rfl (xX rfl B.range (zA (zR zY (zT (zA zE (zA zE (zA zE zB)))) (zI yB (pv 0) zE) (λ_ _=>rfl)) zB)) (yO (i:=2) nd rfl (pR rfl)) (zG (zQ (PW.pt (jV (zK zS (zI yB (zI yG (zI yG (pv 0) zE) (zR zY (zT (zA zE (zA zE (zA zE (zA zE zB))))) (zI yB (pv 2) zE) (λ_ _=>rfl))) zE) zE (zJ _)) (vZ (zK (zVy hu0) (pv 1) (zT zB) (zJ _))))) (zG (pS 1 nd (zI yW (zI yW (zT (zA (yA (zA zC (zA zC zB))) zB)) (pv 1)) (zT (zA (yA (zA zC (zA zC zB))) zB))))) (zG (pS 1 nd (zI yW (zI yW (zT (zA (yA (zA zC (zA zC zB))) (zA (yA (zA zC (zA zC zB))) (zA (yA (zA zC (zA zC zB))) zB)))) (pv 1)) (zT (zA (yA (zA zC (zA zC zB))) zB))))))))
  (zG (zM (pv 1))))), ?_⟩
 walk_at "st";walk_at "rd6";intro p hp p1 hp1;obtain⟨g1,r1⟩:=RwP.mk1 (1,[121,101,115]) hp hp1 rfl (by decide+kernel);generalize upd (upd H p _) p1 _=H1 at g1 r1⊢;refine r1.rep (by lia) (by lia) λp2 H2 g2 r2 p3 hp3=>?_;have f2:Fit 1 3 (if c / 3 % 2=1 then[(1,[121,101,115])] else[]):=Fit.ite (Fit.one (wdS (by decide+kernel) (by decide+kernel) (by decide)) (mK _));generalize (if c / 3 % 2=1 then[((1,[121,101,115]):Tk)] else[])=tks0 at r2 f2;have g3:=zH hp3 (.lst [V.int 8,V.int 9,V.int 7]);obtain⟨n,hn,hn0,hn1⟩:=zLl (a:=8) (b:=9) (c:=7) (i:=c % 3) (by lia) (by lia) (P:=λn=>7<=n/\n<=9) (by decide) (by decide) (by decide);refine zZ (SqL.of zF) hn ⟨n,rfl,by lia,by lia,qU (λi σ' H'=>∃p' o2 tks,σ'= [some (.int c),some (.ref p'),o2]/\Same H H'/\RwP H' p' tks/\Fit (1+4*i) (3+5*i) tks/\(0<i->0<tks.length)) ⟨p2,none,_,rfl,g1.trans (g2.trans g3),r2.same g3,f2,λz=>absurd z (rF _)⟩ ?_ ?_⟩
 ·rintro i σ' H' hi ⟨p',o2,tks,rfl,g,r,ft,_⟩
  have hl:=ft.len;walk_at "rd6";intro p4 hp4;have g4:=zH hp4 (.lst [V.int 2,V.int 4,V.int 8,V.int 16]);have h4:upd H' p4 (.lst [V.int 2,V.int 4,V.int 8,V.int 16]) p4=_:=zF;generalize upd H' p4 (.lst [V.int 2,V.int 4,V.int 8,V.int 16])=H4 at g4 h4⊢;obtain⟨v,hv,hm⟩:=wD (xs:=[V.int 2,V.int 4,V.int 8,V.int 16]) (i:=(0+(i:Int))% 4) (by lia) (by show _<(4:Int);lia);obtain⟨x,rfl,hx0,hx1⟩:∃x:Int,v= .int x/\0<x/\x<1073741824:=by
   simp only[mF,nM,pZ] at hm;rcases hm with rfl | rfl | rfl | rfl<;>exact⟨_,rfl,by decide,by decide⟩
  refine zZ (SqL.of h4) hv ⟨x,rfl,⟨hx0,hx1⟩, ?_⟩;have gA:=g.trans g4;have rA:=r.same g4
  by_cases e:c / 6 / x % 2=0
  ·exact iP e (rA.pre (3,[91]) (by lia) rfl (by decide+kernel) λp5 H5 g5 r5=>r5.snoc (3,[93]) (by rw[mC];show 1+_<=_;lia) rfl (by decide+kernel) λp6 H6 g6 r6=>⟨p6,⟨rfl,_,rfl⟩,gA.trans (g5.trans g6),_,r6,(((fMk 91 (by decide+kernel)).app ft).app (fMk 93 (by decide+kernel))).le (by lia) (by lia),λ_=>by rw[mC];exact pO _⟩)
  refine iN e λp5 hp5=>?_;obtain⟨zs,hz1,hz2⟩:=id rA;have gB:=zH hp5 (.lst []);refine⟨p',p5,zs,rfl,rfl,SqL.of (gB _ _ hz1),SqL.of zF,_,rfl, ?_⟩;have rB:=rA.same gB;have gC:=gA.trans gB;generalize upd H4 p5 (.lst [])=HB at gC rB⊢
  by_cases e2:(if false=true then !zs.isEmpty else zs.isEmpty)=true
  ·exact iP e2 (rB.pre (3,[91]) (by lia) rfl (by decide+kernel) λp5 H5 g5 r5=>r5.snoc (3,[93]) (by rw[mC];show 1+_<=_;lia) rfl (by decide+kernel) λp6 H6 g6 r6=>⟨p6,⟨rfl,_,rfl⟩,gC.trans (g5.trans g6),_,r6,(((fMk 91 (by decide+kernel)).app ft).app (fMk 93 (by decide+kernel))).le (by lia) (by lia),λ_=>by rw[mC];exact pO _⟩)
  ·have fA:Fit 1 1 [(1,[97])]:=Fit.one (wdS (by decide+kernel) (by decide+kernel) (by decide)) (mK _)
   exact iN e2 (rB.pre3 (3,[123]) (1,[97]) (3,[58]) (by lia) rfl (by decide+kernel) rfl (by decide+kernel) rfl (by decide+kernel) λp5 H5 g5 r5=>r5.snoc (3,[125]) (by rw[mC];show 3+_<=_;lia) rfl (by decide+kernel) λp6 H6 g6 r6=>⟨p6,⟨rfl,_,rfl⟩,gC.trans (g5.trans g6),_,r6,((((fMk 123 (by decide+kernel)).cons (fA.cons (fMk 58 (by decide+kernel)))).app ft).app (fMk 125 (by decide+kernel))).le (by lia) (by lia),λ_=>by rw[mC];exact pO _⟩)
 ·rintro σ' H' ⟨p',o2,tks,rfl,g,r,ft,hpos⟩
  have hl:=ft.len;walk_at "rd6";exact q p' H' _ g r (ft.le (by lia) (by lia)) (hpos (by lia))
end
end K26
namespace K26
open PySem L2 PySem.W
seal L2.PSs L2.PS L2.PE L2.PT L2.PW L2.PA L2.PI L2.PG L2.PGs L2.PPs L2.PTs
abbrev sSi:Stmt:=top 63
section
variable{P:Program}{w:World}{K:PySem.W.Frag}{mg:Str->Option Value}{base:Heap}{f:Addr}{fd:FuncData}
def spSi:Sp:=λvs H Q _=>∃(c:Int),vs= [.int c]/\0<=c/\c<1000003/\zUj 700 700 H Q
theorem scSi:zV ["_law_cell_here","_law_left","_law_row","_law_here","_law_k"] ["_law_cell_here"] (zO sSi):=by walk_at "sc"
theorem ok_si(F:Fun K "_law_size" "_law_size" sSi f fd)(B:Bl2 mg):FnOk P w K mg base CX0 1 f fd ["_law_cell_here"] spSi:=by
 refine F.ok scSi (by walk_at "ln") λc A o s H vs Q E hr h=>?_;obtain⟨c,rfl,h0,h1,q⟩:=h;have nd:=scSi.nd;refine⟨_,(zD (pS 1 nd (zI qB (zR zY (zT (zA zE (zA zE (zA zE (zA zE zB))))) (zI yB (pv 0) zE) (λ_ _=>rfl)) zE))
  (zD (pS 2 nd (zT (zA (yA (zA zC (zA zC zB))) zB)))
  (zD (wH PassesOwn.never (zK wW (pv 1) zE (zJ _)) (zD (pS 3 nd (zP (zEa rfl) rfl B.min zRu (zA (pv 1) (zA (zI yL zE (zI yB (zI yG (pv 0) zE) zE)) zB))))
  (zD (pS 2 nd (zI yW (zI yW (pv 2) (zI zAb (zT (zA (yA (zA zC (zA zC zB))) zB)) (yM yX rfl B.int xH (zA (zW wW (zP yI rfl B.len yH (zA (pv 2) zB)) zE (zJ _)) zB)))) (zT (zA (yA (zA zC (zA zC zB))) zB))))
  (zD (gJ PassesOwn.never rfl (xX rfl B.range (zA (zI qB (pv 3) zE) zB)) (yO (i:=4) nd rfl (pR rfl)) (zG (pS 2 nd (zI yW (zI yW (pv 2) (zI zAb (zT (zA (yA (zA zC (zA zC zB))) zB)) (yM yX rfl B.int xH (zA (zW wW (pv 4) zE (zJ _)) zB)))) (zT (zA (yA (zA zC (zA zC zB))) zB))))))
  (zD (pS 2 nd (zI yW (pv 2) (zT (zA (yA (zA zC (zA zC zB))) zB))))
  (zG (pS 1 nd (zI qB (pv 1) (pv 3)))))))))
  (zG (zM (zI yW (pv 2) (zT (zA (yA (zA zC (zA zC zB))) zB)))))))), ?_⟩
 walk_at "st";walk_at "rd6";intro p hp;have g1:=zH hp (.lst [V.int 200,V.int 201,V.int 199,V.int 202]);have h1':upd H p (.lst [V.int 200,V.int 201,V.int 199,V.int 202]) p=_:=zF;generalize upd H p (.lst [V.int 200,V.int 201,V.int 199,V.int 202])=H1 at g1 h1'⊢;obtain⟨v,hv,hm⟩:=wD (xs:=[V.int 200,V.int 201,V.int 199,V.int 202]) (i:=c % 4) (by lia) (by show _<(4:Int);lia);obtain⟨x,rfl,hx0,hx1⟩:∃x:Int,v= .int x/\199<=x/\x<=202:=by
  simp only[mF,nM,pZ] at hm;rcases hm with rfl | rfl | rfl | rfl<;>exact⟨_,rfl,by decide,by decide⟩
 refine zZ (SqL.of h1') hv ⟨x,rfl,λp2 hp2 p3 hp3=>?_⟩;obtain⟨g2,r2⟩:=RwP.mk1 (3,[91]) hp2 hp3 rfl (by decide+kernel);generalize upd (upd H1 p2 _) p3 _=H2 at g2 r2⊢;refine⟨λm σ' H'=>∃(lf:Nat)(p':Addr)(o3 o4:Option V)(tks:List Tk),m=lf/\σ'= [some (.int c),some (.int lf),some (.ref p'),o3,o4]/\lf<=201/\Same H H'/\RwP H' p' tks/\Fit (604 - 3*lf) (604 - 3*lf) tks/\0<tks.length,⟨(x - 1).toNat,(x - 1).toNat,p3,none,none,[(3,[91])],rfl, ?_,by lia,g1.trans g2,r2,(fMk 91 (by decide+kernel)).le (by lia) (by lia),Nat.one_pos⟩, ?_⟩
 ·rw[Int.toNat_of_nonneg (by lia)]
 rintro m σ' H' ⟨lf,p',o3,o4,tks,rfl,rfl,hlf,g,r,ft,hpos⟩;have hl:=ft.len;walk_at "rd6"
 by_cases hm0:0<(m:Int)
 case neg=>exact iN hm0 (r.snoc (3,[93]) (by lia) rfl (by decide+kernel) λp5 H5 g5 r5=>q p5 H5 _ (g.trans g5) r5 ((ft.app (fMk 93 (by decide+kernel))).le (by lia) (by lia)) (by rw[mC];exact pO _))
 refine iP hm0 ⟨_,λ_ _ h=>h,_,_,⟨rfl,rfl⟩,λp4 hp4 p5 hp5=>?_⟩;obtain⟨hr,hhr,hr1,hr2⟩:∃hr:Nat,(if 30+c / 4 % 31<(m:Int) then 30+c / 4 % 31 else(m:Int))=hr/\1<=hr/\hr<=m:=⟨(if 30+c / 4 % 31<(m:Int) then 30+c / 4 % 31 else(m:Int)).toNat,by split<;>lia,by split<;>lia,by split<;>lia⟩;rw[hhr];obtain⟨g4,r4⟩:=RwP.mk1 (3,[44]) hp4 hp5 rfl (by decide+kernel);generalize upd (upd H' p4 _) p5 _=H4 at g4 r4⊢;obtain⟨zs,hz1,hz2⟩:=r.same g4;have rA:RwP H4 p' tks:=⟨zs,hz1,hz2⟩;refine⟨zs,SqL.of hz1,r4.rep (by split<;>decide) (by split<;>decide) λp6 H6 g6 r6=>(rA.same g6).cat r6 ?_ λp7 H7 g7 r7=>?_⟩
 ·split
  ·show _+1<=_;lia
  ·show _+0<=_;lia
 have f7:=ft.app (Fit.ite (c:=(if 1<(zs.length:Int) then(1:Int) else 0)=1) (fMk 44 (by decide+kernel)));have hl7:=f7.len;generalize (tks++if(if 1<(zs.length:Int) then(1:Int) else 0)=1 then[((3,[44]):Tk)] else[])=tks7 at r7 f7 hl7;have gA:=g.trans (g4.trans (g6.trans g7));refine r7.snoc (3,[91]) (by lia) rfl (by decide+kernel) λp8 H8 g8 r8=>⟨by lia,by lia, ?_⟩;have f8:=f7.app (fMk 91 (by decide+kernel));refine qU (λi σ' H'=>∃p' o4 tks,σ'= [some (.int c),some (.int m),some (.ref p'),some (.int hr),o4]/\Same H H'/\RwP H' p' tks/\Fit (604 - 3*m+2+2*i) (604 - 3*m+2+2*i) tks) ⟨p8,_,_,rfl,gA.trans g8,r8,f8.le (by lia) (by lia)⟩ ?_ ?_
 ·rintro i σ' H' hi ⟨p',o3,tks,rfl,g,r,ft⟩
  have hl:=ft.len;walk_at "rd6";refine r.com (3,[44]) (by lia) rfl (by decide+kernel) (by split<;>decide) (by split<;>decide) λp4 H4 g4 r4=>?_;have f4:=ft.app (Fit.ite (c:=(if 0<0+(i:Int) then(1:Int) else 0)=1) (fMk 44 (by decide+kernel)));have hl4:=f4.len;exact r4.snoc (0,[]++ [55]) (by lia) rfl (by decide+kernel) λp5 H5 g5 r5=>⟨p5,⟨rfl,_,rfl⟩,g.trans (g4.trans g5),_,r5,(f4.app (Fit.one (w:=1) (nuS (.inl rfl) (pQ _ _) (by decide+kernel) (by decide)) (mK _))).le (by lia) (by lia)⟩
 ·rintro σ' H' ⟨p',o3,tks,rfl,g,r,ft⟩
  have hl:=ft.len;walk_at "rd6";refine r.snoc (3,[93]) (by lia) rfl (by decide+kernel) λp5 H5 g5 r5=>?_;exact⟨m - hr,by lia,p5,⟨by lia,rfl,_,rfl⟩,by lia,g.trans g5,_,r5,(ft.app (fMk 93 (by decide+kernel))).le (by lia) (by lia),by rw[mC];exact pO _⟩
end
end K26
namespace K26
open PySem L2 PySem.W
seal L2.PSs L2.PS L2.PE L2.PT L2.PW L2.PA L2.PI L2.PG L2.PGs L2.PPs L2.PTs
abbrev sEd:Stmt:=top 64
section
variable{P:Program}{w:World}{K:PySem.W.Frag}{mg:Str->Option Value}{base:Heap}{f:Addr}{fd:FuncData}
def spEd:Sp:=λvs H Q _=>∃(c m:Int),vs= [.int c, .int m]/\0<=c/\0<=m/\m<1000003/\zUj 700 5000 H Q
theorem scEd:zV ["_law_cell_here","_law_more","_law_word"] ["_law_cell_here","_law_more"] (zO sEd):=by walk_at "sc"
theorem ok_ed(F:Fun K "_law_edge" "_law_edge" sEd f fd)(G_law_edge_number:Dn P w K mg base 1 "_law_edge_number" ["_law_cell_here"] spEn)(G_law_deep:Dn P w K mg base 1 "_law_deep" ["_law_cell_here"] spDe)(G_law_size:Dn P w K mg base 1 "_law_size" ["_law_cell_here"] spSi)(G_law_many:Dn P w K mg base 1 "_law_many" ["_law_cell_here"] spMa):FnOk P w K mg base CX0 2 f fd ["_law_cell_here","_law_more"] spEd:=by
 refine F.ok scEd (by walk_at "ln") λc A o s H vs Q E hr h=>?_;obtain⟨c,m,rfl,hc,h0,h1,q⟩:=h;have nd:=scEd.nd;refine⟨_,(zD (zQ (zK zS (zI yB (pv 0) zE) zE (zJ _)) (zG (zM (pD G_law_edge_number hr (zA (pv 1) zB)))) zL)
  (zD (zQ (zK zS (zI yB (pv 0) zE) zE (zJ _)) (zG (zM (zT (zA (yA (zA zC (zA (zI xO (zR zY (zT (zA zC (zA zC (zA zC zB)))) (zI yB (pv 1) zE) (λ_ _=>rfl)) (zR zY (zT (zA zE (zA zE (zA zE (zA zE zB))))) (zI yB (zI yG (pv 1) zE) zE) (λ_ _=>rfl))) zB))) zB)))) zL)
  (zD (zQ (zK zS (zI yB (pv 0) zE) zE (zJ _)) (zD (pS 2 nd (zI yY zC (zI xO zC zE)))
  (zG (zM (zT (zA (yA (zA zC (zA zC zB))) (zA (yA (zA zC (zA (yV wO (pv 2) wP (yQ (zR zY (zT (zA zE (zA zE (zA zE (zA zE zB))))) (zI yB (pv 1) zE) (λ_ _=>rfl)))) zB))) (zA (yA (zA zC (zA zC zB))) (zA (yA (zA zC (zA zC zB))) (zA (yA (zA zC (zA zC zB))) zB))))))))) zL)
  (zD (zQ (zK zS (zI yB (pv 0) zE) zE (zJ _)) (zG (zM (pD G_law_deep hr (zA (pv 1) zB)))) zL)
  (zD (zQ (zK zS (zI yB (pv 0) zE) zE (zJ _)) (zG (zM (pD G_law_size hr (zA (pv 1) zB)))) zL)
  (zG (zM (pD G_law_many hr (zA (pv 1) zB))))))))), ?_⟩
 walk_at "st";walk_at "rd6";unfold zPi;walk_at "rd6"
 by_cases c0:c % 7=0
 ·exact iP c0 ⟨m,rfl,h0,h1,λp H' tks g r ft hp=>q p H' tks g r (ft.le (by decide) (by decide)) hp⟩
 refine iN c0 ?_
 by_cases c1:c % 7=1
 ·refine iP c1 λp hp=>?_
  have g1:=zH hp (.lst [V.str (Str.ofString "'"),V.str (Str.ofString "a"),V.str (Str.ofString "~'")]);have h1':upd H p (.lst [V.str (Str.ofString "'"),V.str (Str.ofString "a"),V.str (Str.ofString "~'")]) p=_:=zF;generalize upd H p (.lst [V.str (Str.ofString "'"),V.str (Str.ofString "a"),V.str (Str.ofString "~'")])=H1 at g1 h1'⊢;obtain⟨v,hv,hm⟩:=wD (xs:=[V.str (Str.ofString "'"),V.str (Str.ofString "a"),V.str (Str.ofString "~'")]) (i:=m % 3) (by lia) (by show _<(3:Int);lia);obtain⟨z,rfl,z1,z2⟩:∃z:List Nat,v= .str (tx z)/\z.length<=2/\∀d∈z,d∈vE:=by
   simp only[mF,nM,pZ] at hm;rcases hm with rfl | rfl | rfl
   ·exact⟨[39],by rw[show Str.ofString "'" =tx [39] by decide+kernel],by decide,by decide+kernel⟩
   ·exact⟨[97],by rw[show Str.ofString "a" =tx [97] by decide+kernel],by decide,by decide+kernel⟩
   ·exact⟨[126,39],by rw[show Str.ofString "~'" =tx [126,39] by decide+kernel],by decide,by decide+kernel⟩
  refine zZ (SqL.of h1') hv λp2 hp2=>?_;have g2:=zH hp2 (.lst [V.int 30,V.int 31,V.int 15,V.int 16]);have h2':upd H1 p2 (.lst [V.int 30,V.int 31,V.int 15,V.int 16]) p2=_:=zF;generalize upd H1 p2 (.lst [V.int 30,V.int 31,V.int 15,V.int 16])=H2 at g2 h2'⊢;obtain⟨v,hv,hm⟩:=wD (xs:=[V.int 30,V.int 31,V.int 15,V.int 16]) (i:=m / 3 % 4) (by lia) (by show _<(4:Int);lia);obtain⟨n,rfl,n0,n1⟩:∃n:Int,v= .int n/\0<=n/\n<=31:=by
   simp only[mF,nM,pZ] at hm;rcases hm with rfl | rfl | rfl | rfl<;>exact⟨_,rfl,by decide,by decide⟩
  refine zZ (SqL.of h2') hv ⟨tx z,rfl,n,rfl,by rw[zU];lia,n0,by lia, ?_⟩;rw[yK];have hl:(List.replicate n.toNat z).flatten.length<=62:=by
   rw[zMl];have:=Nat.mul_le_mul (show n.toNat<=31 by lia) z1
   lia
  refine RwP.one (2,(List.replicate n.toNat z).flatten) rfl rfl λp3 H3 g3 r3=>q p3 H3 _ (g1.trans (g2.trans g3)) r3 ((Fit.one (w:=200) ⟨⟨nN hl (by decide), .inr (.inr (.inl ⟨rfl,λd hd=>?_⟩))⟩,λ_=>nN hl (by decide)⟩ ?_).le (by decide) (by decide)) Nat.one_pos
  ·obtain⟨l,hl,hd⟩:=List.mem_flatten.mp hd
   rw[(sE.mp hl).2] at hd;exact z2 d hd
  ·have:=zBc (List.replicate n.toNat z).flatten
   show(39::(dbl (List.replicate n.toNat z).flatten++ [39])).length<=200;rw[mE,mC];show(dbl (List.replicate n.toNat z).flatten).length+1+1<=200
   lia
 refine iN c1 ?_
 by_cases c2:c % 7=2
 ·refine iP c2 ⟨by decide+kernel,by decide+kernel,λp hp p1 hp1=>?_⟩
  have g1:=zH hp (.tup [V.str (Str.ofString "mark"),V.str (Str.ofString "{")]);have t1:TkP (upd H p (.tup [V.str (Str.ofString "mark"),V.str (Str.ofString "{")])) p (3,[123]):=zF;generalize upd H p (.tup [V.str (Str.ofString "mark"),V.str (Str.ofString "{")])=H1 at g1 t1 hp1⊢;have g2:=zH hp1 (.lst [V.int 12,V.int 13,V.int 1,V.int 2]);have h2':upd H1 p1 (.lst [V.int 12,V.int 13,V.int 1,V.int 2]) p1=_:=zF;generalize upd H1 p1 (.lst [V.int 12,V.int 13,V.int 1,V.int 2])=H2 at g2 h2'⊢;obtain⟨v,hv,hm⟩:=wD (xs:=[V.int 12,V.int 13,V.int 1,V.int 2]) (i:=m % 4) (by lia) (by show _<(4:Int);lia);obtain⟨n,rfl⟩:∃n:Nat,v= .int ((n+1:Nat):Int):=by
   simp only[mF,nM,pZ] at hm;rcases hm with rfl | rfl | rfl | rfl
   ·exact⟨11,rfl⟩
   ·exact⟨12,rfl⟩
   ·exact⟨0,rfl⟩
   ·exact⟨1,rfl⟩
  have eW:Str.ofString "a" ++tx (List.replicate 6 (ts (Str.ofString "b9"))).flatten=tx (97:: [98,57,98,57,98,57,98,57,98,57,98,57]):=by decide+kernel
  rw[eW];have hr12:∀d∈ [98,57,98,57,98,57,98,57,98,57,98,57],d∈vB++xD:=by decide+kernel
  have hl12: [98,57,98,57,98,57,98,57,98,57,98,57].length=12:=rfl;generalize [98,57,98,57,98,57,98,57,98,57,98,57]=r12 at hr12 hl12⊢;refine zZ (SqL.of h2') hv ⟨_,rfl,_,rfl,by rw[zU,mJ,mE];lia, ?_⟩;rw[zBn,yK,tJ];intro p2 hp2 p3 hp3 p4 hp4 p5 hp5 p6 hp6;have g3:=zH hp2 (.tup [V.str (Str.ofString "word"),V.str (tx (97::r12.take n))]);have g4:=zH hp3 (.tup [V.str (Str.ofString "mark"),V.str (Str.ofString ":")]);have g5:=zH hp4 (.tup [V.str (Str.ofString "word"),V.str (Str.ofString "no")]);have g6:=zH hp5 (.tup [V.str (Str.ofString "mark"),V.str (Str.ofString "}")]);have g7:=zH hp6 (.lst [V.ref p,V.ref p2,V.ref p3,V.ref p4,V.ref p5]);have hw:OkS (1,97::r12.take n):=wdS (by decide+kernel) (λd hd=>hr12 d (aI hd)) (by rw[nY];lia);refine q p6 _ [(3,[123]),(1,97::r12.take n),(3,[58]),(1,[110,111]),(3,[125])] (g1.trans (g2.trans (g3.trans (g4.trans (g5.trans (g6.trans g7)))))) ⟨_,zF,(TksP.one ((g2.trans (g3.trans (g4.trans (g5.trans (g6.trans g7))))) _ _ t1)).app ((TksP.three ((g4.trans (g5.trans (g6.trans g7))) _ _ zF) (t:=(1,97::r12.take n)) (u:=(3,[58])) (v:=(1,[110,111])) ((g5.trans (g6.trans g7)) _ _ zF) ((g6.trans g7) _ _ zF)).app (TksP.one (t:=(3,[125])) (g7 _ _ zF)))⟩ (((fMk 123 (by decide+kernel)).cons ((Fit.one (w:=13) hw ?_).cons ((fMk 58 (by decide+kernel)).cons (fNo.cons (fMk 125 (by decide+kernel)))))).le (by decide) (by decide)) (pO _);show(97::r12.take n).length<=13;rw[mE,nY];lia
 refine iN c2 ?_
 by_cases c3:c % 7=3
 ·exact iP c3 ⟨m,rfl,h0,h1,λp H' tks g r ft hp=>q p H' tks g r (ft.le (by decide) (by decide)) hp⟩
 refine iN c3 ?_
 by_cases c4:c % 7=4
 ·exact iP c4 ⟨m,rfl,h0,h1,λp H' tks g r ft hp=>q p H' tks g r (ft.le (by decide) (by decide)) hp⟩
 ·exact iN c4 ⟨m,rfl,h0,h1,q⟩
end
end K26
namespace K26
open PySem L2 PySem.W
seal L2.PSs L2.PS L2.PE L2.PT L2.PW L2.PA L2.PI L2.PG L2.PGs L2.PPs L2.PTs
abbrev zFa:Stmt:=top 67
noncomputable def uB(n k:Nat):List (Nat×Tk):=[(n,(3,[91])),(0,(1,[110,111])),(0,(3,[44])),(1,(0,[53])),(0,(3,[k]))]
theorem zLo(n k:Nat):lay (uB n k)=List.replicate n 32++ [91,110,111,44,32,53,k]:=rfl
theorem zWo(n k:Nat):(lay (uB n k)).length=n+7:=by rw[zLo,mC,mU];rfl
theorem zWl{n k:Nat}(hk:k∈mkL):Src (lay (uB n k)) (wX 0 (uB n k)++ [⟨4,[],(lay (uB n k)).length⟩]):=by
 refine .inl ⟨uB n k,0,(mN _).symm,λy hy=>?_,λi x y hx hy hs=>?_,bM rfl,rfl⟩
 ·unfold uB at hy
  simp only[mF,nM,pZ] at hy;rcases hy with rfl | rfl | rfl | rfl | rfl
  ·exact(mkS 91 (by decide+kernel)).1
  ·exact(wdS (c:=110) (r:=[111]) (by decide+kernel) (by decide+kernel) (by decide)).1
  ·exact(mkS 44 (by decide+kernel)).1
  ·exact(nuS (s:=[]) (fs:=[53]) (.inl rfl) (pQ _ _) (by decide+kernel) (by decide)).1
  ·exact(mkS k hk).1
 ·rcases(show i=0\/i=1\/i=2\/i=3\/4<=i by lia) with rfl | rfl | rfl | rfl | h
  ·cases hx;cases hy;cases hs
  ·cases hx;cases hy;cases hs
  ·cases hx;cases hy;exact Nat.one_pos
  ·cases hx;cases hy
   have:stk (0,[53]) (3,[k])=false:=by unfold stk;simp
   exact absurd (this.symm.trans hs) (by decide)
  ·have:=(nF.mp hy).1
   have this:i+1<5:=this
   lia
theorem zCn(n m:Nat):gK [] 0 (wX 0 (uB n 93)++ [⟨4,[],m⟩])= .good (.lst [.bl false, .int 5]):=by rfl
theorem zFv(n m:Nat):gK [] 0 (wX 0 (uB n 58)++ [⟨4,[],m⟩])= .bad (n+6):=by
 rw[show n+6=0+n+1+0+2+0+1+1+1+0 by lia]
 rfl
section
variable{P:Program}{w:World}{K:PySem.W.Frag}{mg:Str->Option Value}{base:Heap}{f:Addr}{fd:FuncData}
def zLa(K:PySem.W.Frag):Sp:=λvs H Q _=>∃(a:Addr)(ns:List Int),vs= [.ref a]/\SqL K H a (ns.map V.int)/\ns.length<=63/\∀H',Q (.bl true) H'
theorem scLaw:zV ["_law_script","_law_k","_law_cell_here","_law_row","_law_more","_law_at","_law_text","_law_laid_here","_law_many_here","_law_start","_law_told_here"] ["_law_script"] (zO zFa):=by walk_at "sc"
theorem zYo(F:Fun K "law" "law" zFa f fd)(B:Bl2 mg)(G_law_cell:Dn P w K mg base 1 "_law_cell" ["_law_script","_law_k"] (zFq K))(G_law_edge:Dn P w K mg base 2 "_law_edge" ["_law_cell_here","_law_more"] spEd)(G_law_with_bad:Dn P w K mg base 2 "_law_with_bad" ["_law_row","_law_at","_law_cell_here"] spWb)(G_law_laid:Dn P w K mg base 2 "_law_laid" ["_law_row","_law_cell_here"] zTv)(G_law_told:Dn P w K mg base 33 "_law_told" ["_law_text"] spTo)(G_law_due:Dn P w K mg base 4 "_law_due" ["_law_row"] spDu)(G_law_as_due:Dn P w K mg base 13 "_law_as_due" ["_law_told_here","_law_due_here"] zVs):FnOk P w K mg base CX0 34 f fd ["_law_script"] (zLa K):=by
 refine F.ok scLaw (by walk_at "ln") λc A o s H vs Q E hr h=>?_;obtain⟨a,ns,rfl,ha,hns,q⟩:=h;have nd:=scLaw.nd;refine⟨_,(zD (gJ PassesOwn.never rfl (xX rfl B.range (zA zE zB)) (yO (i:=1) nd rfl (pR rfl)) (zD (pS 2 nd (pD G_law_cell hr (zA (pv 0) (zA (zI wY zE (pv 1)) zB))))
  (zD (pS 3 nd (pD G_law_edge hr (zA (pv 2) (zA (pD G_law_cell hr (zA (pv 0) (zA (zI yL (zI wY zE (pv 1)) zE) zB))) zB))))
  (zD (vA (zQ (zK zS (zI yB (zI yG (pv 2) zE) zE) zE (zJ _)) (zG (pS 3 nd (zI yW (zI yW (zT (zA (yA (zA zC (zA zC zB))) (zA (yA (zA zC (zA zC zB))) (zA (yA (zA zC (zA zC zB))) zB)))) (pv 3)) (zT (zA (yA (zA zC (zA zC zB))) zB))))) zL))
  (zD (pS 4 nd (pD G_law_cell hr (zA (pv 0) (zA (zI yL (zI wY zE (pv 1)) zE) zB))))
  (zD (vA (zQ (zK zS (zI yB (pv 4) zE) zE (zJ _)) (zD (pS 5 nd (zI yB (zI yG (pv 4) zE) (zI yL (zP yI rfl B.len yH (zA (pv 3) zB)) zE)))
  (zG (pS 3 nd (zI yW (zI yW (yV uF (pv 3) wP (yQ (pv 5))) (zT (zA (zR zY (zT (zA (yA (zA zC (zA zC zB))) (zA (yA (zA zC (zA zC zB))) (zA (yA (zA zC (zA zC zB))) zB)))) (zI yB (zI yG (pv 4) zE) zE) (λ_ _=>rfl)) zB))) (yV uF (pv 3) (yQ (pv 5)) wP))))) zL))
  (zD (vA (zQ (zK zS (zI yB (pv 4) zE) zE (zJ _)) (zG (pS 3 nd (pD G_law_with_bad hr (zA (pv 3) (zA (zI qB (zP yI rfl B.len yH (zA (pv 3) zB)) (zI yB (zI yG (pv 4) zE) (zP (zEa rfl) rfl B.min zRu (zA zE (zA (zP yI rfl B.len yH (zA (pv 3) zB)) zB))))) (zA (zI yG (pv 4) zE) zB)))))) zL))
  (zD (uW (pD G_law_laid hr (zA (pv 3) (zA (zI yG (pv 4) zE) zB))) (zFd (n:=2) rfl (xS (yO (i:=6) nd rfl (pR rfl)) (xS (yO (i:=7) nd rfl (pR rfl)) zAv))))
  (zG (zQ (vY (yT (pD G_law_as_due hr (zA (pD G_law_told hr (zA (pv 6) zB)) (zA (pD G_law_due hr (zA (pv 7) zB)) zB))))) (zG (zM vQ)) zL))))))))))
  (zD (pS 8 nd (zR zY (zT (zA zE (zA zE (zA zE zB)))) (zI yB (pD G_law_cell hr (zA (pv 0) (zA zE zB))) zE) (λ_ _=>rfl)))
  (zD (pS 6 nd (zI yY (zI yY (zI xO zC (zI qB (zI qB (pv 8) zE) (zP yE rfl B.len yH (zA zC zB)))) zC) (zR zY (zT (zA zC (zA zC zB))) (zI yB (zI yG (pD G_law_cell hr (zA (pv 0) (zA zE zB))) zE) zE) (λ_ _=>rfl))))
  (zD (vA (zQ (zK wW (pv 8) zE (zJ _)) (zD (pS 9 nd (zR zY (zT (zA zC (zA zC (zA zC (zA zC zB))))) (zI yB (zI yG (pD G_law_cell hr (zA (pv 0) (zA zE zB))) zE) zE) (λ_ _=>rfl)))
  (zG (zM (zW zS (zR yC (pD G_law_told hr (zA (zI yY (pv 9) (yV wO (pv 6) (yQ (zP yE rfl B.len yH (zA (pv 9) zB))) wP)) zB)) zE (λ_ _=>rfl)) zC (zJ _))))) zL))
  (zD (pS 10 nd (pD G_law_told hr (zA (pv 6) zB)))
  (zG (zM (pD G_law_as_due hr (zA (pv 10) (zA (zR zY (zT (zA (yA (zA zC (zA (zT (zA vQ (zA zE zB))) zB))) (zA (yA (zA zC (zA (zI qB (pv 8) zE) zB))) zB))) (zI yB (zI yG (pD G_law_cell hr (zA (pv 0) (zA zE zB))) zE) zE) (λ_ _=>rfl)) zB)))))))))), ?_⟩
 unfold zPn;refine cut1 λR hR=>?_;walk_at "st";walk_at "rd6";refine qU (λi σ' H'=>∃o1 o2 o3 o4 o5 o6 o7,σ'= [some (.ref a),o1,o2,o3,o4,o5,o6,o7,none,none,none]/\Same H H') ⟨none,none,none,none,none,none,none,rfl,Same.refl _⟩ ?_ ?_
 ·rintro i σ' H' hi ⟨o1,o2,o3,o4,o5,o6,o7,rfl,g⟩
  walk_at "rd6";have b0:=gS ns (3*(0+(i:Int)));refine vV (g.seq ha) hns (by lia) (by lia) λH1 g1=>?_;generalize wJ ns (3*(0+(i:Int)))=c at b0⊢;have gA:=g.trans g1;refine vV (gA.seq ha) hns (by lia) (by lia) λH2 g2=>⟨_,_,rfl,b0,gS _ _,zCz _ _,λp3 H3 tks3 g3 r3 f3 hpos3=>?_⟩;have gB:=gA.trans (g2.trans g3);have hl3:=f3.len;refine⟨λσ' H'=>∃p' tks',σ'= [some (.ref a),some (.int (0+(i:Int))),some (.int c),some (.ref p'),o4,o5,o6,o7,none,none,none]/\Same H H'/\RwP H' p' tks'/\Fit 704 5004 tks'/\0<tks'.length, ?_, ?_⟩
  ·refine⟨c,rfl, ?_⟩
   by_cases c7:c / 7 % 3=1
   case neg=>exact iN c7 ⟨p3,tks3,rfl,gB,r3,f3.le (by decide) (by decide),hpos3⟩
   have f1:Fit 1 1 [(0,[]++ [49])]:=Fit.one (nuS (.inl rfl) (pQ _ _) (by decide+kernel) (by decide)) (mK _);exact iP c7 (r3.pre3 (3,[91]) (0,[]++ [49]) (3,[44]) (by lia) rfl (by decide+kernel) rfl (by decide+kernel) rfl (by decide+kernel) λp5 H5 g5 r5=>r5.snoc (3,[93]) (by rw[mC];show 3+_<=_;lia) rfl (by decide+kernel) λp6 H6 g6 r6=>⟨p6,_,rfl,gB.trans (g5.trans g6),r6,((((fMk 91 (by decide+kernel)).cons (f1.cons (fMk 44 (by decide+kernel)))).app f3).app (fMk 93 (by decide+kernel))).le (by decide) (by decide),by rw[mC];exact pO _⟩)
  rintro σ' H4 ⟨p4,tks4,rfl,g4,r4,f4,hpos4⟩;have hl4:=f4.len;walk_at "rd6";refine vV (g4.seq ha) hns (by lia) (by lia) λH5 g5=>?_;have c4:=gS ns (3*(0+(i:Int))+2);have c5:=zCz ns (3*(0+(i:Int))+2);generalize wJ ns (3*(0+(i:Int))+2)=more at c4 c5⊢;have gC:=g4.trans g5;have r5:=r4.same g5;refine⟨λσ' H'=>∃p' o5 tks',σ'= [some (.ref a),some (.int (0+(i:Int))),some (.int c),some (.ref p'),some (.int more),o5,o6,o7,none,none,none]/\Same H H'/\RwP H' p' tks'/\Fit 705 5008 tks'/\0<tks'.length, ?_, ?_⟩
  ·refine⟨more,rfl, ?_⟩
   by_cases hm:more % 4=1
   case neg=>exact iN hm ⟨p4,_,tks4,rfl,gC,r5,f4.le (by decide) (by decide),hpos4⟩
   obtain⟨zs,hz,hT⟩:=id r5;have hx:=hT.1;refine iP hm ⟨more,rfl,zs,SqL.of hz,by lia, ?_⟩;obtain⟨n,hn,hnl⟩:∃n:Nat,more / 4 % ((zs.length:Int)+1)=n/\n<=tks4.length:=⟨(more / 4 % ((zs.length:Int)+1)).toNat,by
    have h1:=tT (more / 4) (show(zs.length:Int)+1≠0 by lia);have h2:=tU (more / 4) (show(0:Int)<zs.length+1 by lia)
    lia⟩
   rw[hn];refine sl_to hz λp6 H6 g6 hp6 p7 hp7 p8 hp8 p9 hp9 p10 hp10=>⟨more,rfl, ?_⟩;have g7:=zH hp7 (.tup [V.str (Str.ofString "mark"),V.str (Str.ofString ":")]);have g8:=zH hp8 (.tup [V.str (Str.ofString "word"),V.str (Str.ofString "none")]);have g9:=zH hp9 (.tup [V.str (Str.ofString "number"),V.str (Str.ofString "05")]);have g10:=zH hp10 (.lst [V.ref p7,V.ref p8,V.ref p9]);have t7:TkP _ p7 (3,[58]):=(g8.trans (g9.trans g10)) _ _ zF;have t8:TkP _ p8 (1,[110,111,110,101]):=(g9.trans g10) _ _ zF;have t9:TkP _ p9 (0,[]++ [48,53]):=g10 _ _ zF;have gD:=g7.trans (g8.trans (g9.trans g10));have h10:upd (upd (upd (upd H6 p7 (.tup [V.str (Str.ofString "mark"),V.str (Str.ofString ":")])) p8 (.tup [V.str (Str.ofString "word"),V.str (Str.ofString "none")])) p9 (.tup [V.str (Str.ofString "number"),V.str (Str.ofString "05")])) p10 (.lst [V.ref p7,V.ref p8,V.ref p9]) p10=_:=zF;generalize upd (upd (upd (upd H6 p7 _) p8 _) p9 _) p10 _=HD at t7 t8 t9 gD h10⊢;obtain⟨v,hv,hmm⟩:=wD (xs:=[V.ref p7,V.ref p8,V.ref p9]) (i:=more / 4096 % 3) (by lia) (by show _<(3:Int);lia);obtain⟨pt,t,rfl,ht,fT⟩:∃pt t,v= .ref pt/\TkP HD pt t/\Fit 1 4 [t]:=by
    simp only[mF,nM,pZ] at hmm;rcases hmm with rfl | rfl | rfl
    ·exact⟨p7,_,rfl,t7,(fMk 58 (by decide+kernel)).le (by decide) (by decide)⟩
    ·exact⟨p8,_,rfl,t8,Fit.one (wdS (by decide+kernel) (by decide+kernel) (by decide)) (mK _)⟩
    ·exact⟨p9,_,rfl,t9,(Fit.one (w:=2) (nuS (.inl rfl) (pQ _ _) (by decide+kernel) (by decide)) (mK _)).le (by decide) (by decide)⟩
   refine zZ (SqL.of h10) hv λp11 hp11=>?_;have g11:=zH hp11 (.lst [V.ref pt]);have rT:RwP (upd HD p11 (.lst [V.ref pt])) p11 [t]:=⟨_,zF,TksP.one (g11 _ _ ht)⟩;generalize upd HD p11 (.lst [V.ref pt])=HE at g11 rT⊢;have gE:=g6.trans (gD.trans g11);have rL:RwP HE p6 (tks4.take n):=⟨_,(gD.trans g11) _ _ hp6,(hT.take n).same gE⟩;refine rL.cat rT (by rw[nY];show _+1<=_;lia) λp12 H12 g12 r12=>sl_fr ((gE.trans g12) _ _ hz) λp13 H13 g13 hp13=>?_;have rR:RwP H13 p13 (tks4.drop n):=⟨_,hp13,(hT.drop n).same (gE.trans (g12.trans g13))⟩;refine(r12.same g13).cat rR (by rw[mC,nY,nG];show _+1+_<=_;lia) λp14 H14 g14 r14=>⟨p14,_,_,rfl,gC.trans (gE.trans (g12.trans (g13.trans g14))),r14,⟨λu hu=>?_, ?_, ?_⟩,by rw[mC,mC];show 0<_+1+_;lia⟩
   ·rcases pG.mp hu with z | z
    ·rcases pG.mp z with z | z
     ·exact f4.ok u (aI z)
     ·exact fT.ok u z
    ·exact f4.ok u (cB z)
   ·rw[mC,mC,nY,nG];show _+1+_<=_;lia
   ·have e3:wid tks4=wid (tks4.take n)+wid (tks4.drop n):=by rw[<-wQ,bN]
    have h1:=f4.wid;have h2:=fT.wid;rw[wQ,wQ];lia
  rintro σ' H6 ⟨p6,o5,tks6,rfl,g6,r6,f6,hpos6⟩;have hl6:=f6.len;have hw6:=f6.wid;walk_at "rd6";obtain⟨zs6,hz6,hT6⟩:=id r6;have hx6:=hT6.1;refine⟨λσ' H2=>∃p' xs' tks',σ'= [some (.ref a),some (.int (0+(i:Int))),some (.int c),some (.ref p'),some (.int more),o5,o6,o7,none,none,none]/\Same H H2/\H2 p'=some (.lst xs')/\TksP H2 xs' tks'/\zXg tks'/\(∀t∈tks',OkN t)/\tks'.length<=706/\wid tks'<=10008, ?_, ?_⟩
  ·by_cases hm:more % 4=2
   case neg=>exact iN hm ⟨p6,zs6,tks6,rfl,g6,hz6,hT6, .inl λt ht=>(f6.ok t ht).1,λt ht=>.inl (f6.ok t ht),by lia,by lia⟩
   refine iP hm ⟨zs6,SqL.of hz6,zs6,SqL.of hz6,_,_,⟨rfl,rfl⟩,by split<;>lia, ?_⟩;obtain⟨n,hn,hnl⟩:∃n:Nat,(zs6.length:Int)- more / 4 % (if(zs6.length:Int)<4 then(zs6.length:Int) else 4)=n/\n<=tks6.length:=by
    have hd:0<(if(zs6.length:Int)<4 then(zs6.length:Int) else 4):=by split<;>lia
    have hd2:(if(zs6.length:Int)<4 then(zs6.length:Int) else 4)<=zs6.length:=by split<;>lia
    generalize (if(zs6.length:Int)<4 then(zs6.length:Int) else 4)=d at hd hd2⊢;have h1:=tT (more / 4) (show d≠0 by lia);have h2:=tU (more / 4) hd;exact⟨((zs6.length:Int)- more / 4 % d).toNat,by lia,by lia⟩
   rw[hn];exact⟨p6,zs6,tks6,n,more / 64,rfl,hz6,hT6,f6.ok,hnl,by lia,by lia,λq5 zs tks' H5 g5 hq5 hT5 hr5 hok5 hl5 hw5=>⟨q5,zs,tks',rfl,g6.trans g5,hq5,hT5,hr5,hok5,by lia,by lia⟩⟩
  rintro σ' H9 ⟨p9,xs9,tks9,rfl,g39,hp9,hT9,hr9,hok9,hl9,hw9⟩;walk_at "rd6";refine⟨p9,xs9,tks9,_,rfl,hp9,hT9,hok9,by lia,by lia,by lia,by lia,λo6 l6 r e H6 g6 ho6 hl6' hN6 hc6 hm6 hL6=>?_⟩;have gE:∀H',Same H6 H'->Same H H':=λH' z=>g39.trans (g6.trans z);obtain⟨l,hsrc,hrun⟩:=zZm (e:=e) hr9 hm6 hN6 hc6 (by lia);obtain⟨zs,hz6,hTz⟩:=hl6';have hLL:OkLs (wX 0 r++ [⟨4,[],(lay r++List.replicate e 32).length⟩]):=λt ht=>(pG.mp ht).elim (zHl 0 r hN6 t) λz=>by
   rw[mS.mp z];exact⟨by show 0<=_;lia, .inr (.inr (.inr (.inr (.inl ⟨rfl,rfl⟩))))⟩
  have hlen:(wX 0 r++ [(⟨4,[],(lay r++List.replicate e 32).length⟩:Lk)]).length<=100000:=by
   have hrl:r.length=tks9.length:=by rw[<-hm6,nA]
   rw[mC,gZ];show _+1<=_
   lia
  have hno:run S0 (wX 0 r++ [⟨4,[],(lay r++List.replicate e 32).length⟩])≠ .no:=gT (.inl rfl) _ _;generalize wX 0 r++ [⟨4,[],(lay r++List.replicate e 32).length⟩]=LL at hrun hTz hLL hlen hno;generalize lay r++List.replicate e 32=L at hsrc hL6 ho6;have eR:rdR L l=run S0 l:=mG (by lia);refine⟨o6,rfl,_,SqT.of ho6,rfl,_,_,rfl,_,_,rfl,rfl,L,l,rfl, .inr hsrc,by lia,λn en q7 H7 g7 hq7=>?_,λen q7 H7 g7 hq7=>?_,λt en q7 v H7 g7 hq7 hv7=>?_⟩
  ·have en':run S0 LL= .bad n:=hrun.trans (eR.symm.trans en)
   refine⟨l6,zs,LL,rfl,g7 _ _ hz6,hTz.same g7,hLL,hlen,hno,λn' e' q8 H8 g8 hq8=>?_,λe'=>(by cases en'.symm.trans e'),λt e'=>(by cases en'.symm.trans e')⟩;cases en'.symm.trans e';exact⟨q7,q8,rfl,λH9 g9=>⟨true,rfl,iN (by decide) ⟨⟨_,rfl⟩,gE _ (g7.trans (g8.trans g9))⟩⟩, .inl ⟨n,g8 _ _ hq7,hq8⟩⟩
  ·have en':run S0 LL= .great:=hrun.trans (eR.symm.trans en)
   refine⟨l6,zs,LL,rfl,g7 _ _ hz6,hTz.same g7,hLL,hlen,hno,λn' e'=>(by cases en'.symm.trans e'),λe' q8 n8 H8 g8 hq8=>?_,λt e'=>(by cases en'.symm.trans e')⟩;exact⟨q7,q8,rfl,λH9 g9=>⟨true,rfl,iN (by decide) ⟨⟨_,rfl⟩,gE _ (g7.trans (g8.trans g9))⟩⟩, .inr (.inl ⟨n8,g8 _ _ hq7,hq8⟩)⟩
  ·have en':run S0 LL= .good t:=hrun.trans (eR.symm.trans en)
   obtain⟨f1,f2,f3⟩:=zJe LL S0 wf0 mi0 en';refine⟨l6,zs,LL,rfl,g7 _ _ hz6,hTz.same g7,hLL,hlen,hno,λn' e'=>(by cases en'.symm.trans e'),λe'=>(by cases en'.symm.trans e'),λt' e' q8 v8 H8 g8 hq8 hv8=>?_⟩;cases en'.symm.trans e';exact⟨q7,q8,rfl,λH9 g9=>⟨true,rfl,iN (by decide) ⟨⟨_,rfl⟩,gE _ (g7.trans (g8.trans g9))⟩⟩, .inr (.inr ⟨v,v8,t,g8 _ _ hq7,hq8,Rep.same g8 _ _ hv7,hv8,f1,f2,f3⟩)⟩
 ·rintro σ' H' ⟨o1,o2,o3,o4,o5,o6,o7,rfl,g⟩
  rw[hR];walk_at "rd6";intro p hp;have g1:=g.trans (zH hp (.lst [V.int 20000,V.int 20001,V.int 19999]));have h1':upd H' p (.lst [V.int 20000,V.int 20001,V.int 19999]) p=_:=zF;generalize upd H' p (.lst [V.int 20000,V.int 20001,V.int 19999])=H1 at g1 h1'⊢;refine vV (g1.seq ha) hns (by decide) (by decide) λH2 g2=>⟨_,rfl, ?_⟩;have c0:=gS ns 20;have c1:=zCz ns 20;obtain⟨n,hn,hn0,hn1⟩:=zLl (a:=20000) (b:=20001) (c:=19999) (i:=wJ ns 20 % 3) (by lia) (by lia) (P:=λn=>19999<=n/\n<=20001) (by decide) (by decide) (by decide);have e6:(Str.ofString "[no, 5").length=6:=by decide+kernel
  have eT:Str.ofString "[no, 5" =tx [91,110,111,44,32,53]:=by decide+kernel
  have es:ts (Str.ofString " ")= [32]:=by decide+kernel
  rw[e6];refine zZ (SqL.of (g2 _ _ h1')) hn ⟨n,rfl,by decide,Str.ofString " ",_,rfl,rfl,by decide,by lia,by lia,_,rfl, ?_⟩;obtain⟨N,hN⟩:∃N:Nat,n - 1 - (6:Nat)=N:=⟨(n - 7).toNat,by lia⟩;rw[hN,rK,es,qH,zU,mU,eT,wZ];refine⟨by lia,λp3 hp3=>?_⟩;have g3:=(g1.trans g2).trans (zH hp3 (.lst [V.str (Str.ofString "]"),V.str (Str.ofString ":")]));have h3':upd H2 p3 (.lst [V.str (Str.ofString "]"),V.str (Str.ofString ":")]) p3=_:=zF;generalize upd H2 p3 (.lst [V.str (Str.ofString "]"),V.str (Str.ofString ":")])=H3 at g3 h3'⊢;refine vV (g3.seq ha) hns (by decide) (by decide) λH4 g4=>⟨_,rfl, ?_⟩;obtain⟨k,hk,hkm,hk2⟩:∃k,atI [V.str (Str.ofString "]"),V.str (Str.ofString ":")] (wJ ns 20 / 3 % 2)=some (.str (tx [k]))/\k∈mkL/\((wJ ns 20 / 3 % 2=0/\k=93)\/(wJ ns 20 / 3 % 2=1/\k=58)):=by
   rcases(show wJ ns 20 / 3 % 2=0\/wJ ns 20 / 3 % 2=1 by lia) with e | e<;>rw[e]
   ·exact⟨93,rfl,by decide+kernel, .inl ⟨rfl,rfl⟩⟩
   ·exact⟨58,rfl,by decide+kernel, .inr ⟨rfl,rfl⟩⟩
  refine zZ (SqL.of (g4 _ _ h3')) hk ⟨_,rfl,by rw[zU,zU,mC,mU];show _+6+1<=_;lia, ?_⟩;have eL:tx (List.replicate N 32++ [91,110,111,44,32,53])++tx [k]=tx (lay (uB N k)):=by rw[wZ,zLo,mY];rfl
  rw[eL];have gF:=g3.trans g4;have hlen:=zWo N k;refine⟨λσ' H'=>∃o1 o2 o3 o4 o5 o7,σ'= [some (.ref a),o1,o2,o3,o4,o5,some (.str (tx (lay (uB N k)))),o7,some (.int n),none,none]/\Same H H'/\n<=20000, ?_, ?_⟩
  ·refine⟨n,rfl, ?_⟩
   by_cases hbig:20000<n
   case neg=>exact iN hbig ⟨_,_,_,_,_,_,rfl,gF,by lia⟩
   refine iP hbig λp5 hp5=>?_;have g5:=gF.trans (zH hp5 (.lst [V.str (Str.ofString ""),V.str (Str.ofString "!"),V.str (Str.ofString "'"),V.str (Str.ofString "]")]));have h5':upd H4 p5 (.lst [V.str (Str.ofString ""),V.str (Str.ofString "!"),V.str (Str.ofString "'"),V.str (Str.ofString "]")]) p5=_:=zF;generalize upd H4 p5 (.lst [V.str (Str.ofString ""),V.str (Str.ofString "!"),V.str (Str.ofString "'"),V.str (Str.ofString "]")])=H5 at g5 h5'⊢;refine vV (g5.seq ha) hns (by decide) (by decide) λH6 g6=>⟨_,rfl, ?_⟩;obtain⟨v,hv,hm⟩:=wD (xs:=[V.str (Str.ofString ""),V.str (Str.ofString "!"),V.str (Str.ofString "'"),V.str (Str.ofString "]")]) (i:=wJ ns 20 / 6 % 4) (by lia) (by show _<(4:Int);lia);obtain⟨z,rfl,hz⟩:∃z:List Nat,v= .str (tx z)/\z.length<=1:=by
    simp only[mF,nM,pZ] at hm;rcases hm with rfl | rfl | rfl | rfl
    ·exact⟨[],rfl,by decide⟩
    ·exact⟨[33],rfl,by decide⟩
    ·exact⟨[39],rfl,by decide⟩
    ·exact⟨[93],rfl,by decide⟩
   refine zZ (SqL.of (g6 _ _ h5')) hv ⟨_,rfl,by rw[zU];lia,_,rfl,by rw[zU,mJ];lia,_,rfl,_,rfl, ?_⟩;rw[zU,zBk,yK,zU,wZ];have hl:(z++(lay (uB N k)).drop z.length).length=N+7:=by rw[mC,nG,hlen];lia
   have eR:rdR (z++(lay (uB N k)).drop z.length) []= .great:=mL (by lia);refine⟨by rw[nG];lia,_,[],rfl, .inl (by lia),by lia,λn e=>(by cases eR.symm.trans e),λ_ q7 H7 g7 hq7=>yD (SqT.of hq7) (v:=.str (Str.ofString "great")) rfl ⟨rfl, ?_⟩,λt e=>(by cases eR.symm.trans e)⟩;rw[nB rfl];exact q H7
  rintro σ' H5 ⟨o1,o2,o3,o4,o5,o7,rfl,g5,hn2⟩;walk_at "rd6";have eR:∀l,rdR (lay (uB N k)) l=gK [] 0 l:=λl=>mG (by lia);have heap:∀(q7:Addr)(v7:V)(s7:Str)(H7:Hp),Same H5 H7->H7 q7=some (.tup [.str s7,v7])->(∀p1 p2 H8,Same H7 H8->(∃p,H8 p1=some (.tup [.str (Str.ofString "good"), .ref p])/\H8 p=some (.lst [.bl false, .int 5]))->H8 p2=some (.tup [.str (Str.ofString "bad"), .int (n - 1)])->∀x,atI [V.ref p1,V.ref p2] (wJ ns 20 / 3 % 2)=some x->zVs [.ref q7,x] H8 Q E0)->∀(p:Addr),H7 p=none->∀(p_1:Addr),upd H7 p (HO.lst [V.bl false,V.int 5]) p_1=none->∀(p_2:Addr),upd (upd H7 p (HO.lst [V.bl false,V.int 5])) p_1 (HO.tup [V.str (Str.ofString "good"),V.ref p]) p_2=none->∀(p_3:Addr),upd (upd (upd H7 p (HO.lst [V.bl false,V.int 5])) p_1 (HO.tup [V.str (Str.ofString "good"),V.ref p])) p_2 (HO.tup [V.str (Str.ofString "bad"),V.int (n - 1)]) p_3=none->zFq K [V.ref a,V.int 20] (upd (upd (upd (upd H7 p (HO.lst [V.bl false,V.int 5])) p_1 (HO.tup [V.str (Str.ofString "good"),V.ref p])) p_2 (HO.tup [V.str (Str.ofString "bad"),V.int (n - 1)])) p_3 (HO.lst [V.ref p_1,V.ref p_2])) (λx_1 H1=>∃i,x_1=V.int i/\zDi K (V.ref p_3) (V.int (i / 3 % 2)) H1 λx_2 H1=>zVs [.ref q7,x_2] H1 Q E0) E0:=by
   intro q7 v7 s7 H7 g7 hq7 key p hp p1 hp1 p2 hp2 p3 hp3;have a0:=zH hp (.lst [V.bl false,V.int 5]);have a1:=zH hp1 (.tup [V.str (Str.ofString "good"),V.ref p]);have a2:=zH hp2 (.tup [V.str (Str.ofString "bad"),V.int (n - 1)]);have a3:=zH hp3 (.lst [V.ref p1,V.ref p2]);have b0:=(a1.trans (a2.trans a3)) _ _ (zF (H:=H7) (a:=p) (o:=.lst [V.bl false,V.int 5]));have b1:=(a2.trans a3) _ _ (zF (a:=p1) (o:=.tup [V.str (Str.ofString "good"),V.ref p]));have b2:=a3 _ _ (zF (a:=p2) (o:=.tup [V.str (Str.ofString "bad"),V.int (n - 1)]));have gs:=a0.trans (a1.trans (a2.trans a3));have b3:upd (upd (upd (upd H7 p (HO.lst [V.bl false,V.int 5])) p1 (HO.tup [V.str (Str.ofString "good"),V.ref p])) p2 (HO.tup [V.str (Str.ofString "bad"),V.int (n - 1)])) p3 (HO.lst [V.ref p1,V.ref p2]) p3=_:=zF;generalize upd (upd (upd (upd H7 p _) p1 _) p2 _) p3 _=H8 at b0 b1 b2 b3 gs⊢;refine vV ((g5.trans (g7.trans gs)).seq ha) hns (by decide) (by decide) λH9 g9=>⟨_,rfl, ?_⟩;obtain⟨x,hx,_⟩:=wD (xs:=[V.ref p1,V.ref p2]) (i:=wJ ns 20 / 3 % 2) (by lia) (by show _<(2:Int);lia);exact zZ (SqL.of (g9 _ _ b3)) hx (key p1 p2 H9 (gs.trans g9) ⟨p,g9 _ _ b1,g9 _ _ b0⟩ (g9 _ _ b2) x hx)
  have hnN:n - 1=((N+6:Nat):Int):=by lia
  refine⟨_,_,rfl, .inr (zWl hkm),by lia,λm en q7 H7 g7 hq7=>?_,λen q7 H7 g7 hq7=>?_,λt en q7 v H7 g7 hq7 hv7=>?_⟩
  ·rw[eR] at en
   rcases hk2 with⟨ek,rfl⟩|⟨ek,rfl⟩
   ·cases (zCn N _).symm.trans en
   cases (zFv N _).symm.trans en;refine heap q7 _ _ H7 g7 hq7 λp1 p2 H8 g8 h1 h2 x hx=>?_;rw[ek] at hx;cases hx;exact⟨q7,p2,rfl,λH9 _=>q H9, .inl ⟨N+6,g8 _ _ hq7,by rw[<-hnN];exact h2⟩⟩
  ·rw[eR] at en
   rcases hk2 with⟨ek,rfl⟩|⟨ek,rfl⟩
   ·cases (zCn N _).symm.trans en
   ·cases (zFv N _).symm.trans en
  ·rw[eR] at en
   rcases hk2 with⟨ek,rfl⟩|⟨ek,rfl⟩
   case inr=>cases (zFv N _).symm.trans en
   cases (zCn N _).symm.trans en;refine heap q7 _ _ H7 g7 hq7 λp1 p2 H8 g8 ⟨p,h1,h1'⟩ h2 x hx=>?_;rw[ek] at hx;cases hx;refine⟨q7,p1,rfl,λH9 _=>q H9, .inr (.inr ⟨v, .ref p,_,g8 _ _ hq7,h1,Rep.same g8 _ _ hv7,⟨p,_,rfl,h1',_,_,rfl,rfl,_,_,rfl,rfl,rfl⟩, ?_, ?_, ?_⟩)⟩
   ·exact⟨trivial,trivial,trivial⟩
   ·decide
   ·decide
end
end K26
namespace K26
open PySem L2 PySem.W
def cls3(a b c:Addr):Nat->Addr
 | 0=>a
 | 1=>b
 | _=>c
theorem zAd{P:Program}{w:World}{x:Str}{t:Tok}{v:Value}{e:DictEntry}(h:e=⟨PyData.keyHash w.params x, .str x t,v⟩):∃k,(yR P w).is k e.key=true/\e.hash=(yR P w).hash k:=
 ⟨Sum.inr x,by rw[h];exact qS x t,by rw[h];rfl⟩
theorem zSd{P:Program}{w:World}{h:Heap}{a:Addr}{t1 t2 t3:Tok}{ep:Nat}(e:h.get? a=some ⟨.type "dict",none, .dict #[⟨PyData.keyHash w.params (Str.ofString "none"), .str (Str.ofString "none") t1, .none⟩,⟨PyData.keyHash w.params (Str.ofString "yes"), .str (Str.ofString "yes") t2, .bool true⟩,⟨PyData.keyHash w.params (Str.ofString "no"), .str (Str.ofString "no") t3, .bool false⟩] ep,#[]⟩):h.DictOf (yR P w) a zGr:=by
 refine⟨_,_,_,e,⟨rfl,rfl,rfl⟩,rfl,λx hx=>?_, .cons (qS _ t1) rfl (.cons (qS _ t2) rfl (.cons (qS _ t3) rfl .nil)),by decide+kernel⟩;have hx:=Array.mem_toList_iff.mpr hx;rcases mF.mp hx with z | z
 ·exact zAd z
 rcases mF.mp z with z | z
 ·exact zAd z
 rcases mF.mp z with z | z
 ·exact zAd z
 exact absurd z nM
def FA(K:W.Frag)(x:Str)(st:Stmt)(f:Addr):Prop:=W.nsIn K mainGlobals x=some (some (.ref f))/\∃oc od kV dc pm an cd ct sl,K.lookup f=some ⟨oc,od, .func (W.fnOf x x (yZ st) (yU st) (zO st) .none kV dc pm an cd ct),sl⟩/\W.codeIn K cd x=true/\W.keepIn K (.ref f)=true
theorem FnOkH.up{P:Program}{w:World}{K:W.Frag}{mg:Str->Option Value}{base:Heap}{j k:Nat}{f:Addr}{fd:FuncData}{ps:List Str}{sp:Sp}(F:FnOkH P w K mg base j f fd ps sp)(h:j<=k):FnOkH P w K mg base k f fd ps sp:=⟨F.len,λA outer s H args us vs Q E hr=>F.run A outer s H args us vs Q E (hr.mono h)⟩
theorem FA.out{K:W.Frag}{h:Heap}{mg:Str->Option Value}{x:Str}{st:Stmt}{f:Addr}(a:FA K x st f)(X:K.In h)(G:h.Ns mainGlobals mg):mg x=some (.ref f)/\(∃fd,Fun K x x st f fd)/\W.keepIn K (.ref f)=true:=by
 obtain⟨a,oc,od,kV,dc,pm,an,cd,ct,sl,l,c,k⟩:=a;exact⟨W.mg_of X G a,⟨_,qI l c k⟩,k⟩
section
variable{φ:Value->Prop}{P:Program}{w:World}{K:W.Frag}{mg:Str->Option Value}{base h:Heap}{k:Nat}{x:Str}{ps:List Str}{sp:Sp}{st:Stmt}{f:Addr}(X:K.In h)(G:h.Ns mainGlobals mg)(j:Nat)(a:FA K x st f)
include X G a
theorem dn_mk(o:∀{fd},Fun K x x st f fd->FnOk P w K mg base CX0 k f fd ps sp)(l:k<=j:=by decide)(b:∀fd,Fun K x x st f fd->Binds K fd ps []:=by walk_at "b"):Dn P w K mg base j x ps sp:=by
 obtain⟨m,⟨fd,F⟩,p⟩:=a.out X G;exact⟨_,_,FnOk.mono (o F) l,b _ F,p,m⟩
theorem zZb(o:∀{fd},Fun K x x st f fd->Binds K fd ps []->W.keepIn K (.ref f)=true->mg x=some (.ref f)->FnOk P w K mg base CX0 k f fd ps sp)(l:k<=j:=by decide)(b:∀fd,Fun K x x st f fd->Binds K fd ps []:=by walk_at "b"):Dn P w K mg base j x ps sp:=by
 obtain⟨m,⟨fd,F⟩,p⟩:=a.out X G;exact⟨_,_,FnOk.mono (o F (b _ F) p m) l,b _ F,p,m⟩
theorem dx_mk(o:∀{fd},Fun K x x st f fd->FnOk P w K mg base (CXE φ P w) k f fd ps sp)(l:k<=j:=by decide)(b:∀fd,Fun K x x st f fd->Binds K fd ps []:=by walk_at "b"):Dx φ P w K mg base j x ps sp:=by
 obtain⟨m,⟨fd,F⟩,p⟩:=a.out X G;exact⟨_,_,FnOk.mono (o F) l,b _ F,p,m⟩
theorem dh_mk(o:∀{fd},Fun K x x st f fd->FnOkH P w K mg base k f fd ps sp)(l:k<=j:=by decide)(b:∀fd,Fun K x x st f fd->Binds K fd ps []:=by walk_at "b"):Dh P w K mg base j x ps sp:=by
 obtain⟨m,⟨fd,F⟩,p⟩:=a.out X G;exact⟨_,_,FnOkH.up (o F) l,b _ F,p,m⟩
end
theorem all_mk{l:OpenLaw}{w:World}{K:Frag}{h:Heap}{mg:Str->Option Value}{fa f0 f1 f2 f3 f4 f5 f6 f7 f8 f9 f10 f11 f12 f13 f14 f15 f16 f17 f18 f19 f20 f21 f22 f23 f24 f25 f26 f27 f28 f29 f30 f31 f32 f33 f34 f35 f36 f37 f38:Addr}(X:K.In h)(G:h.Ns mainGlobals mg)(hfa:mg "law" =some (.ref fa))
  {od38 an38:Option Addr} {sl38:Array (Option Value)} {oc38 kV38 dc38 pm38 cd38 ct38:Value}
  {u0:Tok}
  {u1:Tok}
  {u2:Tok}
  {u3:Tok}
  {v0:Tok}
  {v1:Tok}
  {v2:Tok}
  {v3:Tok}
  {v4:Tok}
  {v5:Tok}
  {v6:Tok}
  {v7:Tok}
  {xR xW xB pC tC oC:Addr} {wt1 wt2 wt3:Tok} {xep:Nat} {pN pF pD:Addr} {pq:Str} {pbs:List Value} {psn:List Str} {psub:List Value} {pab:Bool} {pcol:Option Bool} {pdd:Option Addr} {pk0 pk1 pk2 pk3 pk5:Option Value} {pod pan:Option Addr} {psl:Array (Option Value)} {poc pkV pdc ppm pcd pct:Value} {pdo:Option Addr} {pdc' pdv:Value} {pdn:Nat} {pds:Array (Option Value)} {tN:Addr} {tq:Str} {tbs:List Value} {tsn:List Str} {tsub:List Value} {tab:Bool} {tcol:Option Bool} {tdd:Option Addr} {tk0 tk1 tk2 tk3 tk5:Option Value} {g0:Addr} {god0 gan0:Option Addr} {gsl0:Array (Option Value)} {goc0 gkV0 gdc0 gpm0 gcd0 gct0:Value} {g1:Addr} {god1 gan1:Option Addr} {gsl1:Array (Option Value)} {goc1 gkV1 gdc1 gpm1 gcd1 gct1:Value} {g2:Addr} {god2 gan2:Option Addr} {gsl2:Array (Option Value)} {goc2 gkV2 gdc2 gpm2 gcd2 gct2:Value} {g3:Addr} {god3 gan3:Option Addr} {gsl3:Array (Option Value)} {goc3 gkV3 gdc3 gpm3 gcd3 gct3:Value} {g4:Addr} {god4 gan4:Option Addr} {gsl4:Array (Option Value)} {goc4 gkV4 gdc4 gpm4 gcd4 gct4:Value} {g5:Addr} {god5 gan5:Option Addr} {gsl5:Array (Option Value)} {goc5 gkV5 gdc5 gpm5 gcd5 gct5:Value} {g6:Addr} {god6 gan6:Option Addr} {gsl6:Array (Option Value)} {goc6 gkV6 gdc6 gpm6 gcd6 gct6:Value} {g7:Addr} {god7 gan7:Option Addr} {gsl7:Array (Option Value)} {goc7 gkV7 gdc7 gpm7 gcd7 gct7:Value}
  (a0:FA K "kind_of" zGm f0)
  (a1:FA K "is_name" (top 11) f1)
  (a2:FA K "is_text_sign" yAb f2)
  (a3:FA K "is_sound_outside" zYw f3)
  (a4:FA K "tokens" zMa f4)
  (a5:FA K "kind_at" zVr f5)
  (a6:FA K "token_end" zGd f6)
  (a7:FA K "run_end" zXx f7)
  (a8:FA K "number_end" zMe f8)
  (a9:FA K "text_end" zHq f9)
  (a10:FA K "string_of" zJo f10)
  (a11:FA K "read" zSi f11)
  (a12:FA K "tokens_to_stray" zYl f12)
  (a13:FA K "begins_thing" zZq f13)
  (a14:FA K "plain_thing" zZv f14)
  (a15:FA K "_law_cell" zSz f15)
  (a16:FA K "_law_sort" zPb f16)
  (a17:FA K "_law_alike" zBs f17)
  (a18:FA K "_law_sticks" zFn f18)
  (a19:FA K "_law_shown" zJn f19)
  (a20:FA K "_law_laid" zRh f20)
  (a21:FA K "_law_begins" sLb f21)
  (a22:FA K "_law_beyond" sLy f22)
  (a23:FA K "_law_value" sLv f23)
  (a24:FA K "_law_thing_next" sTn f24)
  (a25:FA K "_law_name_next" sNn f25)
  (a26:FA K "_law_next" sNx f26)
  (a27:FA K "_law_due" sDu f27)
  (a28:FA K "_law_one" sOn f28)
  (a29:FA K "_law_told" sTo f29)
  (a30:FA K "_law_as_due" sAs f30)
  (a31:FA K "_law_edge_number" sEn f31)
  (a32:FA K "_law_many" sMa f32)
  (a33:FA K "_law_deep" sDe f33)
  (a34:FA K "_law_size" sSi f34)
  (a35:FA K "_law_edge" sEd f35)
  (a36:FA K "_law_bad" zZs f36)
  (a37:FA K "_law_with_bad" sWb f37)
  (a38:nsIn K mainGlobals "law" =some (some (.ref f38)))
  (l38:K.lookup f38=some ⟨oc38,od38, .func (fnOf "law" "law" (yZ zFa) (yU zFa) (zO zFa) .none kV38 dc38 pm38 an38 cd38 ct38),sl38⟩)
  (c38:codeIn K cd38 "law" =true)
  (k38:keepIn K (.ref f38)=true)
  (z0:nsIn K mainGlobals "len" =some none)
  (z1:nsIn K mainGlobals "range" =some none)
  (z2:nsIn K mainGlobals "isinstance" =some none)
  (z3:nsIn K mainGlobals "all" =some none)
  (z4:nsIn K mainGlobals "sum" =some none)
  (z5:nsIn K mainGlobals "int" =some none)
  (z6:nsIn K mainGlobals "str" =some none)
  (z7:nsIn K mainGlobals "bool" =some none)
  (z8:nsIn K mainGlobals "list" =some none)
  (z9:nsIn K mainGlobals "dict" =some none)
  (z10:nsIn K mainGlobals "tuple" =some none)
  (y0:nsIn K mainGlobals "max" =some none)
  (y1:nsIn K mainGlobals "min" =some none)
  (y2:nsIn K mainGlobals "sorted" =some none)
  (q0:nsIn K mainGlobals "abs" =some none)
  (q1:nsIn K mainGlobals "ord" =some none)
  (s0:nsIn K mainGlobals "LETTERS" =some (some (.str (Str.ofString "abcdefghijklmnopqrstuvwxyz") u0)))
  (s1:nsIn K mainGlobals "FIGURES" =some (some (.str (Str.ofString "0123456789") u1)))
  (s2:nsIn K mainGlobals "NAME_SIGNS" =some (some (.str (Str.ofString "abcdefghijklmnopqrstuvwxyz0123456789") u2)))
  (s3:nsIn K mainGlobals "MARKS" =some (some (.str (Str.ofString "[]{},:") u3)))
  (n0:nsIn K mainGlobals "MOST_IN_NAME" =some (some (.int 12 v0)))
  (n1:nsIn K mainGlobals "MOST_IN_TEXT" =some (some (.int 30 v1)))
  (n2:nsIn K mainGlobals "MOST_IN_ROW" =some (some (.int 60 v2)))
  (n3:nsIn K mainGlobals "MOST_IN_RECORD" =some (some (.int 30 v3)))
  (n4:nsIn K mainGlobals "MOST_DEPTH" =some (some (.int 8 v4)))
  (n5:nsIn K mainGlobals "MOST_SIZE" =some (some (.int 200 v5)))
  (n6:nsIn K mainGlobals "MOST_SIGNS" =some (some (.int 20000 v6)))
  (n7:nsIn K mainGlobals "MOST_IN_NUMBER" =some (some (.int 14 v7)))
  (xcl:nsIn K mainGlobals "Reader" =some (some (.ref xR)))
  (ga0:findIn K (.ref xR) "__init__" =some (some (.ref g0)))
  (gi0:isFn K (.ref g0)=true)
  (gl0:K.lookup g0=some ⟨goc0,god0, .func (fnOf "__init__" "Reader.__init__" (yZ sRi) (yU sRi) (zO sRi) .none gkV0 gdc0 gpm0 gan0 gcd0 gct0),gsl0⟩)
  (gc0:codeIn K gcd0 "Reader.__init__" =true)
  (gk0:keepIn K (.ref g0)=true)
  (ga1:findIn K (.ref xR) "passes" =some (some (.ref g1)))
  (gi1:isFn K (.ref g1)=true)
  (gl1:K.lookup g1=some ⟨goc1,god1, .func (fnOf "passes" "Reader.passes" (yZ sRp) (yU sRp) (zO sRp) .none gkV1 gdc1 gpm1 gan1 gcd1 gct1),gsl1⟩)
  (gc1:codeIn K gcd1 "Reader.passes" =true)
  (gk1:keepIn K (.ref g1)=true)
  (ga2:findIn K (.ref xR) "pass_over" =some (some (.ref g2)))
  (gi2:isFn K (.ref g2)=true)
  (gl2:K.lookup g2=some ⟨goc2,god2, .func (fnOf "pass_over" "Reader.pass_over" (yZ sRo) (yU sRo) (zO sRo) .none gkV2 gdc2 gpm2 gan2 gcd2 gct2),gsl2⟩)
  (gc2:codeIn K gcd2 "Reader.pass_over" =true)
  (gk2:keepIn K (.ref g2)=true)
  (ga3:findIn K (.ref xR) "thing_here" =some (some (.ref g3)))
  (gi3:isFn K (.ref g3)=true)
  (gl3:K.lookup g3=some ⟨goc3,god3, .func (fnOf "thing_here" "Reader.thing_here" (yZ sRt) (yU sRt) (zO sRt) .none gkV3 gdc3 gpm3 gan3 gcd3 gct3),gsl3⟩)
  (gc3:codeIn K gcd3 "Reader.thing_here" =true)
  (gk3:keepIn K (.ref g3)=true)
  (ga4:findIn K (.ref xR) "holder_here" =some (some (.ref g4)))
  (gi4:isFn K (.ref g4)=true)
  (gl4:K.lookup g4=some ⟨goc4,god4, .func (fnOf "holder_here" "Reader.holder_here" (yZ sRh) (yU sRh) (zO sRh) .none gkV4 gdc4 gpm4 gan4 gcd4 gct4),gsl4⟩)
  (gc4:codeIn K gcd4 "Reader.holder_here" =true)
  (gk4:keepIn K (.ref g4)=true)
  (ga5:findIn K (.ref xR) "row_here" =some (some (.ref g5)))
  (gi5:isFn K (.ref g5)=true)
  (gl5:K.lookup g5=some ⟨goc5,god5, .func (fnOf "row_here" "Reader.row_here" (yZ sRr) (yU sRr) (zO sRr) .none gkV5 gdc5 gpm5 gan5 gcd5 gct5),gsl5⟩)
  (gc5:codeIn K gcd5 "Reader.row_here" =true)
  (gk5:keepIn K (.ref g5)=true)
  (ga6:findIn K (.ref xR) "record_here" =some (some (.ref g6)))
  (gi6:isFn K (.ref g6)=true)
  (gl6:K.lookup g6=some ⟨goc6,god6, .func (fnOf "record_here" "Reader.record_here" (yZ sRd) (yU sRd) (zO sRd) .none gkV6 gdc6 gpm6 gan6 gcd6 gct6),gsl6⟩)
  (gc6:codeIn K gcd6 "Reader.record_here" =true)
  (gk6:keepIn K (.ref g6)=true)
  (ga7:findIn K (.ref xR) "name_here" =some (some (.ref g7)))
  (gi7:isFn K (.ref g7)=true)
  (gl7:K.lookup g7=some ⟨goc7,god7, .func (fnOf "name_here" "Reader.name_here" (yZ sRn) (yU sRn) (zO sRn) .none gkV7 gdc7 gpm7 gan7 gcd7 gct7),gsl7⟩)
  (gc7:codeIn K gcd7 "Reader.name_here" =true)
  (gk7:keepIn K (.ref g7)=true)
  (xpg:plainGet K xR Str.empty=true)
  (xhd:hasDictIn K xR=true)
  (xpo:plainOver K xR=true)
  (xsa:findIn K (.ref xR) "__setattr__" =some (some (.builtin "object.__setattr__")))
  (xmk:makesIn K xR=true)
  (xkc:keepIn K (.ref xR)=true)
  (xnf:findIn K (.ref xR) "found" =some none)
  (xnp:findIn K (.ref xR) "place" =some none)
  (xnb:findIn K (.ref xR) "begun" =some none)
  (xwa:nsIn K mainGlobals "WORDS" =some (some (.ref xW)))
  (xwl:K.lookup xW=some ⟨.type "dict",none, .dict #[⟨PyData.keyHash w.params (Str.ofString "none"), .str (Str.ofString "none") wt1, .none⟩,⟨PyData.keyHash w.params (Str.ofString "yes"), .str (Str.ofString "yes") wt2, .bool true⟩,⟨PyData.keyHash w.params (Str.ofString "no"), .str (Str.ofString "no") wt3, .bool false⟩] xep,#[]⟩)
  (xwn:(xW==sysModules)=false)
  (xaB:nsIn K mainGlobals "CabinetError" =some (some (.ref xB)))
  (xaV:nsIn K mainGlobals "ValueError" =some none)
  (xb1:tailIn K veMro (.ref xB::veMro)=true)
  (xc0:specialIn K (.ref xB) "__getattribute__" =some (some (.builtin "type.__getattribute__")))
  (xc1:readsIn K xB (.type "type")=true)
  (xc2:findCls K (.ref xB) (.type "type") "__init__" =some (.val (.builtin "ValueError.__init__")))
  (xe6:specialIn K (.builtin "object.__class__") "__get__" =some (some (.builtin "getset_descriptor.__get__")))
  (xe7:takesIn K (.builtin "object.__class__")=some true)
  (oa:nsIn K mainGlobals "NoPlace" =some (some (.ref oC)))
  (pa:nsIn K mainGlobals "BadText" =some (some (.ref pC)))
  (pb0:K.lookup pC=some (excClassObj "BadText" pq pC pN pbs (.ref xB::veMro) true psn psub pab pcol pdd pk0 pk1 pk2 pk3 pk5 "ValueError.__new__"))
  (pb2:findIn K (.ref pC) "__init__" =some (some (.ref pF)))
  (pb3:typeIn K (.ref pF)=some (.type "function"))
  (pb4:findIn K (.ref pC) "__setattr__" =some (some (.builtin "object.__setattr__")))
  (pb5:findIn K (.ref pC) "at" =some none)
  (pb6:keepIn K (.ref pC)=true)
  (pd0:K.lookup pF=some ⟨poc,pod, .func (fnOf "__init__" "BadText.__init__" (yZ wN) (yU wN) (zO wN) (.ref pD) pkV pdc ppm pan pcd pct),psl⟩)
  (pd1:codeIn K pcd "BadText.__init__" =true)
  (pd2:K.lookup pD=some ⟨pdc',pdo, .seq #[pdv] pdn,pds⟩)
  (ta:nsIn K mainGlobals "TooGreat" =some (some (.ref tC)))
  (tb0:K.lookup tC=some (excClassObj "TooGreat" tq tC tN tbs (.ref xB::veMro) true tsn tsub tab tcol tdd tk0 tk1 tk2 tk3 tk5 "ValueError.__new__"))
  (tb2:nsOkIn K tN=true)
  (tb3:nsIn K tN "__init__" =some none)
  (tb6:keepIn K (.ref tC)=true)
  (pe0:findIn K (.ref pC) "__getattribute__" =some (some (.builtin "BaseException.__getattribute__")))
  (pe1:findIn K (.ref pC) "__getattr__" =some none)
  (pe2:mroIn K pC (.type "BaseException")=some true)
  (pe3:mroIn K pC (.type "object")=some true)
  (pe4:hasDictIn K pC=true)
  (pe5:findIn K (.ref pC) "__class__" =some (some (.builtin "object.__class__")))
  (te0:findIn K (.ref tC) "__getattribute__" =some (some (.builtin "BaseException.__getattribute__")))
  (te1:findIn K (.ref tC) "__getattr__" =some none)
  (te2:mroIn K tC (.type "BaseException")=some true)
  (te3:mroIn K tC (.type "object")=some true)
  (te4:hasDictIn K tC=true)
  (te5:findIn K (.ref tC) "__class__" =some (some (.builtin "object.__class__")))
  (xx0:exmOne K (.ref pC) (.ref xB)=some true)
  (xx1:exmOne K (.ref tC) (.ref xB)=some true)
  (xxp:exmOne K (.ref pC) (.ref pC)=some true)
  (xk00:kitOne K (.ref pC) (.ref pC)=some true)
  (xk01:kitOne K (.ref pC) (.ref tC)=some false)
  (xk02:kitOne K (.ref pC) (.ref oC)=some false)
  (xk0V:kitOne K (.ref pC) (.type "ValueError")=some true)
  (xk10:kitOne K (.ref tC) (.ref pC)=some false)
  (xk11:kitOne K (.ref tC) (.ref tC)=some true)
  (xk12:kitOne K (.ref tC) (.ref oC)=some false)
  (xk1V:kitOne K (.ref tC) (.type "ValueError")=some true):
  ∃fd:FuncData,(∀(s:Shared)(v:Value),BindsTo s fd ⟨[v],[]⟩ [("_law_script",v)])/\∀base:Heap,K.In base->base.Ns mainGlobals mg->FnOk l.prog w K mg base CX0 34 fa fd ["_law_script"] (zLa K):=by
 have e:=hfa.symm.trans (mg_of X G a38);cases e;have Flaw:=qI (st:=zFa) l38 c38 k38;have B:Bl mg:=⟨mg_none_of X G z0,mg_none_of X G z1,mg_none_of X G z2,mg_none_of X G z3,mg_none_of X G z4,mg_none_of X G z5,mg_none_of X G z6,mg_none_of X G z7,mg_none_of X G z8,mg_none_of X G z9,mg_none_of X G z10⟩;have B2:Bl2 mg:=⟨B,mg_none_of X G y0,mg_none_of X G y1,mg_none_of X G y2⟩;have B5:Bl5 mg:=⟨B2,mg_none_of X G q0,mg_none_of X G q1⟩;have M:Ms mg:=⟨⟨_,mg_of X G s0⟩,⟨_,mg_of X G s1⟩,⟨_,mg_of X G s2⟩,⟨_,mg_of X G s3⟩,⟨_,mg_of X G n0⟩,⟨_,mg_of X G n1⟩,⟨_,mg_of X G n2⟩,⟨_,mg_of X G n3⟩,⟨_,mg_of X G n4⟩,⟨_,mg_of X G n5⟩,⟨_,mg_of X G n6⟩,⟨_,mg_of X G n7⟩⟩;refine⟨fnOf "law" "law" (yZ zFa) (yU zFa) (zO zFa) .none kV38 dc38 pm38 an38 cd38 ct38,λs v=>.of_eq rfl,λbase _ _=>?_⟩;have D {k x ps sp st f}:=@dn_mk l.prog w K mg base h k x ps sp st f X G;have D3 {k x ps sp st f}:=@zZb l.prog w K mg base h k x ps sp st f X G;have H {k x ps sp st f}:=@dh_mk l.prog w K mg base h k x ps sp st f X G;have EnC {k x ps sp st f}:=@dx_mk nC l.prog w K mg base h k x ps sp st f X G;have R0:=qI (st:=sRi) gl0 gc0 gk0;have r0:=R0.binds (ps:=["self","found"]) λ_ _ _ _ _ _ us hl=>match us,hl with | [_,_],_=>rfl
 have R1:=qI (st:=sRp) gl1 gc1 gk1;have r1:=R1.binds (ps:=["self","kind","string"]) λ_ _ _ _ _ _ us hl=>match us,hl with | [_,_,_],_=>rfl
 have R2:=qI (st:=sRo) gl2 gc2 gk2;have r2:=R2.binds (ps:=["self","kind","string"]) λ_ _ _ _ _ _ us hl=>match us,hl with | [_,_,_],_=>rfl
 have R3:=qI (st:=sRt) gl3 gc3 gk3;have r3:=R3.binds (ps:=["self","depth","crowded"]) λ_ _ _ _ _ _ us hl=>match us,hl with | [_,_,_],_=>rfl
 have R4:=qI (st:=sRh) gl4 gc4 gk4;have r4:=R4.binds (ps:=["self","depth","bracket"]) λ_ _ _ _ _ _ us hl=>match us,hl with | [_,_,_],_=>rfl
 have R5:=qI (st:=sRr) gl5 gc5 gk5;have r5:=R5.binds (ps:=["self","depth"]) λ_ _ _ _ _ _ us hl=>match us,hl with | [_,_],_=>rfl
 have R6:=qI (st:=sRd) gl6 gc6 gk6;have r6:=R6.binds (ps:=["self","depth"]) λ_ _ _ _ _ _ us hl=>match us,hl with | [_,_],_=>rfl
 have R7:=qI (st:=sRn) gl7 gc7 gk7;have r7:=R7.binds (ps:=["self","record"]) λ_ _ _ _ _ _ us hl=>match us,hl with | [_,_],_=>rfl
 have Gcell:=D 1 a15 λF=>zWg F B;have Gko:=D 1 a0 λF=>zKp F B;have Gsg:=H 1 a2 λF=>zZo F B5;have Grun:=H 1 a7 λF=>zYz F B;have Gkat:=H 1 a5 λF=>zUd F B M;have Gne:=H 2 a8 λF=>zUq F B M Grun;have Gte:=H 2 a9 λF=>zWh F B Gsg;have Gtk:=H 3 a6 λF=>zHj F M Gne Grun Gte;have Gso:=H 1 a10 λF=>zQj F;have Gto:=H 4 a4 λF=>zLt F B Grun Gkat Gtk Gso;have mB:=mg_of X G xaB;have mP:=mg_of X G pa;have mT:=mg_of X G ta;have XC:zKv K "BadText" pC xB pF:=⟨⟨pN,_,pb0,_,_,_,_,_,_,_,_,_,_,_,_,_,rfl⟩,⟨_,by unfold clsIn;rw[pb0],rfl,rfl⟩,xb1,pb2,pb3,pb4,pb5,pb6⟩;have XB:zPp K xB:=⟨xc0,xc1,xc2⟩;have RB:Xr l.prog w K mg base 1 "BadText" pC:=⟨_,_,_,_,_,XC,zUn pd0 pd1 XC XB mB,zJl pd2 rfl rfl,mP⟩;have RT:Xr0 K mg "TooGreat" tC:=⟨_,_,⟨⟨tN,_,tb0,⟨_,_,_,_,_,_,_,_,_,_,_,_,_,rfl⟩,tb2,tb3⟩,xb1,tb6⟩,mT⟩;have G0:uT K pC:=⟨pe0,pe1,pe2,pe3,pe4,pe5,xe6,xe7⟩;have G1:uT K tC:=⟨te0,te1,te2,te3,te4,te5,xe6,xe7⟩;have CF:Cf K mg (cls3 pC tC oC) xB:=⟨mg_none_of X G xaV,mB,mP,mT,mg_of X G oa,xx0,xx1,G0,G1,pb5,xk00,xk01,xk02,xk0V,xk10,xk11,xk12,xk1V⟩;have Gkx:=EnC 3 a5 λF=>FnOk.or (FnOk.lift (FnOk.mono (zUd F B M).fn (by decide))) (zWn F B M RB);have Gnx:=EnC 3 a8 λF=>zTt F B M Grun.dn RB;have Gtx:=EnC 3 a9 λF=>FnOk.or (zRt F B Gsg.dn RB) (zTu F B Gsg.dn RB);have Gkx2:=EnC 4 a6 λF=>FnOk.or (FnOk.lift (FnOk.mono (zHj F M Gne Grun Gte).fn (by decide))) (zNv F M Gnx Grun.dn Gtx);have Gtox:=EnC 5 a4 λF=>FnOk.or (FnOk.lift (FnOk.mono (zLt F B Grun Gkat Gtk Gso).fn (by decide))) (zSs F B Grun.dn Gkx Gkx2 Gso.dn);have Gin:=D (sp:=zZd) (ps:=["thing"]) 1 a1 λ{fd} F=>ok_no (k:=1);have Gsnd:=D 2 a3 λF=>zYf F B5 M Gko Gsg.dn Gin;have W:Wd l.prog w K mg xW:=⟨mg_of X G xwa,xwn,λh' X'=>zSd (X' _ _ xwl)⟩;have Gbeg:=D 1 a13 λF=>zYv F B W;have Gpln:=EnC 3 a14 λF=>zYp F B M W Gsnd RT;have R:Rc K xR:=⟨⟨xpg,xhd,xpo,xsa⟩,xnf,xnp,xnb⟩;have Dps:Dm l.prog w K mg base 1 xR "passes" ["self","kind","string"] (zOa xR):=⟨_,_,R.cls,⟨ga1,gi1,gk1⟩,ok_ps R1 R,r1⟩;have Dpo:Dmx nC l.prog w K mg base 3 xR "pass_over" ["self","kind","string"] (zJr xR pC):=⟨_,_,R.cls,⟨ga2,gi2,gk2⟩,ok_po R2 R Dps RB,r2⟩;have Dnm:Dmx nC l.prog w K mg base 3 xR "name_here" ["self","record"] (zOy xR pC tC):=⟨_,_,R.cls,⟨ga7,gi7,gk7⟩,ok_nm R7 B M R RB RT,r7⟩;have Dth:Dmx nC l.prog w K mg base (4+3*9) xR "thing_here" ["self","depth","crowded"] (zDm xR pC tC 9):=⟨_,_,R.cls,⟨ga3,gi3,gk3⟩,zUh R3 R4 R5 R6 B M R RB RT Gbeg Gpln Dps Dpo Dnm ⟨ga3,gi3,gk3⟩ ⟨ga4,gi4,gk4⟩ ⟨ga5,gi5,gk5⟩ ⟨ga6,gi6,gk6⟩ r3 r4 r5 r6 9,r3⟩;have Dmk:Dk l.prog w K mg base 1 "Reader" xR ["self","found"] (zXu xR):=⟨_,_,⟨xmk,ga0,gi0,xkc⟩,ok_ri R0 R,r0,mg_of X G xcl⟩;have Gst:=D 6 a12 λF=>zZy F B mP xxp G0 pb5 Gtox Gto;have Grd:=EnC 32 a11 λF=>zVu F B M RT Gst Dmk Dth Dpo;have Gon:=H 1 a28 λF=>ok_on F B B5 CF;have Gtold:=D 33 a29 λF=>ok_to F B CF Grd Gon;have Gsrt:=D 1 a16 λF=>zUp F B;have Gal:=D3 (2+10) a17 λF b p m=>zEc F B2 Gsrt b p m 10;have Gas:=D 13 a30 λF=>ok_as F B Gal;have Glb:=D 1 a21 λF=>ok_lb F B M;have Gly:=D 1 a22 λF=>ok_ly F B M;have Glv:=D 1 a23 λF=>ok_lv F B M;have Gtn:=D 2 a24 λF=>ok_tn F B M Glb Gly Glv;have Gnn:=D 1 a25 λF=>ok_nn F B M;have Gnx2:=D 3 a26 λF=>ok_nx F B M Gtn Gnn;have Gdue:=D 4 a27 λF=>ok_du F B M Gnx2;have Gstk:=D 1 a18 λF=>zNo F;have Gsh:=D 1 a19 λF=>zPl F B;have Gla:=D 2 a20 λF=>zVi F B2 Gstk Gsh;have Gbad:=D 1 a36 λF=>zZa F;have Gwb:=D 2 a37 λF=>ok_wb F Gbad;have Gen:=D 1 a31 λF=>ok_en F B;have Gma:=D 1 a32 λF=>ok_ma F B;have Gde:=D 1 a33 λF=>ok_de F B;have Gsi:=D 1 a34 λF=>ok_si F B2;have Ged:=D 2 a35 λF=>ok_ed F Gen Gde Gsi Gma;exact zYo Flaw B2 Gcell Ged Gwb Gla Gtold Gdue Gas
theorem walk{l:W.OpenLaw}{q:Program}{loose:List Str}{XP:(Str->Option Value)->Heap->Prop}{YP:World->Heap->Prop}{d:DefRec}{K:Params->W.Frag}(hn:l.most=some 63)(hdf:d.params.defaults= [])
  (hY:∀(w:World)(h:Heap),YP w h->(K w.params).In h)
  (F:∀(w:World)(mg:Str->Option Value)(fa:Addr)(h:Heap),(K w.params).In h->h.Ns mainGlobals mg->mg d.name=some (.ref fa)->
   ∃fd:FuncData,(∀(s:Shared)(u:Value),BindsTo s fd ⟨[u],[]⟩ [("_law_script",u)])/\∀base:Heap,(K w.params).In base->base.Ns mainGlobals mg->FnOk l.prog w (K w.params) mg base CX0 34 fa fd ["_law_script"] (zLa (K w.params))):
  W.WalkO q loose XP YP l.row.toRowW d [] (λf vs=>PySem.call f vs):=
 L2.zLr (n:=63) (k:=34) (x:="_law_script") (CX:=λ_=>CX0) (sp:=λw=>zLa (K w.params)) hn (by decide) hdf ⟨rfl,by decide,by decide⟩ hY F (λ_ _ a ns hl _ hS=>⟨a,ns,rfl,hS,hl,λ_=>rfl⟩) λ_ _ _ _ _ z=>z
end K26
end
namespace PySem.W.Fast
def tw793230584875659508:=()
def tw5088129326686053590:=()
def tw6928287251892522875:=()
def tw8693866493436685143:=()
def tw12936531402656854440:=()
def tw14596055634450868443:=()
def tw12402193673184256942:=()
def tw6160522266992760847:=()
def tw8328737033145115644:=()
def tw101197636330722784:=()
def tw8888385232048184668:=()
def tw12688662146375388024:=()
def tw13929667699474159707:=()
def tw17561390594378806057:=()
def tw16764598784115220586:=()
def tw15337147317178535374:=()
def tw15702174826897310422:=()
def tw3084397294841749271:=()
def tw7347965142477605352:=()
def tw8324914454927042327:=()
def tw9421880221602705313:=()
def tw5858106630090769291:=()
def tw14732668059508267930:=()
def tw18247608553879712963:=()
def tw15657962725867161203:=()
def tw11127436939148189294:=()
def tw13296973760747129396:=()
def tw7706581285410507878:=()
def tw16032774361963352371:=()
def tw9715031656402994496:=()
def tw16721922596102196279:=()
def tw17353140865055997176:=()
def tw9305229144144037470:=()
def tw6322240190363982429:=()
def tw6118242718853528274:=()
def tw8062652126241450134:=()
def tw16229048487459982361:=()
def tw12206294427283140607:=()
def tw6169347501420141113:=()
def tw5652516803501373500:=()
def tw8091914136278576331:=()
def tw2598196019468190611:=()
def tw9567723643708470411:=()
def tw13467876740639622886:=()
def tw2013290859509079609:=()
def tw10413466720258553077:=()
def tw6046198600276644259:=()
def tw12239026138032598194:=()
def tw16746971237561651125:=()
def tw4842555571060365867:=()
def tw13516980711188470121:=()
def tw2600987542536769033:=()
def tw1615813845270919745:=()
def tw1896157940167942578:=()
def tw18071615133109047890:=()
def tw1566006592958013290:=()
def tw11821407182188209949:=()
def tw6969410108892628476:=()
def tw16357301960657322342:=()
def tw12864872616805348161:=()
def tw6708393041358603224:=()
def tw15635950348691900730:=()
def tw17865008945131714749:=()
def tw13108047264235689731:=()
def tw4873497208887598086:=()
def tw14150863964225401109:=()
def tw5240068316357772491:=()
def tw17413938652810817574:=()
def tw1475719026062960473:=()
def tw10672060432181040639:=()
def tw3621021158038961956:=()
def tw10354608494946409506:=()
def tw16939250387095701710:=()
def tw5429456499350789151:=()
def tw11193362779891625212:=()
def tw1566384335585333100:=()
def tw8421111546257210347:=()
def tw7522039453081147819:=()
def tw17720893390495610701:=()
def tw8736952466475957371:=()
def tw14945108595137941683:=()
def tw13838334966833238136:=()
def tw5119753364115610816:=()
def tw6161597670475226020:=()
def tw4813365245146753103:=()
def tw13519080758793077173:=()
def tw12334351627934936356:=()
def tw2641446583514242914:=()
def tw6687919992899929844:=()
def tw12725675421072117006:=()
def tw12173346420800939916:=()
def tw2745668499803579995:=()
def tw17829304068123698670:=()
def tw5578812954911068769:=()
def tw4488564776776242113:=()
def tw881237070598004183:=()
def tw14860630062417866665:=()
def tw8398096936263097517:=()
def tw17786836655617141961:=()
def tw9538092504067211474:=()
def tw5695374524272693978:=()
def tw7129410181790813291:=()
def tw6082579884509625306:=()
def tw4781022667824130084:=()
def tw7402724723950404586:=()
def tw6409406761861747782:=()
def tw11985117013275599877:=()
def tw18226316792667783997:=()
def tw1970114145948551522:=()
def tw15732177089551803943:=()
def tw12720585591020819912:=()
def tw15659687555450211231:=()
def tw15169927968284725355:=()
def tw8924401035674794859:=()
def tw11388934369143751834:=()
def tw14835137624555654406:=()
def tw11007968212081082761:=()
def tw11339533408324869603:=()
def tw4431013196318482631:=()
def tw9448807090313926084:=()
def tw1352796283149423469:=()
def tw15821697602613489450:=()
def tw4414479477228562794:=()
def tw11710341927678959761:=()
def tw3293924732458447495:=()
def tw5170301554879531298:=()
def tw9665098293799399262:=()
def tw16727640904554220307:=()
def tw3363091497429650434:=()
def tw8076559961973542426:=()
def tw6598911574532523921:=()
def tw688880426074648881:=()
def tw9859790623675068369:=()
def tw2314251210080208486:=()
def tw8832655743475258602:=()
def tw2621956717602493667:=()
def tw1285280684101470458:=()
def tw18296080943557869297:=()
def tw10439727266135376878:=()
def tw5797961290407626528:=()
def tw4154711268280606679:=()
def tw1152884526818055945:=()
def tw18110074820121696034:=()
def tw13986704053999552331:=()
def tw18180917913367482297:=()
def tw8657619327742173352:=()
def tw5299470514559694248:=()
def tw11672282901728371874:=()
def tw3890222612083125747:=()
def tw10357396174651643155:=()
def tw339130441457453670:=()
def tw4055907698691406455:=()
def tw14988099195123676406:=()
def tw14376752442514599572:=()
def tw10786244845124249254:=()
def tw6305164472713227473:=()
def tw12716336562656535588:=()
def tw723014491282650653:=()
def tw5852618793428126042:=()
def tw16236100436479744878:=()
def tw11905155744929899191:=()
def tw9849893835208114701:=()
def tw704835606128826766:=()
def tw747184001485952216:=()
def tw5056744845485894779:=()
def tw4614185487129505718:=()
def tw10911713454747579676:=()
def tw16955152001037512289:=()
def tw17535076955660273088:=()
def tw11686479746864951065:=()
def tw2390715479203694199:=()
def tw11703754993017892934:=()
def tw509404047996644899:=()
def tw8065858783861184814:=()
def tw8501257047838316509:=()
def tw5101567242126428504:=()
def tw5428207251086676022:=()
def tw1141338313166214011:=()
def tw13898457812271343862:=()
def tw11437225426953571894:=()
def tw4267346497559129492:=()
def tw9729654778847191179:=()
def tw680017874107908505:=()
def tw7819750932155664487:=()
def tw2732435341046932851:=()
def tw4884419992066332720:=()
def tw16393023355897289805:=()
def tw1779931863733179076:=()
def tw15825618766386650581:=()
def tw6864339441747823511:=()
def tw526008605475499516:=()
def tw14687751329683501435:=()
def tw6231362685426802477:=()
def tw8637549957514122004:=()
def tw16797150273115461673:=()
def tw13090444690943921821:=()
def tw18164709689348785954:=()
def tw8559526562802809212:=()
def tw7685993863121095915:=()
def tw9962802577507021291:=()
def tw1422023461550276113:=()
def tw487250738599249821:=()
def tw15764822573318292886:=()
def tw10755614217555677046:=()
def tw3492654636367336838:=()
def tw16785833175539410463:=()
def tw7224923424286969442:=()
def tw3155797110580727822:=()
def tw15778705251784374646:=()
def tw11739453599575314442:=()
def tw4397135165633229601:=()
def tw4014609437681795701:=()
def tw5461224841575486851:=()
def tw10815593831645191364:=()
def tw10635478805570756890:=()
def tw14522511020256422527:=()
def tw3997971672551711060:=()
def tw5150672224906109501:=()
def tw6595400974085139826:=()
def tw14544610303638258652:=()
def tw17026700453556747213:=()
def tw6201351521836303130:=()
def tw3459957140344972953:=()
def tw16174528363897879574:=()
def tw5617292521478140251:=()
def tw9815124621177725233:=()
def tw6268212080426439547:=()
def tw11359119317644930089:=()
def tw2510933211586430191:=()
def tw15584937432455314488:=()
def tw144600092823802435:=()
def tw14140442341261811811:=()
def tw5893113741802716272:=()
def tw8529403156107623856:=()
def tw17574806752807905994:=()
def tw16111406024445343048:=()
def tw6087607787798332965:=()
def tw13057808402885774679:=()
def tw6331292929106618661:=()
def tw15578919909071227790:=()
end PySem.W.Fast
open PySem PySem.W PyProof.Rows
set_option maxRecDepth 100000 in
set_option maxHeartbeats 0 in
theorem PySem.Challenge.cw_cabinet_k26_bounds_told_holds : PySem.Challenge.rw_cabinet_k26_bounds_told.Holds := by
  w_on;o_law;k_head;(case hw=>w_witness2)
  k_fill
  refine K26.walk (l:=PySem.Challenge.rw_cabinet_k26_bounds_told) rfl rfl (fun w h Y=>PySem.W.kIn_of Y) ?F
  case F=>
    intro w mg fa h KX G hmg;refine' K26.all_mk KX G hmg ?a0 ?a1 ?a2 ?a3 ?a4 ?a5 ?a6 ?a7 ?a8 ?a9 ?a10 ?a11 ?a12 ?a13 ?a14 ?a15 ?a16 ?a17 ?a18 ?a19 ?a20 ?a21 ?a22 ?a23 ?a24 ?a25 ?a26 ?a27 ?a28 ?a29 ?a30 ?a31 ?a32 ?a33 ?a34 ?a35 ?a36 ?a37 ?a38 ?l38 ?c38 ?k38 ?z0 ?z1 ?z2 ?z3 ?z4 ?z5 ?z6 ?z7 ?z8 ?z9 ?z10 ?y0 ?y1 ?y2 ?q0 ?q1 ?s0 ?s1 ?s2 ?s3 ?n0 ?n1 ?n2 ?n3 ?n4 ?n5 ?n6 ?n7 ?xcl ?ga0 ?gi0 ?gl0 ?gc0 ?gk0 ?ga1 ?gi1 ?gl1 ?gc1 ?gk1 ?ga2 ?gi2 ?gl2 ?gc2 ?gk2 ?ga3 ?gi3 ?gl3 ?gc3 ?gk3 ?ga4 ?gi4 ?gl4 ?gc4 ?gk4 ?ga5 ?gi5 ?gl5 ?gc5 ?gk5 ?ga6 ?gi6 ?gl6 ?gc6 ?gk6 ?ga7 ?gi7 ?gl7 ?gc7 ?gk7 ?xpg ?xhd ?xpo ?xsa ?xmk ?xkc ?xnf ?xnp ?xnb ?xwa ?xwl ?xwn ?xaB ?xaV ?xb1 ?xc0 ?xc1 ?xc2 ?xe6 ?xe7 ?oa ?pa ?pb0 ?pb2 ?pb3 ?pb4 ?pb5 ?pb6 ?pd0 ?pd1 ?pd2 ?ta ?tb0 ?tb2 ?tb3 ?tb6 ?pe0 ?pe1 ?pe2 ?pe3 ?pe4 ?pe5 ?te0 ?te1 ?te2 ?te3 ?te4 ?te5 ?xx0 ?xx1 ?xxp ?xk00 ?xk01 ?xk02 ?xk0V ?xk10 ?xk11 ?xk12 ?xk1V
    case a0 | a1 | a2 | a3 | a4 | a5 | a6 | a7 | a8 | a9 | a10 | a11 | a12 | a13 | a14 | a15 | a16 | a17 | a18 | a19 | a20 | a21 | a22 | a23 | a24 | a25 | a26 | a27 | a28 | a29 | a30 | a31 | a32 | a33 | a34 | a35 | a36 | a37=>exact⟨by k_is,_,_,_,_,_,_,_,_,_,by k_is,by k_is,by k_is⟩
    case a38 | l38 | c38 | k38 | z0 | z1 | z2 | z3 | z4 | z5 | z6 | z7 | z8 | z9 | z10 | y0 | y1 | y2 | q0 | q1 | s0 | s1 | s2 | s3 | n0 | n1 | n2 | n3 | n4 | n5 | n6 | n7 | xcl | ga0 | gi0 | gl0 | gc0 | gk0 | ga1 | gi1 | gl1 | gc1 | gk1 | ga2 | gi2 | gl2 | gc2 | gk2 | ga3 | gi3 | gl3 | gc3 | gk3 | ga4 | gi4 | gl4 | gc4 | gk4 | ga5 | gi5 | gl5 | gc5 | gk5 | ga6 | gi6 | gl6 | gc6 | gk6 | ga7 | gi7 | gl7 | gc7 | gk7 | xpg | xhd | xpo | xsa | xmk | xkc | xnf | xnp | xnb | xwa | xwl=>k_is
    case xwn=>first | k_is | exact rfl | decide
    case xaB | xaV=>k_is
    case xb1=>first | rfl | kernel_rfl
    case xc0 | xc1 | xc2 | xe6 | xe7 | oa | pa | pb0 | pb2 | pb3 | pb4 | pb5 | pb6 | pd0 | pd1 | pd2 | ta | tb0=>k_is
    case tb2=>first | rfl | kernel_rfl
    case tb3 | tb6 | pe0 | pe1 | pe2 | pe3 | pe4 | pe5 | te0 | te1 | te2 | te3 | te4 | te5=>k_is
    case xx0 | xx1 | xxp | xk00 | xk01 | xk02 | xk0V | xk10 | xk11 | xk12 | xk1V=>first | k_is | rfl | decide+kernel
